import PyProof.Rows.All
import Wide.All
import OpenK.AllK
import Wide.FinOn
import Lean
import PyProof.EqAt
import PyProof.EqKinds
import PyProof.TupleCall
import KE.KSortTup
import PyProof.FString
import PyProof.StrBlock
import KE.KRevSl
import PyProof.StrLawsReplace
import PyProof.StrCalls6
import PyProof.MinMaxWalk
import PyProof.WalkInts
import PyProof.NeKinds
import KE.KEqDict
import PyProof.Rows.SumAny
import KE.KMinKey
import PyProof.Rows.CallKwBuiltin
import PySem.Challenge.RW_shortglue_k34_table_cells
set_option Elab.async false
set_option linter.all false
set_option maxRecDepth 100000
open List (all_cons all_eq_true all_map any_cons any_eq_false any_eq_true any_map append_assoc append_nil append_toArray concat_eq_append cons_lt_cons_iff contains_cons contains_iff_mem dropLast_concat dropLast_concat_getLast dropLast_eq_take drop_drop drop_eq_getElem_cons drop_eq_nil_of_le drop_left drop_suffix drop_take drop_zero eq_nil_of_length_eq_zero eq_nil_or_concat eq_of_mem_replicate eraseIdxIfInBounds_toArray eraseIdx_cons_succ eraseIdx_eq_take_drop_succ eraseIdx_sublist exists_mem_of_ne_nil ext_getElem ext_getElem? extract_eq_take_drop extract_toArray filterMap_append filterMap_cons filterMap_eq_map filterMap_map filter_append filter_congr filter_cons filter_eq_nil_iff filter_eq_self filter_filter find?_cons find?_eq_none find?_eq_some_iff_append flatMap_append flatMap_cons flatMap_nil flatten_cons foldl_cons forIn_cons forIn_nil getD_eq_getElem?_getD getElem?_append_left getElem?_append_right getElem?_cons_succ getElem?_eq_getElem getElem?_eq_none getElem?_map getElem?_range getElem?_replicate getElem?_reverse getElem?_set_ne getElem?_set_self getElem?_take getElem?_take_of_lt getElem?_zip_eq_some getElem_inj getElem_map getElem_mem getElem_of_mem getElem_range getElem_take getElem_toArray length_append length_cons length_drop length_dropLast length_eq_one_iff length_eq_zero_iff length_eraseIdx length_erase_of_mem length_filter_le length_flatten length_map length_nil length_pos_of_mem length_range length_replicate length_reverse length_set length_singleton length_take lookup_append lookup_cons map_append map_congr_left map_cons map_drop map_map map_nil map_replicate map_reverse map_set map_take mem_append mem_append_left mem_append_right mem_cons mem_cons_of_mem mem_cons_self mem_filter mem_filterMap mem_flatMap mem_flatten mem_iff_getElem mem_iff_getElem? mem_map mem_map_of_mem mem_of_getElem? mem_of_mem_drop mem_of_mem_erase mem_of_mem_eraseIdx mem_of_mem_take mem_range mem_range'_1 mem_replicate mem_reverse mem_singleton ne_nil_of_length_pos nil_append nil_suffix nodup_append nodup_cons nodup_nil nodup_range not_mem_nil of_mem_zip pairwise_append pairwise_cons pairwise_lt_range pairwise_map perm_append_comm range_succ range_succ_eq_map replicate_succ reverse_cons reverse_reverse set_cons_succ set_cons_zero size_toArray suffix_iff_eq_drop sum_append sum_cons sum_replicate_nat tail_cons take_add_one take_append_drop take_length take_nil take_of_length_le take_sublist take_succ take_succ_cons take_take take_zero)
open Nat (add_assoc add_comm add_mul and_one_is_mod div_add_mod eq_of_testBit_eq eq_zero_or_pos le_add_right le_antisymm le_of_ble_eq_true le_of_eq le_of_lt le_of_not_lt le_of_succ_le le_succ lt_of_lt_of_le lt_or_ge lt_pow_two_of_testBit lt_succ_of_lt lt_succ_self max_le min_eq_left min_eq_right min_le_right mod_lt mul_comm mul_le_mul_right mul_pos ne_of_gt ne_of_lt not_lt not_lt_zero not_succ_le_self pow_le_pow_right pow_pos pow_succ sub_le sub_self succ_le_succ succ_mul testBit_eq_decide_div_mod_eq testBit_lt_two_pow testBit_two_pow_add_gt testBit_two_pow_mul_add zero_le zero_lt_succ zero_testBit)
open Int (add_zero ediv_nonneg ediv_one emod_lt_of_pos emod_nonneg fdiv_eq_ediv_of_nonneg fmod_eq_emod_of_nonneg le_ediv_of_mul_le le_max_left le_max_right le_total max_eq_left max_eq_right mul_le_mul_of_nonneg_left mul_one natCast_ediv natCast_nonneg natCast_pow natCast_sub natCast_zero neg_neg ofNat_le toNat_natCast zero_mul)
open Bool (and_eq_false_imp and_eq_true and_eq_true_iff beq_eq_decide_eq false_eq_true not_eq_true or_eq_true)
local macro_rules | `(tactic| walk_at "o")=>`(tactic| first | exact Or.inl rfl | exact Or.inr rfl | exact Or.inr (Or.inl rfl) | exact Or.inr (Or.inr rfl))
set_option maxHeartbeats 4000000
noncomputable section
namespace L2
open PySem PySem.W
def kR(tb:String->Option Builtin)(p:Program)(w:World)(n₀:Nat)(ann:Option Value):Nat->SharedT->Thread->Option SharedT
 | 0,_,_=>none
 | n+1,s,t=>match through t with
  | true=>some s
  | false=>match stepOk n₀ ann t with
   | false=>none
   | true=>match stepT (denote tb) p w s t with
    | some (s',t')=>kR tb p w n₀ ann n s' t'
    | none=>none
theorem lN{tb:String->Option Builtin}{p:Program}{w:World}{n₀:Nat}{ann:Option Value}:∀{n:Nat}{s s':SharedT}{t:Thread},kR tb p w n₀ ann n s t=some s'->topRun tb p w n₀ ann n s.abs t=some s'.abs
 | 0,_,_,_,h=>by cases h
 | n+1,s,s',t,h=>by
  unfold kR at h;unfold topRun
  cases he:through t with
  | true=>rw [he] at h;cases h;rfl
  | false =>
   rw [he] at h
   cases hk:stepOk n₀ ann t with
   | false=>rw [hk] at h;cases h
   | true =>
    rw [hk] at h
    cases hs:stepT (denote tb) p w s t with
    | none=>rw [hs] at h;cases h
    | some r=>obtain⟨s₂,t₂⟩:=r;rw [hs] at h;rw [stepT_spec hs];exact lN h
def wn:List Obj->Nat->BT->BT
 | [],_,t=>t
 | o::r,i,t=>wn r (i+1) (t.ins i o)
def xo(P:Params):BT:=wn (boot_heap P).objs.toList 0 .nil
theorem uE:∀P,absHeap (xo P) (boot_heap P).objs.size (boot_heap P).life=boot_heap P:=fun P=>by kernel_rfl
theorem zM{p q:Program}{loose:List Str}{Xt:Shared->Bool}{α:Type}{Yf:Shared->α}{Ya:World->α}{N:Nat}{g0:Bool}{m₀:Nat}{ann:Option Value}
  (e:opening p=plainProg p.main.scope.names) (hN:Nat.ble 600 N=true) (f:∀s,fenceModules? p s=some s)
  (size:∀w:World,((boot_heap w.params).isNs mainGlobals && (Array.mk []:Array GenState).size == 0,(boot_heap w.params).objs.size,(boot_heap w.params).nsMap mainGlobals "__annotations__")=(true,m₀,ann))
  (run:∀(w:World) (os:OsState),(kR treeTable p w m₀ ann N ⟨xo w.params,m₀,(boot_heap w.params).life,Array.mk [],boot_drawn,boot_toks,os⟩ (topStub p)).map (fun sT=>((staticsOk (importedModules p.main.body) (boot_heap w.params) sT.abs.heap && namesBound p sT.abs.heap && gensDone sT.abs && laidKept (boot_heap w.params) sT.abs.heap),openSeen q loose (importedModules p.main.body) Xt g0 sT.abs,Yf sT.abs))=some (true,openGood q loose,Ya w)):LeftO p q loose Xt Yf Ya N g0:=fun w=>by
 obtain⟨⟨h,gs,d,k,os⟩,e,e'⟩:=Option.map_eq_some_iff.mp (boot_open e hN f w);obtain⟨rfl,rfl,rfl,rfl⟩:h=boot_heap w.params/\gs=Array.mk []/\d=boot_drawn/\k=boot_toks:=by simpa using e'
 obtain⟨z1,z2,z3⟩:_/\_/\_:=by simpa only [Prod.mk.injEq] using size w
 obtain⟨sT,r,l⟩:=Option.map_eq_some_iff.mp (run w os);obtain⟨l1,l2,l3⟩:_/\_/\_:=by simpa only [Prod.mk.injEq] using l
 have r:=lN r
 rw [show SharedT.abs ⟨xo w.params,m₀,(boot_heap w.params).life,Array.mk [],boot_drawn,boot_toks,os⟩=⟨boot_heap w.params,Array.mk [],boot_drawn,boot_toks,os⟩ by
  unfold SharedT.abs;dsimp only;rw [<- z2,uE]] at r
 have t:topFrom treeTable p w N ⟨boot_heap w.params,Array.mk [],boot_drawn,boot_toks,os⟩=some sT.abs:=by
  unfold topFrom;dsimp only;rw [z1,z2,z3,r];show (match staticsOk (importedModules p.main.body) (boot_heap w.params) sT.abs.heap && namesBound p sT.abs.heap && gensDone sT.abs && laidKept (boot_heap w.params) sT.abs.heap with|true=>_|false=>_)=_;rw [l1]
 unfold openEnds;rw [e];show (topFrom treeTable p w N _).map _=_;rw [t];exact congrArg some (Prod.ext l2 l3)
end L2
section
open PySem PySem.W PyProof.Rows
def xp:Program:=PySem.W.view PySem.Challenge.pw_shortglue_k34_table_cells [1,2,3,4,6,7,8,9,11,12,14,15,16,18,20,21,22,23,24,26,27,28,29,30,31,32,33,34,35,36,37,38,39,40,41]
local macro_rules | `(tactic| o_head $H)=>`(tactic| (refine holds_open (q:=xp) (loose:=[PySem.Str.ofString "is_text"]) (Xt:=fun s=>xlAt xp [] s && recOk (RowW.records (OpenRow.toRowW (OpenLaw.row PySem.Challenge.rw_shortglue_k34_table_cells))) s) (XP:=XL xp []) (Yf:=Hook.obs $H) (Ya:=Hook.val $H) (YP:=Hook.says $H) (N:=4192) ?hl (Hook.of $H) (Hook.keeps $H) (fun s e=>xl_of s (and_eq_true_iff.mp e).1) XL.keeps (by rfl) (by rfl) (by rfl) (fun s e=>recFacts_of (and_eq_true_iff.mp e).2) (by rfl) (by first | assumption | decide +kernel) (by decide +kernel) ⟨rfl,rfl,rfl,rfl,rfl,by decide +kernel⟩ ?hw ?hc;(case hl=>(refine L2.zM (m₀:=11) (ann:=some (.ref 6)) (by kernel_rfl) (by rfl) (fun s=>by kernel_rfl) (fun w=>by kernel_rfl) ?_;intro w os;kernel_rfl))))
set_option maxRecDepth 100000 in
set_option maxHeartbeats 0 in
open_top topHd for PySem.Challenge.rw_shortglue_k34_table_cells
end
-- CHANGE: your row's module here,as the last of these rows
namespace L2
open PySem PySem.Spec PyProof.Rows
abbrev Key:=Sum Int Str
def zN:Key->Value->Bool
 | .inl k,v=>Value.isInt k v
 | .inr x,v=>Value.isStrOf x v
def Ed(w:World):Key->Int
 | .inl k=>hashInt k
 | .inr x=>hashStr w x
theorem bO:∀{k:Key}{v:Value},zN k v=true->(∃i t,k=Sum.inl i/\v=Value.int i t)\/(∃x t,k=Sum.inr x/\v=Value.str x t)
 | .inl i,v,h=>by
  obtain⟨t,e⟩:=Value.isInt_shape (k:=i) (v:=v) h;exact .inl ⟨i,t,rfl,e⟩
 | .inr x,v,h=>by
  obtain⟨t,e⟩:=Value.isStrOf_shape (x:=x) (v:=v) h;exact .inr ⟨x,t,rfl,e⟩
theorem zO(a b:Int):decide ((Sum.inl a:Key)=Sum.inl b)=(a == b):=by
 by_cases e:a=b
 .subst e;simp
 .have h:¬ (Sum.inl a:Key)=Sum.inl b:=fun q=>e (Sum.inl.inj q);rw [decide_eq_false h];exact (beq_eq_false_iff_ne.mpr e).symm
theorem zP(a b:Str):decide ((Sum.inr a:Key)=Sum.inr b)=decide (a=b):=by
 by_cases e:a=b
 .subst e;simp
 .have h:¬ (Sum.inr a:Key)=Sum.inr b:=fun q=>e (Sum.inr.inj q);rw [decide_eq_false h,decide_eq_false e]
theorem zQ(a:Int)(b:Str):decide ((Sum.inl a:Key)=Sum.inr b)=false:=decide_eq_false (fun q=>nomatch q)
theorem zR(a:Str)(b:Int):decide ((Sum.inr a:Key)=Sum.inl b)=false:=decide_eq_false (fun q=>nomatch q)
def nz(prog:Program)(w:World):PySem.KeyKind prog w Key where
 is:=zN
 hash:=Ed w
 inj:=fun v a b ha hb=>by
  rcases bO ha with ⟨i,t,rfl,rfl⟩|⟨x,t,rfl,rfl⟩
  .rcases bO hb with ⟨j,u,rfl,e⟩|⟨y,u,rfl,e⟩
   .injection e with e1 _;rw [e1]
   .exact nomatch e
  .rcases bO hb with ⟨j,u,rfl,e⟩|⟨y,u,rfl,e⟩
   .exact nomatch e
   .injection e with e1 _;rw [e1]
 byValue:=fun k v h=>by
  rcases bO h with ⟨i,t,rfl,rfl⟩|⟨x,t,rfl,rfl⟩ <;> rfl
 pyHash:=fun hv h=>by
  rcases bO hv with ⟨i,t,rfl,rfl⟩|⟨x,t,rfl,rfl⟩
  .exact wpAny_pyHash_int h
  .exact wpAny_pyHash_str h
 eqBool:=fun hu hv h=>by
  rcases bO hu with ⟨i,t,rfl,rfl⟩|⟨x,t,rfl,rfl⟩
  .rcases bO hv with ⟨j,u,rfl,rfl⟩|⟨y,u,rfl,rfl⟩
   .rw [zO] at h;exact wpAny_eqBool_int h
   .rw [zQ] at h;exact SeqAt.EqAt.int_str i t y u _ _ _ _ h
  .rcases bO hv with ⟨j,u,rfl,rfl⟩|⟨y,u,rfl,rfl⟩
   .rw [zR] at h;exact SeqAt.EqAt.str_int x t j u _ _ _ _ h
   .rw [zP] at h;exact wpAny_eqBool_str h
 «strs»:=fun k x t v h=>by
  rcases bO h with ⟨i,u,rfl,e⟩|⟨y,u,rfl,e⟩
  .exact nomatch e
  .injection e with e1 _;subst e1;cases v <;> rfl
inductive V where
 | non|bl (b:Bool)|int (i:Int)|str (x:Str)|byt (b:Array UInt8)|flt (b:UInt64)|ref (a:Addr)|ty (n:String)
 deriving DecidableEq
def cJ:V->Value->Prop
 | .non,u=>u=Value.none
 | .bl b,u=>u=Value.bool b
 | .int i,u=>∃t,u=Value.int i t
 | .str x,u=>∃t,u=Value.str x t
 | .byt b,u=>∃t,u=Value.bytes b t
 | .flt b,u=>∃t,u=Value.float b t
 | .ref a,u=>u=Value.ref a
 | .ty n,u=>u=Value.type n
abbrev bz:List V->List Value->Prop:=Paired cJ
theorem bz.length{xs:List V}{us:List Value}(r:bz xs us):xs.length=us.length:=Paired.length r
theorem bz.get:∀{xs:List V}{us:List Value}{i:Nat}{x:V},bz xs us->xs[i]?=some x->∃u,us[i]?=some u/\cJ x u
 | _,_,_,_,.nil,e=>by simp at e
 | _,_,0,_,.cons r _,e=>by simp at e;subst e;exact⟨_,rfl,r⟩
 | _,_,i+1,x,.cons _ t,e=>by
  obtain⟨u,h1,h2⟩:=bz.get (i:=i) (x:=x) t (by simpa using e);exact⟨u,by simpa using h1,h2⟩
theorem bz.set{x:V}{u:Value}(r:cJ x u):∀{xs:List V}{us:List Value} (i:Nat),bz xs us->bz (xs.set i x) (us.set i u)
 | _,_,_,.nil=>.nil
 | _,_,0,.cons _ t=>.cons r t
 | _,_,i+1,.cons q t=>.cons q (bz.set r i t)
theorem bz.append:∀{xs ys:List V}{us ws:List Value},bz xs us->bz ys ws->bz (xs++ys) (us++ws)
 | _,_,_,_,.nil,s=>s
 | _,_,_,_,.cons r t,s=>.cons r (bz.append t s)
theorem bz.take:∀{xs:List V}{us:List Value} (n:Nat),bz xs us->bz (xs.take n) (us.take n)
 | _,_,0,_=>.nil
 | _,_,_+1,.nil=>.nil
 | _,_,n+1,.cons r t=>.cons r (bz.take n t)
theorem bz.drop:∀{xs:List V}{us:List Value} (n:Nat),bz xs us->bz (xs.drop n) (us.drop n)
 | _,_,0,r=>r
 | _,_,_+1,.nil=>.nil
 | _,_,n+1,.cons _ t=>bz.drop n t
def qc:Option V->Option Value->Prop
 | some v,some u=>cJ v u
 | none,none=>True
 | _,_=>False
def KV{κ:Type}:List (κ×V)->List (κ×Value)->Prop:=Paired fun (p:κ×V) (q:κ×Value)=>p.1=q.1/\cJ p.2 q.2
def kV:Key->V
 | .inl i=>.int i
 | .inr x=>.str x
inductive HO where
 | lst (xs:List V)
 | tup (xs:List V)
 | dK (kvs:List (Key×V))|dT (kvs:List (List Key×V))
 | set (S:Int->Bool) (n:Nat)
 | ins (C dx:Addr) (fs:List (Str×V))
 | own (x:Addr)
 | xd (fs:List (Str×V))
 | met (f x:Addr)
 | rng (lo hi:Int)
 | frz (o:Obj) (u:HO)
 | tbl (ps:Array Value)
 | ext (φ:Heap->Prop)
abbrev Hp:=Addr->Option HO
def upd(H:Hp)(a:Addr)(o:HO):Hp:=fun b=>if b=a then some o else H b
theorem aA{H:Hp}{a:Addr}{o:HO}:upd H a o a=some o:=by unfold upd;rw [if_pos rfl]
theorem aj{H:Hp}{a b:Addr}{o:HO}(h:b≠a):upd H a o b=H b:=by unfold upd;rw [if_neg h]
theorem aN{H:Hp}{a b:Addr}{o:HO}(h:H a=some o)(h':H b=none):a≠b:=by
 intro e;subst e;rw [h] at h';cases h'
section
variable (P:Program) (w:World)
def bL(H:Hp)(h:Heap)(a:Addr):HO->Prop
 | .lst xs=>xs.length<=sizeLine/\∃(its:List Value) (n:Nat),bz xs its/\h.get? a=some { cls:=.type "list",data:=.seq its.toArray n }
 | .tup xs=>xs.length<=sizeLine/\∃its:List Value,bz xs its/\IsTup h a its.toArray
 | .dK kvs=>kvs.length<=sizeLine/\(a == sysModules)=false/\∃vs,KV kvs vs/\h.DictOf (nz P w) a vs
 | .dT kvs=>kvs.length<=sizeLine/\(a == sysModules)=false/\∃xs:List (List Key×Addr×Value),
   Paired (fun (p:List Key×V) (q:List Key×Addr×Value)=>p.1=q.1/\H q.2.1=some (.tup (p.1.map kV))/\cJ p.2 q.2.2) kvs xs /\
   ∃o es ep,h.get? a=some o/\o.ExactDict/\o.data=.dict es ep/\es.toList=xs.map (entryOfKey (tupleKind (nz P w)))/\(xs.map (·.1)).Nodup
 | .set S n=>h.SetOf (intKind P w) a S n
 | .ins C dx fs=>H dx=some (.own a)/\fs.length<=1000/\dx≠a/\h.get? a=some (PySem.W.instObj C dx) /\
   ∃mA,h.Ns1 dx mA/\(∀f,qc (fs.lookup f) (mA f))/\PySem.Within mA (fs.map (·.1))
 | .own _=>∃o,h.get? a=some o
 | .xd fs=>∃mA,h.Ns1 a mA/\∀f,qc (fs.lookup f) (mA f)
 | .rng lo hi=>∃t u v,h.get? a=some { cls:=.type "range",data:=.fields #[.int lo t,.int hi u,.int 1 v] }
 | .frz o u=>h.get? a=some o/\bL H h a u
 | .tbl ps=>h.get? a=some { cls:=.none,data:=.fields ps }
 | .met f x=>h.get? a=some (PySem.W.methodObj (.ref f) (.ref x))
 | .ext φ=>φ h/\(∃o,h.get? a=some o)/\∀h1 h2:Heap,φ h1->(∀o,h1.get? a=some o->h2.get? a=some o)->φ h2
def HOk(H:Hp)(h:Heap):Prop:=∀a o,H a=some o->bL P w H h a o
end
section
variable {P:Program}{w:World}{H H':Hp}{h h':Heap}{a:Addr}{o:HO}
theorem bL.lt(x:bL P w H h a o):a<h.objs.size:=by
 cases o with
 | lst xs=>obtain⟨_,_,_,_,e⟩:=x;exact Heap.lt_size e
 | tup xs=>obtain⟨_,_,_,p⟩:=x;exact p.lt
 | dK kvs=>obtain⟨_,_,_,_,o,_,_,e,_⟩:=x;exact Heap.lt_size e
 | dT kvs=>obtain⟨_,_,_,_,o,_,_,e,_⟩:=x;exact Heap.lt_size e
 | set S n=>obtain⟨o,_,_,_,e,_⟩:=x;exact Heap.lt_size e
 | ins C dx fs=>obtain⟨_,_,_,e,_⟩:=x;exact Heap.lt_size e
 | own y=>obtain⟨_,e⟩:=x;exact Heap.lt_size e
 | xd fs=>obtain⟨_,⟨_,_,_,e,_⟩,_⟩:=x;exact Heap.lt_size e
 | rng lo hi=>obtain⟨_,_,_,e⟩:=x;exact Heap.lt_size e
 | frz ob u=>obtain⟨e,_⟩:=x;exact Heap.lt_size e
 | tbl ps=>exact Heap.lt_size (show h.get? a=some _ from x)
 | met f y=>exact Heap.lt_size (show h.get? a=some _ from x)
 | ext φ=>obtain⟨_,⟨_,e⟩,_⟩:=x;exact Heap.lt_size e
theorem Paired.mapP{α β:Type}{F G:α->β->Prop}:∀{l₁:List α}{l₂:List β},Paired F l₁ l₂->(∀a b,F a b->G a b)->Paired G l₁ l₂
 | _,_,.nil,_=>.nil
 | _,_,.cons r t,f=>.cons (f _ _ r) (Paired.mapP t f)
theorem bL.stay(x:bL P w H h a o)(k:∀b u,(b=a\/H b=some (.own a))->h.get? b=some u->h'.get? b=some u)
  (ho:∀b,H b=some (.own a)->H' b=some (.own a)) (ht:∀b xs,H b=some (.tup xs)->H' b=some (.tup xs)):bL P w H' h' a o:=by
 induction o with
 | lst xs=>obtain⟨z,its,n,r,e⟩:=x;exact⟨z,its,n,r,k _ _ (.inl rfl) e⟩
 | tup xs=>obtain⟨z,its,r,ob,e,c⟩:=x;exact⟨z,its,r,ob,k _ _ (.inl rfl) e,c⟩
 | dK kvs=>obtain⟨z,y,vs,r,ob,es,ep,e,c⟩:=x;exact⟨z,y,vs,r,ob,es,ep,k _ _ (.inl rfl) e,c⟩
 | dT kvs =>
  obtain⟨z,y,xs,r,ob,es,ep,e,c⟩:=x;exact⟨z,y,xs,Paired.mapP r fun p q z=>⟨z.1,ht _ _ z.2.1,z.2.2⟩,ob,es,ep,k _ _ (.inl rfl) e,c⟩
 | set S n=>obtain⟨ob,es,ep,t,e,c⟩:=x;exact⟨ob,es,ep,t,k _ _ (.inl rfl) e,c⟩
 | ins C dx fs =>
  obtain⟨d,z,ne,e,mA,⟨od,es,ep,e2,c⟩,r⟩:=x;exact⟨ho _ d,z,ne,k _ _ (.inl rfl) e,mA,⟨od,es,ep,k _ _ (.inr d) e2,c⟩,r⟩
 | own y=>obtain⟨ob,e⟩:=x;exact⟨ob,k _ _ (.inl rfl) e⟩
 | xd fs=>obtain⟨mA,⟨od,es,ep,e,c⟩,r⟩:=x;exact⟨mA,⟨od,es,ep,k _ _ (.inl rfl) e,c⟩,r⟩
 | rng lo hi=>obtain⟨t,u,v,e⟩:=x;exact⟨t,u,v,k _ _ (.inl rfl) e⟩
 | frz ob u ih=>obtain⟨e,q⟩:=x;exact⟨k _ _ (.inl rfl) e,ih q⟩
 | tbl ps =>
  have e:h.get? a=some { cls:=.none,data:=.fields ps }:=x;show h'.get? a=some { cls:=.none,data:=.fields ps };exact k a _ (.inl rfl) e
 | met f y =>
  have e:h.get? a=some (PySem.W.methodObj (.ref f) (.ref y)):=x;show h'.get? a=some (PySem.W.methodObj (.ref f) (.ref y));exact k a _ (.inl rfl) e
 | ext φ=>obtain⟨p,⟨o,e⟩,st⟩:=x;exact⟨st _ _ p fun o q=>k _ _ (.inl rfl) q,⟨o,k _ _ (.inl rfl) e⟩,st⟩
theorem HOk.lt(x:HOk P w H h)(e:H a=some o):a<h.objs.size:=(x a o e).lt
theorem HOk.fresh(x:HOk P w H h)(e:h.objs.size<=a):H a=none:=by
 cases q:H a with
 | none=>rfl
 | some u=>exact absurd (lt_of_lt_of_le (x.lt q) e) (Nat.lt_irrefl _)
theorem HOk.kept(x:HOk P w H h)(k:∀b u,h.get? b=some u->h'.get? b=some u):HOk P w H h':=fun a o e =>
 (x a o e).stay (fun b u _ q=>k b u q) (fun _ q=>q) fun _ _ q=>q
theorem HOk.laid(x:HOk P w H h)(k:∀b u,h.get? b=some u->h'.get? b=some u)(hp:h.objs.size<=a)(new:bL P w (upd H a o) h' a o):HOk P w (upd H a o) h':=fun b u e=>by
 have hn:=x.fresh hp
 by_cases hb:b=a
 .subst hb;rw [aA] at e;cases e;exact new
 .rw [aj hb] at e;exact (x b u e).stay (fun c v _ q=>k c v q) (fun c q=>by rw [aj (aN q hn)];exact q) fun c xs q=>by rw [aj (aN q hn)];exact q
end
def Rd(H:Hp)(a:Addr)(u:HO):Prop:=H a=some u\/∃o,H a=some (.frz o u)
theorem Rd.ok{P:Program}{w:World}{H:Hp}{h:Heap}{a:Addr}{u:HO}(r:Rd H a u)(x:HOk P w H h):bL P w H h a u:=by
 rcases r with r|⟨o,r⟩
 .exact x a u r
 .obtain⟨_,q⟩:=x a _ r;exact q
def Mut:Option HO->Prop
 | some (.lst _)=>True
 | some (.dK _)=>True
 | some (.dT _)=>True
 | some (.set _ _)=>True
 | some (.ins _ _ _)=>True
 | some (.ext _)=>True
 | _=>False
section
variable {P:Program}{w:World}{H:Hp}{h h':Heap}{x e:Addr}{o':HO}
theorem HOk.write(ok:HOk P w H h)(mu:Mut (H x))(he:e=x\/H e=some (.own x))(k:∀b u,b≠e->h.get? b=some u->h'.get? b=some u)(heo:∃u,h'.get? e=some u)
  (new:bL P w (upd H x o') h' x o'):HOk P w (upd H x o') h':=fun b u q=>by
 have nown:∀c y,H c=some (.own y)->c≠x:=fun c y r z=>by subst z;rw [r] at mu;exact mu
 have ntup:∀c xs,H c=some (.tup xs)->c≠x:=fun c xs r z=>by subst z;rw [r] at mu;exact mu
 by_cases hb:b=x
 .subst hb;rw [aA] at q;cases q;exact new
 .rw [aj hb] at q
  by_cases hbe:b=e
  .have q':H b=some (.own x):=by
    rcases he with z|z
    .exact absurd (hbe.trans z) hb
    .rw [hbe];exact z
   rw [q] at q';cases q';obtain⟨v,hv⟩:=heo;exact⟨v,by rw [hbe];exact hv⟩
  .refine (ok b u q).stay (fun c v hc r=>k c v ?_ r) (fun c r=>by rw [aj (nown c b r)];exact r) fun c xs r=>by rw [aj (ntup c xs r)];exact r
   rcases hc with rfl|hc
   .exact hbe
   .rintro rfl
    rcases he with z|z
    .exact nown c b hc z
    .rw [hc] at z;cases z;exact hb rfl
end
structure Un (fs ex:List Addr) (H H':Hp) (h h':Heap):Prop where
 keep:∀b o,h.get? b=some o->H b=none->b∉fs->b∉ex->h'.get? b=some o
 slot:∀b o,h.get? b=some o->H b=none->b∈fs->b∉ex->∃sl,h'.get? b=some { o with slots:=sl }
 free:∀b o,h.get? b=some o->H b=none->b∉ex->H' b=none
 there:∀b o,h.get? b=some o->b∉ex->∃o',h'.get? b=some o'
 tups:∀b xs,H b=some (.tup xs)->H' b=some (.tup xs)
 frzs:∀b o u,H b=some (.frz o u)->H' b=some (.frz o u)
 tbls:∀b ps,H b=some (.tbl ps)->∃more,H' b=some (.tbl (ps++more))
section
variable {fs fs' ex ex':List Addr}{H H1 H2:Hp}{h h1 h2 h':Heap}{a x e:Addr}{o:HO}
theorem Un.any(u:Un fs ex H H1 h h1){b:Addr}{ob:Obj}(q:h.get? b=some ob)(n:H b=none)(hx:b∉ex):∃sl,h1.get? b=some { ob with slots:=sl }:=by
 by_cases hb:b∈fs
 .exact u.slot b ob q n hb hx
 .exact⟨ob.slots,u.keep b ob q n hb hx⟩
theorem Un.kept(k:∀b u,h.get? b=some u->h'.get? b=some u):Un fs ex H H h h' :=
 ⟨fun b ob q _ _ _=>k b ob q,fun b ob q _ _ _=>⟨ob.slots,k b ob q⟩,fun _ _ _ n _=>n,fun b ob q _=>⟨ob,k b ob q⟩,fun _ _ q=>q,fun _ _ _ q=>q,fun _ ps q=>⟨#[],by rw [q];simp⟩⟩
theorem Un.refl:Un fs ex H H h h:=Un.kept fun _ _ q=>q
theorem Un.laid(k:∀b u,h.get? b=some u->h'.get? b=some u)(hp:h.objs.size<=a)(hn:H a=none):Un fs ex H (upd H a o) h h' where
 keep:=fun b u q _ _ _=>k b u q
 slot:=fun b u q _ _ _=>⟨u.slots,k b u q⟩
 free:=fun b u q n _=>by rw [aj (ne_of_lt (lt_of_lt_of_le (Heap.lt_size q) hp))];exact n
 there:=fun b u q _=>⟨u,k b u q⟩
 tups:=fun b xs q=>by rw [aj (aN q hn)];exact q
 frzs:=fun b u xs q=>by rw [aj (aN q hn)];exact q
 tbls:=fun b ps q=>⟨#[],by rw [aj (aN q hn),q];simp⟩
theorem Un.write(mu:Mut (H x))(he:e=x\/H e=some (.own x))(k:∀b u,b≠e->h.get? b=some u->h'.get? b=some u)(heo:∃u,h'.get? e=some u):Un fs ex H (upd H x o) h h':=by
 have hx:∀b,H b=none->b≠x:=fun b n z=>by subst z;rw [n] at mu;exact mu
 have hb:∀b,H b=none->b≠e:=fun b n z=>by
  subst z
  rcases he with r|r
  .exact hx b n r
  .rw [n] at r;cases r
 have hm:∀b u,H b=some u->¬ Mut (some u)->b≠x:=fun b u q nm z=>by subst z;rw [q] at mu;exact nm mu
 refine⟨fun b u q n _ _=>k b u (hb b n) q,fun b u q n _ _=>⟨u.slots,k b u (hb b n) q⟩,fun b u q n _=>by rw [aj (hx b n)];exact n,fun b u q _=>?_,
  fun b xs q=>by rw [aj (hm b _ q fun z=>z)];exact q,fun b u xs q=>by rw [aj (hm b _ q fun z=>z)];exact q,fun b ps q=>⟨#[],by rw [aj (hm b _ q fun z=>z),q];simp⟩⟩
 by_cases hbe:b=e
 .subst hbe;exact heo
 .exact⟨u,k b u hbe q⟩
end
def trk(h:Heap)(H:Hp):List Addr:=(List.range h.objs.size).filter fun a=>(H a).isSome
def uF(h:Heap)(H:Hp):Heap:=PySem.W.hideAll h (trk h H)
theorem rB(h:Heap)(H:Hp):(uF h H).objs.size=h.objs.size:=PySem.W.hideAll_size _ _
theorem uG{h:Heap}{H:Hp}{b:Addr}{o:Obj}(e:h.get? b=some o)(n:H b=none):(uF h H).get? b=some o :=
 PySem.W.hideAll_get _ e fun hm=>by
  have q:(H b).isSome=true:=(mem_filter.mp hm).2;rw [n] at q;simp at q
theorem xq{h:Heap}{H:Hp}{b:Addr}{o:Obj}(e:(uF h H).get? b=some o):h.get? b=some o/\H b=none:=by
 have e':h.get? b=some o:=PySem.W.of_hideAll (trk h H) e;refine⟨e',?_⟩
 cases q:H b with
 | none=>rfl
 | some x =>
  have hm:b∈trk h H:=mem_filter.mpr ⟨mem_range.mpr (Heap.lt_size e'),by simp [q]⟩;have z:(uF h H).get? b=none:=PySem.W.hideAll_none (trk h H) hm;rw [z] at e;cases e
structure Mod (K:PySem.W.Frag) (mg:Str->Option Value) (base:Heap):Prop where
 kin:K.In base
 glob:base.Ns mainGlobals mg
 blt:∃mb,base.Ns builtinsNs mb/\∀x:Str,x≠"__name__"->mb x=bootBuiltins x
 nolimit:base.NoLimit
structure Cx where
 prog:Program
 w:World
 K:PySem.W.Frag
 mg:Str->Option Value
 base:Heap
 A:Around
 N:List Str
 s₀:Shared
 H₀:Hp
 env:Env
 outer:List Env
 stack:List Env
 ex:List Addr
 fn:Str->Bool
 calm:Bool
 pn:List (Addr×Obj)
 xe:Value->Shared->Prop
def frs(l:List Env):List Addr:=l.filterMap (·.frame)
abbrev Cx.fs(X:Cx):List Addr:=frs X.outer
def Vis(sc:Scope)(x:Str):Prop:=sc.names.lookup x=some .local\/sc.names.lookup x=some .cell\/sc.names.lookup x=some .free
def Loc(sc:Scope)(x:Str):Prop:=sc.names.lookup x=some .local\/sc.names.lookup x=some .cell
def Ee(env:Env)(h:Heap)(m:Str->Option Value)(x:Str)(u:Value):Prop :=
 (env.kindOf x=some .local/\m x=some u)\/((env.kindOf x=some .cell\/env.kindOf x=some .free)/\∃c,env.cells.lookup x=some c/\h.IsCell c (some u))
structure Cx.Ok (X:Cx):Prop where
 mod:Mod X.K X.mg X.base
 kind:X.env.scope.kind=.function
 glob:X.env.globals=mainGlobals
 blt:X.env.builtins=builtinsNs
 above:X.s₀.heap.objs.size<=X.env.locals
 inj:∀x y c,X.env.cells.lookup x=some c->X.env.cells.lookup y=some c->x=y
 has:∀x,(X.env.kindOf x=some .cell\/X.env.kindOf x=some .free)->∃c,X.env.cells.lookup x=some c
 cab:∀x c,X.fn x=true->X.env.cells.lookup x=some c->X.s₀.heap.objs.size<=c
 hd:X.calm=true->X.A.handled=none
 frames:X.A.frames=some X.stack
 stk:X.stack=X.outer\/(X.stack=X.env::X.outer/\X.env.frame=some X.env.locals)
 exf:∀b∈X.ex,b≠X.env.locals/\∀x c,X.env.cells.lookup x=some c->c≠b
 bs:∀b o,X.base.get? b=some o->X.s₀.heap.get? b=some o/\X.H₀ b=none
 bsz:X.base.objs.size<=X.s₀.heap.objs.size
 noex:∀b o,X.base.get? b=some o->b∉X.ex
 exfs:∀b∈X.ex,b∉X.fs
 funs:X.s₀.heap.FunFrames X.base X.outer
 frf:∀b∈X.fs,X.H₀ b=none
structure Inv (X:Cx) (pins:List (Addr×Obj)) (σ:List (Option V)) (H:Hp) (s:Shared):Prop where
 ok:X.Ok
 os:s.os=X.s₀.os
 bare:AllBare s.gens
 base:Un X.fs X.ex X.H₀ H X.s₀.heap s.heap
 loc:∃m,s.heap.Ns X.env.locals m/\∀(i:Nat) (x:Str) (v:V),X.N[i]?=some x->σ[i]?=some (some v)->Vis X.env.scope x->∃u,cJ v u/\Ee X.env s.heap m x u
 cell:∀x c,X.env.cells.lookup x=some c->∃v,s.heap.IsCell c v
 free:H X.env.locals=none
 freeC:∀x c,X.env.cells.lookup x=some c->H c=none
 pin:∀p∈X.pn++pins,s.heap.get? p.1=some p.2/\H p.1=none/\p.1≠X.env.locals/\p.1∉X.fs/\∀v,p.2.data≠.cell v
 hok:HOk X.prog X.w H s.heap
 len:σ.length=X.N.length
section
variable {X:Cx}{pins:List (Addr×Obj)}{σ:List (Option V)}{H H':Hp}{s:Shared}{h':Heap}
theorem Cx.Ok.nofr(ok:X.Ok){b:Addr}{o:Obj}(e:X.base.get? b=some o):b∉X.fs:=fun hb=>by
 have:=(ok.funs.mem hb).1;rw [e] at this;cases this
theorem Inv.bs(I:Inv X pins σ H s):∀b o,X.base.get? b=some o->s.heap.get? b=some o/\H b=none:=fun b o e =>
 ⟨I.base.keep b o (I.ok.bs b o e).1 (I.ok.bs b o e).2 (I.ok.nofr e) (I.ok.noex b o e),I.base.free b o (I.ok.bs b o e).1 (I.ok.bs b o e).2 (I.ok.noex b o e)⟩
theorem Inv.bk(I:Inv X pins σ H s):∀b o,X.base.get? b=some o->s.heap.get? b=some o:=fun b o e=>(I.bs b o e).1
theorem Inv.mod(I:Inv X pins σ H s):Mod X.K X.mg X.base:=I.ok.mod
theorem Inv.kIn(I:Inv X pins σ H s):X.K.In s.heap:=I.ok.mod.kin.keeps I.bk
theorem Inv.lt(I:Inv X pins σ H s):X.env.locals<s.heap.objs.size:=let ⟨_,hn,_⟩:=I.loc;hn.lt
theorem Inv.sz(I:Inv X pins σ H s):X.s₀.heap.objs.size<=s.heap.objs.size:=Nat.le_trans I.ok.above (le_of_lt I.lt)
theorem Inv.nofs(I:Inv X pins σ H s){a:Addr}(h:s.heap.objs.size<=a):a∉X.fs:=fun hb=>by
 obtain⟨_,o,ho,_⟩:=I.ok.funs.mem hb;exact absurd (lt_of_lt_of_le (Heap.lt_size ho) (Nat.le_trans I.sz h)) (Nat.lt_irrefl _)
theorem Inv.cne(I:Inv X pins σ H s):∀x c,X.env.cells.lookup x=some c->c≠X.env.locals:=fun x c e z=>by
 obtain⟨v,o,ho,hd⟩:=I.cell x c e;obtain⟨m,⟨o',es,ep,ho',hd',_⟩,_⟩:=I.loc;rw [z,ho'] at ho;cases ho;rw [hd'] at hd;cases hd
theorem Inv.funs(I:Inv X pins σ H s):s.heap.FunFrames X.base X.outer:=by
 have all:∀(l:List Env),(∀b∈frs l,b∈X.fs)->X.s₀.heap.FunFrames X.base l->s.heap.FunFrames X.base l:=by
  intro l
  induction l with
  | nil=>intro _ _;trivial
  | cons env r ih =>
   intro hs hl;obtain⟨hk,⟨L,o,hf,hn,ho,hd⟩,hr⟩:=hl;have hL:L∈X.fs:=hs L (by unfold frs;rw [filterMap_cons,hf];exact mem_cons_self);obtain⟨sl,e⟩:=I.base.slot L o ho (I.ok.frf L hL) hL fun z=>I.ok.exfs L z hL;exact⟨hk,⟨L,_,hf,hn,e,hd⟩,ih (fun b hb=>hs b (by unfold frs;rw [filterMap_cons,hf];exact mem_cons_of_mem _ hb)) hr⟩
 exact all X.outer (fun _ hb=>hb) I.ok.funs
theorem Inv.stack(I:Inv X pins σ H s):s.heap.FunFrames X.base X.stack:=by
 rcases I.ok.stk with e|⟨e,hf⟩
 .rw [e];exact I.funs
 .rw [e];obtain⟨m,hn,_⟩:=I.loc;refine .cons (by rw [I.ok.kind];decide) hf hn ?_ I.funs;exact Heap.get?_none_of_le (Nat.le_trans I.ok.bsz I.ok.above)
theorem Inv.stkSub(I:Inv X pins σ H s):∀b∈frs X.stack,b∈X.env.locals::X.fs:=fun b hb=>by
 rcases I.ok.stk with e|⟨e,hf⟩
 .rw [e] at hb;exact mem_cons_of_mem _ hb
 .rw [e] at hb;unfold frs at hb;rw [filterMap_cons,hf] at hb;exact hb
theorem Inv.stkFree(I:Inv X pins σ H s):∀b∈frs X.stack,H b=none:=fun b hb=>by
 rcases mem_cons.mp (I.stkSub b hb) with e|hb
 .rw [e];exact I.free
 .obtain⟨_,o,ho,_⟩:=I.ok.funs.mem hb;exact I.base.free b o ho (I.ok.frf b hb) fun z=>I.ok.exfs b z hb
theorem Inv.step{g':Array GenState}{t':Nat}{d':Drawn}{ch:List Addr}(I:Inv X pins σ H s)
  (hch:∀b∈ch,(b∈X.ex\/X.s₀.heap.objs.size<=b)/\b≠X.env.locals/\(∀x c,X.env.cells.lookup x=some c->c≠b)/\∀p∈X.pn++pins,p.1≠b)
  (keep:∀b o,b≠X.env.locals->b∉X.fs->b∉ch->s.heap.get? b=some o->H b=none->h'.get? b=some o)
  (slot:∀b o,b≠X.env.locals->b∈X.fs->b∉ch->s.heap.get? b=some o->H b=none->∃sl,h'.get? b=some { o with slots:=sl }) (free:∀b o,b∉ch->s.heap.get? b=some o->H b=none->H' b=none)
  (there:∀b o,b∉ch->s.heap.get? b=some o->∃o',h'.get? b=some o')
  (tups:∀b xs,H b=some (.tup xs)->H' b=some (.tup xs)) (frzs:∀b o u,H b=some (.frz o u)->H' b=some (.frz o u)) (tbls:∀b ps,H b=some (.tbl ps)->∃more,H' b=some (.tbl (ps++more)))
  (ns:∀m,s.heap.Ns X.env.locals m->h'.Ns X.env.locals m) (hok:HOk X.prog X.w H' h') (hg:AllBare g') :
  Inv X pins σ H' { s with heap:=h',gens:=g',drawn:=d',toks:=t' }:=by
 have neL:∀b o,X.s₀.heap.get? b=some o->b≠X.env.locals:=fun b o e=>ne_of_lt (lt_of_lt_of_le (Heap.lt_size e) I.ok.above)
 have neC:∀b o,X.s₀.heap.get? b=some o->b∉X.ex->b∉ch:=fun b o e hx hb=>by
  rcases (hch b hb).1 with z|z
  .exact hx z
  .exact absurd (lt_of_lt_of_le (Heap.lt_size e) z) (Nat.lt_irrefl _)
 have cellK:∀x c,X.env.cells.lookup x=some c->∀v,s.heap.IsCell c v->h'.IsCell c v:=fun x c e v ⟨o,ho,hd⟩=>by
  have nch:c∉ch:=fun z=>(hch c z).2.2.1 x c e rfl
  by_cases hc:c∈X.fs
  .obtain⟨sl,q⟩:=slot c o (I.cne x c e) hc nch ho (I.freeC x c e);exact⟨_,q,hd⟩
  .exact⟨o,keep c o (I.cne x c e) hc nch ho (I.freeC x c e),hd⟩
 refine⟨I.ok,I.os,hg,⟨fun b o e n hb hx=>?_,fun b o e n hb hx=>?_,fun b o e n hx=>?_,fun b o e hx=>?_,fun b xs e=>tups b xs (I.base.tups b xs e),fun b o xs e=>frzs b o xs (I.base.frzs b o xs e),fun b ps e=>?_⟩,?_,fun x c e=>?_,?_,fun x c e=>?_,fun p hp=>?_,hok,I.len⟩
 .exact keep b o (neL b o e) hb (neC b o e hx) (I.base.keep b o e n hb hx) (I.base.free b o e n hx)
 .obtain⟨sl,e1⟩:=I.base.slot b o e n hb hx;obtain⟨sl',e2⟩:=slot b _ (neL b o e) hb (neC b o e hx) e1 (I.base.free b o e n hx);exact⟨sl',e2⟩
 .obtain⟨o',e1⟩:=I.base.there b o e hx;exact free b o' (neC b o e hx) e1 (I.base.free b o e n hx)
 .obtain⟨o',e1⟩:=I.base.there b o e hx;exact there b o' (neC b o e hx) e1
 .obtain⟨m1,e1⟩:=I.base.tbls b ps e;obtain⟨m2,e2⟩:=tbls b _ e1;exact⟨m1++m2,by rw [e2,Array.append_assoc]⟩
 .obtain⟨m,hn,hl⟩:=I.loc;refine⟨m,ns m hn,fun i x v e1 e2 e3=>?_⟩;obtain⟨u,r,l⟩:=hl i x v e1 e2 e3;refine⟨u,r,?_⟩
  rcases l with l|⟨k,c,e,z⟩
  .exact .inl l
  .exact .inr ⟨k,c,e,cellK x c e _ z⟩
 .obtain⟨v,z⟩:=I.cell x c e;exact⟨v,cellK x c e v z⟩
 .obtain⟨m,⟨o,_,_,ho,_⟩,_⟩:=I.loc;exact free _ o (fun z=>(hch _ z).2.1 rfl) ho I.free
 .obtain⟨v,o,ho,hd⟩:=I.cell x c e;exact free c o (fun z=>(hch c z).2.2.1 x c e rfl) ho (I.freeC x c e)
 .obtain⟨e,n,ne,nf,d⟩:=I.pin p hp;have nch:p.1∉ch:=fun z=>(hch p.1 z).2.2.2 p hp rfl;exact⟨keep p.1 p.2 ne nf nch e n,free p.1 p.2 nch e n,ne,nf,d⟩
theorem Inv.un{t':Nat}(I:Inv X pins σ H s)(u:Un X.fs [] H H' s.heap h')(hok:HOk X.prog X.w H' h'):Inv X pins σ H' { s with heap:=h',toks:=t' }:=by
 obtain⟨m,⟨o,es,ep,ho,r⟩,_⟩:=id I.loc;obtain⟨sl,hL⟩:=u.any ho I.free (by simp)
 exact I.step (g':=s.gens) (d':=s.drawn) (ch:=[]) (fun _ z=>nomatch z) (fun b o _ hb _ e n=>u.keep b o e n hb (by simp)) (fun b o _ hb _ e n=>u.slot b o e n hb (by simp)) (fun b o _ e n=>u.free b o e n (by simp)) (fun b o _ e=>u.there b o e (by simp)) u.tups u.frzs u.tbls (fun m' hm=>by
  obtain⟨o',es',ep',ho',r'⟩:=hm;rw [ho] at ho';cases ho';exact⟨_,es',ep',hL,r'⟩) hok I.bare
theorem Inv.call{g':Array GenState}{t':Nat}{d':Drawn}{ch:List Addr}(I:Inv X pins σ H s)(u:Un (frs X.stack) ch H H' s.heap h')(hok:HOk X.prog X.w H' h')(hg:AllBare g')
  (hch:∀b∈ch,(b∈X.ex\/X.s₀.heap.objs.size<=b)/\b≠X.env.locals/\(∀x c,X.env.cells.lookup x=some c->c≠b)/\∀p∈X.pn++pins,p.1≠b) :
  Inv X pins σ H' { s with heap:=h',gens:=g',drawn:=d',toks:=t' }:=by
 obtain⟨m,⟨o,es,ep,ho,r⟩,_⟩:=id I.loc;obtain⟨sl,hL⟩:=u.any ho I.free fun z=>(hch _ z).2.1 rfl
 exact I.step (ch:=ch) hch (fun b o hL hb hc e n=>u.keep b o e n (fun z=>(mem_cons.mp (I.stkSub b z)).elim hL hb) hc) (fun b o _ _ hc e n=>u.any e n hc) (fun b o hc e n=>u.free b o e n hc) (fun b o hc e=>u.there b o e hc) u.tups u.frzs u.tbls (fun m' hm=>by
  obtain⟨o',es',ep',ho',r'⟩:=hm;rw [ho] at ho';cases ho';exact⟨_,es',ep',hL,r'⟩) hok hg
theorem Inv.turned{t':Nat}{it:Addr}(I:Inv X pins σ H s)(k:∀b o,b≠it->s.heap.get? b=some o->h'.get? b=some o)(hn:H it=none)(hL:it≠X.env.locals)
  (h1:it∈X.ex\/X.s₀.heap.objs.size<=it) (h2:∀x c,X.env.cells.lookup x=some c->c≠it) (h3:∀p∈X.pn++pins,p.1≠it):Inv X pins σ H { s with heap:=h',toks:=t' }:=by
 have nit:∀b u,H b=some u->b≠it:=fun b u e z=>by rw [z,hn] at e;cases e
 refine I.step (g':=s.gens) (d':=s.drawn) (ch:=[it]) (fun b hb=>?_) (fun b o _ _ hc e _=>k b o (fun z=>hc (by simp [z])) e) (fun b o _ _ hc e _=>⟨o.slots,k b o (fun z=>hc (by simp [z])) e⟩) (fun _ _ _ _ n=>n)
  (fun b o hc e=>⟨o,k b o (fun z=>hc (by simp [z])) e⟩) (fun _ _ e=>e) (fun _ _ _ e=>e) (fun b ps e=>⟨#[],by rw [e];simp⟩) (fun m hm=>?_) (fun b u e=>?_) I.bare
 .have e:b=it:=by simpa using hb
  subst e;exact⟨h1,hL,h2,h3⟩
 .obtain⟨o,es,ep,ho,r⟩:=hm;exact⟨o,es,ep,k _ o (Ne.symm hL) ho,r⟩
 .refine (I.hok b u e).stay (fun c v hc q=>k c v ?_ q) (fun _ q=>q) fun _ _ q=>q
  rcases hc with z|z
  .rw [z];exact nit b u e
  .exact nit c _ z
theorem Inv.tok(I:Inv X pins σ H s)(t:Nat):Inv X pins σ H { s with toks:=t }:=I.un (h':=s.heap) (t':=t) Un.refl I.hok
theorem Inv.kept{t':Nat}(I:Inv X pins σ H s)(k:∀b u,s.heap.get? b=some u->h'.get? b=some u):Inv X pins σ H { s with heap:=h',toks:=t' }:=I.un (Un.kept k) (I.hok.kept k)
theorem Inv.laid{a:Addr}{o:HO}{t':Nat}(I:Inv X pins σ H s)(k:∀b u,s.heap.get? b=some u->h'.get? b=some u)(hp:s.heap.objs.size<=a)(new:bL X.prog X.w (upd H a o) h' a o) :
  Inv X pins σ (upd H a o) { s with heap:=h',toks:=t' }:=I.un (Un.laid k hp (I.hok.fresh hp)) (I.hok.laid k hp new)
theorem Inv.write{x e:Addr}{o:HO}{t':Nat}(I:Inv X pins σ H s)(mu:Mut (H x))(he:e=x\/H e=some (.own x))(k:∀b u,b≠e->s.heap.get? b=some u->h'.get? b=some u)(heo:∃u,h'.get? e=some u)
  (new:bL X.prog X.w (upd H x o) h' x o):Inv X pins σ (upd H x o) { s with heap:=h',toks:=t' }:=I.un (Un.write mu he k heo) (I.hok.write mu he k heo new)
theorem Inv.pins_of{pins':List (Addr×Obj)}(I:Inv X pins σ H s)(h:∀p∈pins',s.heap.get? p.1=some p.2/\H p.1=none/\p.1≠X.env.locals/\p.1∉X.fs/\∀v,p.2.data≠.cell v):Inv X pins' σ H s :=
 ⟨I.ok,I.os,I.bare,I.base,I.loc,I.cell,I.free,I.freeC,fun p hp=>(mem_append.mp hp).elim (fun z=>I.pin p (mem_append_left _ z)) (h p),I.hok,I.len⟩
theorem kS{N:List Str}(hN:N.Nodup){i j:Nat}{x:Str}(a:N[i]?=some x)(b:N[j]?=some x):i=j:=by
 obtain⟨h1,e1⟩:=List.getElem?_eq_some_iff.mp a;obtain⟨h2,e2⟩:=List.getElem?_eq_some_iff.mp b;exact (getElem_inj hN).mp (e1.trans e2.symm)
theorem rC{M:Model}{A:Around}{E:Value->Shared->Prop}{i:Nat}{x:Str}{v:V}{u:Value}{Q:Unit->Shared->Prop}(I:Inv X pins σ H s)(hN:X.N.Nodup)(hi:X.N[i]?=some x)(hx:Loc X.env.scope x)(r:cJ v u)
  (h:∀s',Inv X pins (σ.set i (some v)) H s'->(∃a,Heap.SameBut a s.heap s'.heap/\(a=X.env.locals\/X.env.cells.lookup x=some a))->Q () s') (hf:X.fn x=true\/X.env.scope.names.lookup x=some .local:=by first|exact .inl rfl|exact .inr rfl|assumption):wpAny M A (storeName X.env x u) Q E s:=by
 obtain⟨m,hn,hl⟩:=id I.loc;have hcls:(X.env.scope.kind == .class || (X.env.scope.kind == .module && X.env.locals != X.env.globals))=false:=by rw [I.ok.kind];rfl
 have hiσ:i<σ.length:=by rw [I.len];exact (List.getElem?_eq_some_iff.mp hi).1
 have cne:=I.cne
 have tracked:∀{a:Addr}{h':Heap},(∃o,s.heap.get? a=some o/\H a=none)->Heap.SameBut a s.heap h'->HOk X.prog X.w H h':=fun {a h'} ha hs b ob e=>by
  obtain⟨_,_,hfree⟩:=ha;refine (I.hok b ob e).stay (fun c w' hc q=>(hs.2 c ?_).trans q) (fun _ q=>q) fun _ _ q=>q;rintro rfl
  rcases hc with rfl|hc
  .rw [hfree] at e;cases e
  .rw [hfree] at hc;cases hc
 rcases hx with hk|hk
 .refine wpAny_storeName_local hk hn (fun h' hn' hs=>?_) hcls;obtain⟨oL,_,_,hoL,_⟩:=id hn
  refine h _ ⟨I.ok,I.os,I.bare,⟨fun b o e n hb hx=>?_,fun b o e n hb hx=>?_,I.base.free,fun b o e hx=>?_,I.base.tups,I.base.frzs,I.base.tbls⟩,⟨_,hn',fun j y v' e1 e2 e3=>?_⟩,fun y c e=>?_,I.free,I.freeC,fun p hp=>?_,tracked ⟨oL,hoL,I.free⟩ hs,by simpa using I.len⟩ ⟨_,hs,.inl rfl⟩
  .exact (hs.2 b (ne_of_lt (lt_of_lt_of_le (Heap.lt_size e) I.ok.above))).trans (I.base.keep b o e n hb hx)
  .obtain⟨sl,e1⟩:=I.base.slot b o e n hb hx;exact⟨sl,(hs.2 b (ne_of_lt (lt_of_lt_of_le (Heap.lt_size e) I.ok.above))).trans e1⟩
  .obtain⟨o',e1⟩:=I.base.there b o e hx;exact⟨o',(hs.2 b (ne_of_lt (lt_of_lt_of_le (Heap.lt_size e) I.ok.above))).trans e1⟩
  .by_cases hj:j=i
   .subst hj;rw [hi] at e1;cases e1;rw [getElem?_set_self hiσ] at e2;cases e2;exact⟨u,r,.inl ⟨hk,by simp⟩⟩
   .rw [getElem?_set_ne (Ne.symm hj)] at e2;obtain⟨u',r',q⟩:=hl j y v' e1 e2 e3;refine⟨u',r',?_⟩
    rcases q with ⟨k,e⟩|⟨k,c,e,z⟩
    .refine .inl ⟨k,?_⟩;have:y≠x:=fun e=>hj (kS hN e1 (e ▸ hi));simp [this,e]
    .exact .inr ⟨k,c,e,z.sameBut hs (cne y c e)⟩
  .obtain⟨w',z⟩:=I.cell y c e;exact⟨w',z.sameBut hs (cne y c e)⟩
  .obtain⟨e,n,ne,nf,d⟩:=I.pin p hp;exact⟨(hs.2 p.1 ne).trans e,n,ne,nf,d⟩
 .have hfn:X.fn x=true:=by
   rcases hf with z|z
   .exact z
   .rw [z] at hk;cases hk
  obtain⟨c,hc⟩:=I.ok.has x (.inl hk);obtain⟨w',z⟩:=I.cell x c hc;refine wpAny_storeName_cell I.ok.kind hk hc z (fun h' hc' hs=>?_);obtain⟨oc,hoc,hocd⟩:=id z
  refine h { s with heap:=h' } ⟨I.ok,I.os,I.bare,⟨fun b o e n hb hx=>?_,fun b o e n hb hx=>?_,I.base.free,fun b o e hx=>?_,I.base.tups,I.base.frzs,I.base.tbls⟩,⟨m,hn.sameBut hs (Ne.symm (cne x c hc)),fun j y v' e1 e2 e3=>?_⟩,fun y c' e=>?_,I.free,I.freeC,fun p hp=>?_,tracked ⟨oc,hoc,I.freeC x c hc⟩ hs,by simpa using I.len⟩ ⟨c,hs,.inr hc⟩
  .exact (hs.2 b (ne_of_lt (lt_of_lt_of_le (Heap.lt_size e) (I.ok.cab x c hfn hc)))).trans (I.base.keep b o e n hb hx)
  .obtain⟨sl,e1⟩:=I.base.slot b o e n hb hx;exact⟨sl,(hs.2 b (ne_of_lt (lt_of_lt_of_le (Heap.lt_size e) (I.ok.cab x c hfn hc)))).trans e1⟩
  .obtain⟨o',e1⟩:=I.base.there b o e hx;exact⟨o',(hs.2 b (ne_of_lt (lt_of_lt_of_le (Heap.lt_size e) (I.ok.cab x c hfn hc)))).trans e1⟩
  .by_cases hj:j=i
   .subst hj;rw [hi] at e1;cases e1;rw [getElem?_set_self hiσ] at e2;cases e2;exact⟨u,r,.inr ⟨.inl hk,c,hc,hc'⟩⟩
   .rw [getElem?_set_ne (Ne.symm hj)] at e2;obtain⟨u',r',q⟩:=hl j y v' e1 e2 e3;refine⟨u',r',?_⟩
    rcases q with q|⟨k,c',e,z'⟩
    .exact .inl q
    .refine .inr ⟨k,c',e,z'.sameBut hs ?_⟩;rintro rfl;exact hj (kS hN e1 (I.ok.inj _ _ _ e hc ▸ hi))
  .by_cases hcc:c'=c
   .subst hcc;exact⟨_,hc'⟩
   .obtain⟨w2,z2⟩:=I.cell y c' e;exact⟨w2,z2.sameBut hs hcc⟩
  .obtain⟨e,n,ne,nf,d⟩:=I.pin p hp;refine⟨(hs.2 p.1 ?_).trans e,n,ne,nf,d⟩;intro q;rw [q,hoc] at e;have q':oc=p.2:=Option.some.inj e;exact d w' (by rw [<- q'];exact hocd)
theorem gq{M:Model}{A:Around}{E:Value->Shared->Prop}{i:Nat}{x:Str}{v:V}{u:Value}{Q:Unit->Shared->Prop}(I:Inv X pins σ H s)(hN:X.N.Nodup)(hi:X.N[i]?=some x)(hx:Loc X.env.scope x)(r:cJ v u)
  (h:∀s',Inv X pins (σ.set i (some v)) H s'->Q () s') (hf:X.fn x=true\/X.env.scope.names.lookup x=some .local:=by first|exact .inl rfl|exact .inr rfl|assumption):wpAny M A (storeName X.env x u) Q E s :=
 rC I hN hi hx r (fun s' I' _=>h s' I') hf
theorem Inv.call'{s':Shared}{ch:List Addr}(I:Inv X pins σ H s)(ho:s'.os=s.os)(u:Un (frs X.stack) ch H H' s.heap s'.heap)(hok:HOk X.prog X.w H' s'.heap)(hg:AllBare s'.gens)
  (hch:∀b∈ch,(b∈X.ex\/X.s₀.heap.objs.size<=b)/\b≠X.env.locals/\(∀x c,X.env.cells.lookup x=some c->c≠b)/\∀p∈X.pn++pins,p.1≠b):Inv X pins σ H' s':=by
 obtain⟨h',g',d',t',o'⟩:=s';have e:o'=s.os:=ho;subst e;exact I.call (g':=g') (t':=t') (d':=d') u hok hg hch
end
abbrev XK:=Value->Option Addr->Hp->Prop
abbrev St:=List (Option V)
abbrev VK:=V->Hp->Prop
abbrev TE:=St->Hp->VK->Prop
abbrev TT:=St->Hp->(Bool->Hp->Prop)->Prop
abbrev TA:=St->Hp->(List V->Hp->Prop)->Prop
structure rD where
 nx:St->Hp->Prop
 rt:VK
 bk:St->Hp->Prop:=fun _ _=>False
 ct:St->Hp->Prop:=fun _ _=>False
abbrev TS:=rD->St->Hp->Prop
def EP(X:Cx)(pins:List (Addr×Obj))(σ:St)(Q:VK)(u:Value)(s':Shared):Prop:=∃v H',Inv X pins σ H' s'/\cJ v u/\Q v H'
def TP(X:Cx)(pins:List (Addr×Obj))(σ:St)(Q:Bool->Hp->Prop)(b:Bool)(s':Shared):Prop:=∃H',Inv X pins σ H' s'/\Q b H'
def AP(X:Cx)(pins:List (Addr×Obj))(σ:St)(Q:List V->Hp->Prop)(us:List Value)(s':Shared):Prop:=∃vs H',Inv X pins σ H' s'/\bz vs us/\Q vs H'
def SP(X:Cx)(pins:List (Addr×Obj))(D:rD)(f:Flow)(s':Shared):Prop :=
 match f with
 | .next=>∃σ' H',Inv X pins σ' H' s'/\D.nx σ' H'
 | .brk=>∃σ' H',Inv X pins σ' H' s'/\D.bk σ' H'
 | .cont=>∃σ' H',Inv X pins σ' H' s'/\D.ct σ' H'
 | .ret u=>∃v σ' H',Inv X pins σ' H' s'/\cJ v u/\D.rt v H'
def PE(X:Cx)(e:Expr)(t:TE):Prop :=
 ∀(pins:List (Addr×Obj)) (s:Shared) (σ:St) (H:Hp) (Q:VK),Inv X pins σ H s->t σ H Q->wpAny (model X.prog X.w) X.A (eval e X.env) (EP X pins σ Q) X.xe s
def PT(X:Cx)(e:Expr)(t:TT):Prop :=
 ∀(pins:List (Addr×Obj)) (s:Shared) (σ:St) (H:Hp) (Q:Bool->Hp->Prop),Inv X pins σ H s->t σ H Q->wpAny (model X.prog X.w) X.A (isTrue e X.env (eval e X.env)) (TP X pins σ Q) X.xe s
def PW(X:Cx)(e:Expr)(t:TT):Prop :=
 ∀(whole:Sem Value) (pins:List (Addr×Obj)) (s:Shared) (σ:St) (H:Hp) (Q:Bool->Hp->Prop),Inv X pins σ H s->t σ H Q->wpAny (model X.prog X.w) X.A (isTrue e X.env whole) (TP X pins σ Q) X.xe s
theorem PW.pt{X:Cx}{e:Expr}{t:TT}(h:PW X e t):PT X e t:=h _
def PA(X:Cx)(es:List Expr)(t:TA):Prop :=
 ∀(pos:Pos) (pins:List (Addr×Obj)) (s:Shared) (σ:St) (H:Hp) (Q:List V->Hp->Prop),Inv X pins σ H s->t σ H Q->wpAny (model X.prog X.w) X.A (spliced (backTo pos (starEach es X.env))) (AP X pins σ Q) X.xe s
def PS(X:Cx)(st:Stmt)(t:TS):Prop :=
 ∀(pins:List (Addr×Obj)) (s:Shared) (σ:St) (H:Hp) (D:rD),Inv X pins σ H s->t D σ H->wpAny (model X.prog X.w) X.A (exec st X.env) (SP X pins D) X.xe s
def PSs(X:Cx)(st:List Stmt)(t:TS):Prop :=
 ∀(pins:List (Addr×Obj)) (s:Shared) (σ:St) (H:Hp) (D:rD),Inv X pins σ H s->t D σ H->wpAny (model X.prog X.w) X.A (execs st X.env) (SP X pins D) X.xe s
theorem thn{α:Type}{t:Sem α}{Q Q':α->Shared->Prop}{M:Model}{A:Around}{E:Value->Shared->Prop}{s:Shared}(h:wpAny M A t Q E s)(hQ:∀a s,Q a s->Q' a s):wpAny M A t Q' E s:=wpAny_mono h hQ fun _ _ x=>x
section
variable {X:Cx}
def aV(i:Nat):TE:=fun σ H Q=>∃v,σ[i]?=some (some v)/\Q v H
def tC(v:V):TE:=fun _ H Q=>Q v H
theorem zS{i:Nat}{x:Str}{pos:Pos}(hN:X.N[i]?=some x)(hv:Vis X.env.scope x)(hd:(x == ("__debug__":Str))=false:=by decide)(hcd:(x == ("__classdict__":Str))=false:=by decide):PE X (.Name x pos) (aV i):=by
 intro pins s σ H Q I h;obtain⟨v,e,h⟩:=h;obtain⟨m,hn,hl⟩:=I.loc;obtain⟨u,r,l⟩:=hl i x v hN e hv;have fin:EP X pins σ Q u s:=⟨v,H,I,r,h⟩
 rcases l with ⟨hk,hm⟩|⟨hk,c,hc,hcell⟩
 .exact wpAny_Name (wpAny_loadName_local I.ok.kind hk hn hm fin) hd
 .rcases hk with hk|hk
  .exact wpAny_Name (wpAny_loadName_cell I.ok.kind hk hc hcell fin) hd
  .exact wpAny_Name (wpAny_loadName_free I.ok.kind hk hc hcell fin hcd) hd
theorem ap{i j pos}:PE X (.Constant (.int i) j pos) (tC (.int i)):=fun _ _ _ H _ I h=>wpAny_Constant_int ⟨.int i,H,I.tok _,⟨_,rfl⟩,h⟩
theorem qf{b j pos}:PE X (.Constant (.bool b) j pos) (tC (.bl b)):=fun _ _ _ H _ I h=>Constant_bool ⟨.bl b,H,I,rfl,h⟩
theorem zT{x j pos}:PE X (.Constant (.str x) j pos) (tC (.str x)):=fun _ _ _ H _ I h=>Calls.Constant_str ⟨.str x,H,I.tok _,⟨_,rfl⟩,h⟩
def Gl(X:Cx)(x:Str):Prop:=X.env.kindOf x=some .globalImplicit
theorem gX{E:Value->Shared->Prop}{pins:List (Addr×Obj)}{s:Shared}{σ:St}{H:Hp}{x:Str}{u:Value}{pos:Pos}{Q:Value->Shared->Prop}(I:Inv X pins σ H s)(hg:Gl X x)(hm:X.mg x=some u)(h:Q u s)
  (hd:(x == ("__debug__":Str))=false:=by decide):wpAny (model X.prog X.w) X.A (eval (.Name x pos) X.env) Q E s :=
 Calls.Name_function_global I.ok.kind hg (Calls.loadGlobal_global (by rw [I.ok.glob];exact I.mod.glob.keeps I.bk) hm h) hd
theorem fO{E:Value->Shared->Prop}{pins:List (Addr×Obj)}{s:Shared}{σ:St}{H:Hp}{x:Str}{u:Value}{pos:Pos}{Q:Value->Shared->Prop}(I:Inv X pins σ H s)(hg:Gl X x)(hm:X.mg x=none)(hv:bootBuiltins x=some u)(h:Q u s)
  (hn:x≠"__name__":=by decide) (hd:(x == ("__debug__":Str))=false:=by decide):wpAny (model X.prog X.w) X.A (eval (.Name x pos) X.env) Q E s:=by
 obtain⟨mb,h1,h2⟩:=I.mod.blt;exact Calls.Name_function_global I.ok.kind hg (Calls.loadGlobal_builtin (by rw [I.ok.glob];exact I.mod.glob.keeps I.bk) hm (by rw [I.ok.blt];exact h1.keeps I.bk) ((h2 x hn).trans hv) h) hd
theorem xr{x:Str}{v:V}{u:Value}{pos:Pos}(hg:Gl X x)(hm:X.mg x=some u)(r:cJ v u)(hd:(x == ("__debug__":Str))=false:=by decide):PE X (.Name x pos) (tC v) :=
 fun _ _ _ H _ I h=>gX I hg hm ⟨v,H,I,r,h⟩ hd
theorem jc{x:Str}{v:V}{u:Value}{pos:Pos}(hg:Gl X x)(hm:X.mg x=none)(hv:bootBuiltins x=some u)(r:cJ v u)(hn:x≠"__name__":=by decide)(hd:(x == ("__debug__":Str))=false:=by decide):PE X (.Name x pos) (tC v) :=
 fun _ _ _ H _ I h=>fO I hg hm hv ⟨v,H,I,r,h⟩ hn hd
variable {a b:Expr}{ta tb:TE}{pos:Pos}
def tB(t:TE):TT:=fun σ H Q=>t σ H fun x H1=>∃c,x=.bl c/\Q c H1
theorem zU{e:Expr}{t:TE}(h:PE X e t)(he:∀whole,isTrue e X.env whole=(do let v <- whole;standAt e.pos;holding [v] (truthy v)):=by intro _;rfl):PT X e (tB t):=by
 intro pins s σ H Q I hw;refine isTrue_plain (thn (h pins s σ H _ I hw) fun v s1 ⟨x,H1,I1,r1,q1⟩=>?_) (he _);obtain⟨d,rfl,q⟩:=q1;cases r1;exact wpAny_truthy_bool ⟨H1,I1,q⟩
variable {tA tB':TT}{rest:List Expr}
def Cj(t u:TT):TT:=fun σ H Q=>t σ H fun c H1=>if c=true then u σ H1 Q else Q false H1
def tOr(t u:TT):TT:=fun σ H Q=>t σ H fun c H1=>if c=true then Q true H1 else u σ H1 Q
def Ck(t:TT):TT:=fun σ H Q=>t σ H fun c H1=>Q (!c) H1
theorem nB(ha:PT X a tA):PW X (.BoolOp .And [a] pos) tA:=by
 intro wh pins s σ H Q I h;refine isTrue_and (thn (ha pins s σ H Q I h) fun c s1 e=>?_)
 cases c with
 | true=>exact isTrue_and_nil e
 | false=>exact e
theorem rE(ha:PT X a tA):PW X (.BoolOp .Or [a] pos) tA:=by
 intro wh pins s σ H Q I h;refine isTrue_or (thn (ha pins s σ H Q I h) fun c s1 e=>?_)
 cases c with
 | false=>exact isTrue_or_nil e
 | true=>exact e
theorem rF(ha:PT X a tA)(hb:PW X (.BoolOp .And (b::rest) pos) tB'):PW X (.BoolOp .And (a::b::rest) pos) (Cj tA tB'):=by
 intro wh pins s σ H Q I h;refine isTrue_and (thn (ha pins s σ H _ I h) fun c s1 ⟨H1,I1,q1⟩=>?_)
 cases c with
 | true=>exact hb wh pins s1 σ H1 Q I1 q1
 | false=>exact⟨H1,I1,q1⟩
theorem xt(ha:PT X a tA)(hb:PW X (.BoolOp .Or (b::rest) pos) tB'):PW X (.BoolOp .Or (a::b::rest) pos) (tOr tA tB'):=by
 intro wh pins s σ H Q I h;refine isTrue_or (thn (ha pins s σ H _ I h) fun c s1 ⟨H1,I1,q1⟩=>?_)
 cases c with
 | true=>exact⟨H1,I1,q1⟩
 | false=>exact hb wh pins s1 σ H1 Q I1 q1
theorem kj(ha:PT X a tA):PT X (.UnaryOp .Not a pos) (Ck tA):=by
 intro pins s σ H Q I h;exact isTrue_not (ha pins s σ H (fun c H1=>Q (!c) H1) I h)
def zV(ta tb:TE):TE:=fun σ H Q=>ta σ H fun x H1=>∃c,x=.bl c/\if c=true then tb σ H1 Q else Q (.bl false) H1
def zW(ta:TE):TE:=fun σ H Q=>ta σ H fun x H1=>∃c,x=.bl c/\Q (.bl (!c)) H1
theorem wo{op}{t:TE}(h:PE X a t):PE X (.BoolOp op [a] pos) t:=fun pins s σ H Q I hw=>BoolOp_one (h pins s σ H Q I hw)
theorem wp(ha:PE X a ta)(hb:PE X (.BoolOp .And (b::rest) pos) tb):PE X (.BoolOp .And (a::b::rest) pos) (zV ta tb):=by
 intro pins s σ H Q I h;refine BoolOp_and (thn (ha pins s σ H _ I h) fun v s1 ⟨x,H1,I1,r1,q1⟩=>?_);obtain⟨c,rfl,q1⟩:=q1;cases r1;refine wpAny_truthy_bool ?_
 cases c with
 | true=>exact hb pins s1 σ H1 Q I1 q1
 | false=>exact⟨.bl false,H1,I1,rfl,q1⟩
theorem wq(ha:PE X a ta):PE X (.UnaryOp .Not a pos) (zW ta):=by
 intro pins s σ H Q I h;refine UnaryOp_ (thn (ha pins s σ H _ I h) fun v s1 ⟨x,H1,I1,r1,q1⟩=>?_);obtain⟨c,rfl,q1⟩:=q1;cases r1;exact not_of (wpAny_truthy_bool ⟨.bl (!c),H1,I1,rfl,q1⟩)
def tIf(t:TT)(ta tb:TE):TE:=fun σ H Q=>t σ H fun c H1=>if c=true then ta σ H1 Q else tb σ H1 Q
theorem uH{c:Expr}(hc:PT X c tA)(ha:PE X a ta)(hb:PE X b tb):PE X (.IfExp c a b pos) (tIf tA ta tb):=by
 intro pins s σ H Q I h;refine wpAny_IfExp (thn (hc pins s σ H _ I h) fun d s1 ⟨H1,I1,q1⟩=>?_)
 cases d with
 | true=>exact ha pins s1 σ H1 Q I1 q1
 | false=>exact hb pins s1 σ H1 Q I1 q1
end
def SqL(K:PySem.W.Frag)(H:Hp)(a:Addr)(xs:List V):Prop :=
 Rd H a (.lst xs) \/
  ∃(o:Obj) (its:Array Value) (n:Nat),K.lookup a=some o/\o.cls=.type "list"/\o.dict=none/\o.data=.seq its n/\its.size<=sizeLine/\bz xs its.toList
def SqT(K:PySem.W.Frag)(H:Hp)(a:Addr)(xs:List V):Prop :=
 Rd H a (.tup xs) \/
  ∃(o:Obj) (its:Array Value) (n:Nat),K.lookup a=some o/\o.cls=.type "tuple"/\o.data=.seq its n/\its.size<=sizeLine/\bz xs its.toList
def Ef:Value->Option V
 | .none=>some .non
 | .bool b=>some (.bl b)
 | .int i _=>some (.int i)
 | .str x _=>some (.str x)
 | .bytes b _=>some (.byt b)
 | .float b _=>some (.flt b)
 | .ref a=>some (.ref a)
 | .type n=>some (.ty n)
 | _=>none
theorem cJ.abs{x:V}{u:Value}(r:cJ x u):Ef u=some x:=by
 cases x with
 | non=>cases r;rfl
 | bl _=>cases r;rfl
 | int _=>obtain⟨t,rfl⟩:=r;rfl
 | str _=>obtain⟨t,rfl⟩:=r;rfl
 | byt _=>obtain⟨t,rfl⟩:=r;rfl
 | flt _=>obtain⟨t,rfl⟩:=r;rfl
 | ref _=>cases r;rfl
 | ty _=>cases r;rfl
theorem cJ.inj{x y:V}{u:Value}(r:cJ x u)(q:cJ y u):x=y:=Option.some.inj (r.abs.symm.trans q.abs)
theorem bz.inj:∀{xs ys:List V}{us:List Value},bz xs us->bz ys us->xs=ys
 | _,_,_,.nil,.nil=>rfl
 | _,_,_,.cons r t,.cons r' t'=>by rw [r.inj r',bz.inj t t']
section
variable {X:Cx}{pins:List (Addr×Obj)}{σ:St}{H:Hp}{s:Shared}{a:Addr}{xs ys:List V}
theorem SqL.of{K:PySem.W.Frag}(h:H a=some (.lst xs)):SqL K H a xs:=.inl (.inl h)
theorem SqT.of{K:PySem.W.Frag}(h:H a=some (.tup xs)):SqT K H a xs:=.inl (.inl h)
theorem Inv.list(I:Inv X pins σ H s)(h:SqL X.K H a xs):∃its:List Value,bz xs its/\PlainL s.heap a its.toArray/\xs.length<=sizeLine:=by
 rcases h with h|⟨o,its,n,hk,hc,hd,hs,hz,r⟩
 .obtain⟨z,its,n,r,e⟩:=h.ok I.hok;exact⟨its,r,⟨_,n,e,rfl,rfl,rfl⟩,z⟩
 .refine⟨its.toList,r,⟨o,n,I.kIn a o hk,hc,hd,by simpa using hs⟩,?_⟩;have e:=r.length;simp only [Array.length_toList] at e;omega
theorem Inv.tuple(I:Inv X pins σ H s)(h:SqT X.K H a xs):∃its:List Value,bz xs its/\IsTup s.heap a its.toArray/\xs.length<=sizeLine:=by
 rcases h with h|⟨o,its,n,hk,hc,hs,hz,r⟩
 .obtain⟨z,its,r,p⟩:=h.ok I.hok;exact⟨its,r,p,z⟩
 .refine⟨its.toList,r,⟨o,I.kIn a o hk,hc,n,by simpa using hs⟩,?_⟩;have e:=r.length;simp only [Array.length_toList] at e;omega
theorem Inv.list_inj(I:Inv X pins σ H s)(h:SqL X.K H a xs)(h':SqL X.K H a ys):xs=ys:=by
 obtain⟨its,r,⟨o,n,e,_,_,d⟩,_⟩:=I.list h;obtain⟨its',r',⟨o',n',e',_,_,d'⟩,_⟩:=I.list h';rw [e] at e';cases e';rw [d] at d';injection d' with d1 _;have:its=its':=by simpa using congrArg Array.toList d1
 subst this;exact r.inj r'
theorem Inv.tuple_inj(I:Inv X pins σ H s)(h:SqT X.K H a xs)(h':SqT X.K H a ys):xs=ys:=by
 obtain⟨its,r,⟨o,e,_,n,d⟩,_⟩:=I.tuple h;obtain⟨its',r',⟨o',e',_,n',d'⟩,_⟩:=I.tuple h';rw [e] at e';cases e';rw [d] at d';injection d' with d1 _;have:its=its':=by simpa using congrArg Array.toList d1
 subst this;exact r.inj r'
end
abbrev Cx.wish(X:Cx)(E:Value->Shared->Prop):Cx:={ X with xe:=E }
abbrev Cx.nox(X:Cx):Cx:=X.wish fun _ _=>False
theorem Cx.Ok.wish{X:Cx}(ok:X.Ok)(E:Value->Shared->Prop):(X.wish E).Ok :=
 ⟨ok.mod,ok.kind,ok.glob,ok.blt,ok.above,ok.inj,ok.has,ok.cab,ok.hd,ok.frames,ok.stk,ok.exf,ok.bs,ok.bsz,ok.noex,ok.exfs,ok.funs,ok.frf⟩
theorem Cx.Ok.unwish{X:Cx}{E:Value->Shared->Prop}(ok:(X.wish E).Ok):X.Ok :=
 ⟨ok.mod,ok.kind,ok.glob,ok.blt,ok.above,ok.inj,ok.has,ok.cab,ok.hd,ok.frames,ok.stk,ok.exf,ok.bs,ok.bsz,ok.noex,ok.exfs,ok.funs,ok.frf⟩
section
variable {X:Cx}{pins:List (Addr×Obj)}{σ:St}{H:Hp}{s:Shared}{E:Value->Shared->Prop}
theorem Inv.wish(I:Inv X pins σ H s)(E:Value->Shared->Prop):Inv (X.wish E) pins σ H s:=⟨I.ok.wish E,I.os,I.bare,I.base,I.loc,I.cell,I.free,I.freeC,I.pin,I.hok,I.len⟩
theorem Inv.unwish(I:Inv (X.wish E) pins σ H s):Inv X pins σ H s:=⟨I.ok.unwish,I.os,I.bare,I.base,I.loc,I.cell,I.free,I.freeC,I.pin,I.hok,I.len⟩
theorem SP.unwish{D:rD}{f:Flow}{s':Shared}(h:SP (X.wish E) pins D f s'):SP X pins D f s':=by
 cases f with
 | next=>obtain⟨σ',H',I,q⟩:=h;exact⟨σ',H',I.unwish,q⟩
 | brk=>obtain⟨σ',H',I,q⟩:=h;exact⟨σ',H',I.unwish,q⟩
 | cont=>obtain⟨σ',H',I,q⟩:=h;exact⟨σ',H',I.unwish,q⟩
 | ret u=>obtain⟨v,σ',H',I,r,q⟩:=h;exact⟨v,σ',H',I.unwish,r,q⟩
theorem PT.nox{e:Expr}{t:TT}(h:PT X.nox e t):PT X e t:=fun pins s σ H Q I hw =>
 wpAny_mono (h pins s σ H Q (I.wish _) hw) (fun _ _ ⟨H',I',q⟩=>⟨H',I'.unwish,q⟩) fun _ _ z=>False.elim z
theorem PSs.nox{st:List Stmt}{t:TS}(h:PSs X.nox st t):PSs X st t:=fun pins s σ H D I hw =>
 wpAny_mono (h pins s σ H D (I.wish _) hw) (fun _ _ q=>q.unwish) fun _ _ z=>False.elim z
end
section
variable {X:Cx}{st:Stmt}{rest:List Stmt}{t u:TS}{e:Expr}{te:TE}{pos:Pos}
def zX:TS:=fun D σ H=>D.nx σ H
def zy(t u:TS):TS:=fun D σ H=>t { D with nx:=u D } σ H
theorem b2:PSs X [] zX:=fun _ _ σ H _ I h=>wpAny_execs_nil ⟨σ,H,I,h⟩
theorem ag(h1:PS X st t)(h2:PSs X rest u):PSs X (st::rest) (zy t u):=by
 intro pins s σ H D I h;refine wpAny_execs_cons (thn (h1 pins s σ H { D with nx:=u D } I h) fun f s1 q=>?_)
 cases f with
 | next =>
  obtain⟨σ',H',I',q⟩:=q;exact h2 pins s1 σ' H' D I' q
 | ret v=>exact q
 | brk=>exact q
 | cont=>exact q
theorem aq(h1:PS X st t):PSs X [st] t:=by
 intro pins s σ H D I h;refine wpAny_execs_cons (thn (h1 pins s σ H D I h) fun f s1 q=>?_)
 cases f with
 | next=>exact wpAny_execs_nil q
 | ret v=>exact q
 | brk=>exact q
 | cont=>exact q
theorem Inv.quiet{pins:List (Addr×Obj)}{σ:St}{H:Hp}{s:Shared}(I:Inv X pins σ H s):interactive X.env=false:=by simp [interactive,I.ok.kind]
def xu(te:TE):TS:=fun D σ H=>te σ H fun _ H1=>D.nx σ H1
theorem c8(he:PE X e te)(hs:swapsWith e none pos.line X.env=pure false:=by rfl):PS X (.Expr e pos) (xu te):=by
 intro pins s σ H D I h;exact wpAny_Expr_any (thn (he pins s σ H _ I h) fun v s1 ⟨x,H1,I1,r1,q1⟩=>⟨σ,H1,I1,q1⟩) I.quiet hs
def DK(te:TE):TS:=fun D σ H=>te σ H D.rt
theorem a9(he:PE X e te):PS X (.Return (some e) pos) (DK te):=by
 intro pins s σ H D I h;exact wpAny_Return_some (thn (he pins s σ H _ I h) fun v s1 ⟨x,H1,I1,r1,q1⟩=>⟨x,σ,H1,I1,r1,q1⟩)
def Cm(c:TT)(t u:TS):TS:=fun D σ H=>c σ H fun b H1=>if b=true then t D σ H1 else u D σ H1
theorem eV{c:Expr}{a b:List Stmt}{tc:TT}(hc:PT X c tc)(ha:PSs X a t)(hb:PSs X b u):PS X (.If c a b pos) (Cm tc t u):=by
 intro pins s σ H D I h;refine wpAny_If (thn (hc pins s σ H _ I h) fun d s1 ⟨H1,I1,q1⟩=>?_)
 cases d with
 | true=>exact ha pins s1 σ H1 D I1 q1
 | false=>exact hb pins s1 σ H1 D I1 q1
def wt:TS:=fun _ _ _=>False
theorem o5:PS X st wt:=fun _ _ _ _ _ _ h=>h.elim
end
abbrev TG:=V->St->Hp->(St->Hp->Prop)->Prop
abbrev TGs:=List V->St->Hp->(St->Hp->Prop)->Prop
def PG(X:Cx)(target:Expr)(t:TG):Prop :=
 ∀(pins:List (Addr×Obj)) (s:Shared) (σ:St) (H:Hp) (v:V) (u:Value) (Q:St->Hp->Prop),Inv X pins σ H s->cJ v u->t v σ H Q ->
  wpAny (model X.prog X.w) X.A (assign target X.env u) (fun _ s'=>∃σ' H',Inv X pins σ' H' s'/\Q σ' H') X.xe s
def PGs(X:Cx)(ts:List Expr)(t:TGs):Prop :=
 ∀(pins:List (Addr×Obj)) (s:Shared) (σ:St) (H:Hp) (vs:List V) (us:List Value) (Q:St->Hp->Prop),Inv X pins σ H s->bz vs us->t vs σ H Q ->
  wpAny (model X.prog X.w) X.A (assignInOrder ((assignEach ts X.env).map (·.2)) us) (fun _ s'=>∃σ' H',Inv X pins σ' H' s'/\Q σ' H') X.xe s
abbrev Cn:=V->V->V->Hp->(Hp->Prop)->Prop
def DL(X:Cx)(t:Cn):Prop :=
 ∀(pins:List (Addr×Obj)) (s:Shared) (σ:St) (H:Hp) (o i v:V) (ov iv u:Value) (Q:Hp->Prop),Inv X pins σ H s->cJ o ov->cJ i iv->cJ v u->t o i v H Q ->
  wpAny (model X.prog X.w) X.A (setItem ov iv u) (fun _ s'=>∃H',Inv X pins σ H' s'/\Q H') X.xe s
section
variable {X:Cx}{pos:Pos}
def b3(i:Nat):TG:=fun v σ H Q=>Q (σ.set i (some v)) H
theorem aF{i:Nat}{x:Str}(hN:X.N.Nodup)(hi:X.N[i]?=some x)(hx:Loc X.env.scope x)(hf:X.fn x=true\/X.env.scope.names.lookup x=some .local:=by first|exact .inl rfl|exact .inr rfl|assumption):PG X (.Name x pos) (b3 i):=by
 intro pins s σ H v u Q I r h;exact wpAny_assign_Name (gq I hN hi hx r (fun s' I'=>⟨_,H,I',h⟩) hf)
def DM:TGs:=fun vs σ H Q=>vs=[]/\Q σ H
def zY(t:TG)(u:TGs):TGs:=fun vs σ H Q=>∃v r,vs=v::r/\t v σ H fun σ' H'=>u r σ' H' Q
theorem nC:PGs X [] DM:=by
 intro pins s σ H vs us Q I r h;obtain⟨e,h⟩:=h;subst e;cases r;exact assignInOrder_nil ⟨σ,H,I,h⟩
theorem fq{e:Expr}{es:List Expr}{t:TG}{u:TGs}(h1:PG X e t)(h2:PGs X es u)
  (hs:(assignEach (e::es) X.env).map (·.2)=assign e X.env::(assignEach es X.env).map (·.2):=by rfl):PGs X (e::es) (zY t u):=by
 intro pins s σ H vs us Q I r h;obtain⟨v,vr,e1,h⟩:=h;subst e1
 cases r with
 | cons r rr =>
  rw [hs];refine assignInOrder_cons (thn (h1 pins s σ H _ _ _ I r h) fun _ s1 ⟨σ1,H1,I1,q1⟩=>?_);exact h2 pins s1 σ1 H1 _ _ Q I1 rr q1
def Eg(K:PySem.W.Frag)(n:Nat)(t:TGs):TG:=fun v σ H Q=>∃a xs,v=.ref a/\SqT K H a xs/\xs.length=n/\t xs σ H Q
theorem zZ{es:List Expr}{k:Nat}{t:TGs}{n:Nat}(hc:X.calm=true)(h:PGs X es t)
  (hn:(assignEach es X.env).length=n:=by rfl) (hst:(assignEach es X.env).findIdx? (·.1)=none:=by rfl):PG X (.Tuple es k pos) (Eg X.K n t):=by
 intro pins s σ H v u Q I r hw;obtain⟨a,xs,e1,hq,hl,hw⟩:=hw;subst e1;cases r;obtain⟨its,rv,ht,hz⟩:=I.tuple hq;refine assign_Tuple_tuple (I.ok.hd hc) ht (by simp [hn,<- hl,rv.length]) hst fun h' hx=>?_;have I1:Inv X pins σ H { s with heap:=h' }:=I.kept (t':=s.toks) fun b o e=>hx b o (ne_of_lt (Heap.lt_size e)) e;exact h pins _ σ H xs _ Q I1 (by simpa using rv) hw
def Co(to ti:TE)(t:Cn):TG:=fun v σ H Q=>to σ H fun o H1=>ti σ H1 fun i H2=>t o i v H2 fun H3=>Q σ H3
theorem wu{o i:Expr}{to ti:TE}{t:Cn}(ho:PE X o to)(hi:PE X i ti)(hs:DL X t)
  (ha:∀v,assign (.Subscript o i pos) X.env v=(do
   let ov <- holding [v] (eval o X.env)
   let iv <- holding [v,ov] (eval i X.env)
   standAt pos
   holding [v,ov,iv] (setItem ov iv v)
   release [v,ov,iv] []):=by intro _;rfl):PG X (.Subscript o i pos) (Co to ti t):=by
 intro pins s σ H v u Q I r h;rw [ha];refine wpAny_bind (wpAny_holding (thn (ho pins s σ H _ I h) fun ov s1 ⟨x,H1,I1,r1,q1⟩=>?_));refine wpAny_bind (wpAny_holding (thn (hi pins s1 σ H1 _ I1 q1) fun iv s2 ⟨y,H2,I2,r2,q2⟩=>?_));refine wpAny_bind (wpAny_standAt (wpAny_bind (wpAny_holding (thn (hs pins s2 σ H2 x y v ov iv u _ I2 r1 r2 r q2) fun _ s3 ⟨H3,I3,q3⟩=>?_))));exact wpAny_release ⟨σ,H3,I3,q3⟩
def wv(te:TE)(g:TG):TS:=fun D σ H=>te σ H fun x H1=>g x σ H1 D.nx
theorem z0{tg e:Expr}{te:TE}{g:TG}(he:PE X e te)(hg:PG X tg g)(hs:swapsWithSole [tg] e pos.line X.env=pure false:=by rfl)(hw:swappedStores [tg] e X.env=pure none:=by rfl)
  (h1:(assignEach [tg] X.env).map (·.2)=[assign tg X.env]:=by rfl):PS X (.Assign [tg] e pos) (wv te g):=by
 intro pins s σ H D I h;refine wpAny_Assign_stores (thn (he pins s σ H _ I h) fun v s1 ⟨x,H1,I1,r1,q1⟩=>?_) hs hw;rw [h1];exact thn (hg pins s1 σ H1 x v _ I1 r1 q1) fun _ s2 q=>q
theorem aL{i:Nat}{x:Str}{e:Expr}{te:TE}{pos':Pos}(hN:X.N.Nodup)(hi:X.N[i]?=some x)(hx:Loc X.env.scope x)(he:PE X e te)(hs:swapsWith e (some (.Name x pos')) pos.line X.env=pure false:=by rfl)(hf:X.fn x=true\/X.env.scope.names.lookup x=some .local:=by first|exact .inl rfl|exact .inr rfl|assumption) :
  PS X (.Assign [.Name x pos'] e pos) (wv te (b3 i)):=by
 intro pins s σ H D I h;refine wpAny_Assign_Name (thn (he pins s σ H _ I h) fun v s1 ⟨y,H1,I1,r1,q1⟩=>?_) hs;exact gq I1 hN hi hx r1 (fun s2 I2=>⟨_,H1,I2,q1⟩) hf
end
section
variable {X:Cx}{pos:Pos}
def rG(c:TT)(tb:TS):TS:=fun D σ H=>∃W:Nat->St->Hp->Prop,(∃m,W m σ H)/\∀m σ H,W m σ H ->
 c σ H fun b H1=>if b=true then ∃N:St->Hp->Prop,(∀σ' H',N σ' H'->∃m',m'<m/\W m' σ' H')/\tb { D with nx:=N,ct:=N,bk:=D.nx } σ H1 else D.nx σ H1
theorem kT{c:Expr}{body:List Stmt}{tc:TT}{tb:TS}(hp:PassesOwn (model X.prog X.w) X.A X.env X.xe)(hc:PT X c tc)(hb:PSs X body tb):PS X (.While c body [] pos) (rG tc tb):=by
 intro pins s σ H D I h;obtain⟨W,⟨m0,w0⟩,turn⟩:=h;refine wpAny_While (codeAny_whileLoop (fun n s'=>∃σ' H',Inv X pins σ' H' s'/\W n σ' H') ?_ m0 ⟨σ,H,I,w0⟩);rintro n s1 ⟨σ1,H1,I1,w1⟩;refine wpAny_passesOwn hp (thn (hc pins s1 σ1 H1 _ I1 (turn n σ1 H1 w1)) fun b s2 ⟨H2,I2,q2⟩=>?_)
 cases b with
 | true =>
  obtain⟨N,hN,q2⟩:=q2;rw [if_pos rfl];refine wpAny_passesOwn hp (thn (hb pins s2 σ1 H2 _ I2 q2) fun f s3 q3=>?_)
  cases f with
  | next =>
   obtain⟨σ3,H3,I3,n3⟩:=q3;obtain⟨m',hm,w3⟩:=hN σ3 H3 n3;exact⟨m',hm,σ3,H3,I3,w3⟩
  | cont =>
   obtain⟨σ3,H3,I3,n3⟩:=q3;obtain⟨m',hm,w3⟩:=hN σ3 H3 n3;exact⟨m',hm,σ3,H3,I3,w3⟩
  | brk=>exact q3
  | ret v=>exact q3
 | false =>
  rw [if_neg Bool.false_ne_true];exact wpAny_execs_nil ⟨σ1,H2,I2,q2⟩
end
structure It where
 go:Nat->Hp->Prop
 yld:Nat->Hp->V->Hp->Prop
 stop:Nat->Hp->Prop
def rl(X:Cx)(pins:List (Addr×Obj))(H:Hp)(b:Addr):Prop :=
 H b=none/\b≠X.env.locals/\b∉X.fs/\(b∈X.ex\/X.s₀.heap.objs.size<=b)/\(∀x c,X.env.cells.lookup x=some c->c≠b)/\∀p∈X.pn++pins,p.1≠b
theorem Inv.fpOk{X:Cx}{pins:List (Addr×Obj)}{σ:St}{H H':Hp}{s:Shared}{b:Addr}(I:Inv X pins σ H s)(hb:s.heap.objs.size<=b)(hn:H' b=none):rl X pins H' b:=by
 refine⟨hn,ne_of_gt (lt_of_lt_of_le I.lt hb),I.nofs hb,.inr (Nat.le_trans I.sz hb),fun x c e z=>?_,fun p hp z=>?_⟩
 .obtain⟨v,q⟩:=I.cell x c e;exact absurd (lt_of_lt_of_le q.lt (by rw [z];exact hb)) (Nat.lt_irrefl _)
 .exact absurd (lt_of_lt_of_le (Heap.lt_size (I.pin p hp).1) (by rw [z];exact hb)) (Nat.lt_irrefl _)
structure zA (P:Program) (w:World) (K:PySem.W.Frag) (tg:Expr) (J:It) (fp:List Addr) (it:Addr) (tn:Nat->Heap->Prop):Prop where
 mem:it∈fp
 obj:∀i h,tn i h->∀b∈fp,∃o,h.get? b=some o/\∀v,o.data≠.cell v
 keep:∀i h h',tn i h->(∀b∈fp,∀o,h.get? b=some o->h'.get? b=some o)->tn i h'
 item:∀(X:Cx),X.prog=P->X.w=w->X.K=K->X.calm=true->∀(i:Nat) (pins:List (Addr×Obj)) (s:Shared) (σ:St) (H:Hp) (E:Value->Shared->Prop),Inv X pins σ H s->(∀b∈fp,rl X pins H b)->tn i s.heap->J.go i H ->
  wpAny (model P w) X.A (pyNext (.ref it)) (fun r s1=>∃u,r=some u /\
   wpAny (model P w) X.A (letOwnedTupleGo tg (.ref it) u) (fun _ s2=>∃x H',Inv X pins σ H' s2/\cJ x u/\J.yld i H x H'/\tn (i+1) s2.heap/\∀b∈fp,H' b=none) E s1) E s
 done:∀(X:Cx),X.prog=P->X.w=w->X.K=K->X.calm=true->∀(i:Nat) (pins:List (Addr×Obj)) (s:Shared) (σ:St) (H:Hp) (E:Value->Shared->Prop),Inv X pins σ H s->(∀b∈fp,rl X pins H b)->tn i s.heap->J.stop i H ->
  wpAny (model P w) X.A (pyNext (.ref it)) (fun r s1=>r=none/\Inv X pins σ H s1) E s
 self:∀(A:Around) (i:Nat) (s:Shared) (Q:Value->Shared->Prop) (E:Value->Shared->Prop),tn i s.heap->Q (.ref it) s->wpAny (model P w) A (pyIter (.ref it)) Q E s
abbrev TI:=St->Hp->(It->Hp->Prop)->Prop
def PIE(X:Cx)(pins:List (Addr×Obj))(σ:St)(tg:Expr)(R:It->Hp->Prop)(itv:Value)(s2:Shared):Prop :=
 ∃(it:Addr) (fp:List Addr) (tn:Nat->Heap->Prop) (J:It) (H':Hp),itv=.ref it/\Inv X pins σ H' s2/\zA X.prog X.w X.K tg J fp it tn/\tn 0 s2.heap/\(∀b∈fp,rl X pins H' b)/\R J H'
def PI(X:Cx)(tg iter:Expr)(wi:TI):Prop :=
 ∀(pins:List (Addr×Obj)) (s:Shared) (σ:St) (H:Hp) (R:It->Hp->Prop),Inv X pins σ H s->wi σ H R ->
  wpAny (model X.prog X.w) X.A (eval iter X.env) (fun v s1=>wpAny (model X.prog X.w) X.A (pyIter v) (PIE X pins σ tg R) X.xe s1) X.xe s
theorem xv{M:Model}{A:Around}{E:Value->Shared->Prop}{s:Shared}{tg:Expr}{it:Addr}{u:Value}{o:Obj}{n:String}{vs:Array Value}{Q:Unit->Shared->Prop}(ho:s.heap.get? it=some o)(hc:o.cls=.type n)(hd:o.data=.fields vs)
    (hn:["enumerate","zip","dict_itemiterator","dict_reverseitemiterator","odict_iterator","itertools.zip_longest","itertools.pairwise"].contains n=false) (hQ:Q () s):wpAny M A (letOwnedTupleGo tg (.ref it) u) Q E s:=by
  unfold letOwnedTupleGo
  cases tg <;> first
    | exact wpAny_pure hQ
    | (cases u <;> first
        | exact wpAny_pure hQ
        | (refine wpAny_bind (wpAny_load ho ?_)
           rw [hc,hd];show wpAny M A (if (["enumerate","zip","dict_itemiterator","dict_reverseitemiterator","odict_iterator","itertools.zip_longest","itertools.pairwise"].contains n && vs[0]? == some (rawInt _))=true then _ else _) Q E s;rw [if_neg (by intro h;rw [hn,Bool.false_and] at h;cases h)];exact wpAny_pure hQ))
def Itl(K:PySem.W.Frag)(a:Addr):It :=
 ⟨fun i H=>∃xs x,SqL K H a xs/\xs[i]?=some x,fun i H x H'=>H'=H/\∀xs,SqL K H a xs->xs[i]?=some x,fun i H=>∃xs,SqL K H a xs/\xs.length<=i⟩
def Itt(K:PySem.W.Frag)(a:Addr):It :=
 ⟨fun i H=>∃xs x,SqT K H a xs/\xs[i]?=some x,fun i H x H'=>H'=H/\∀xs,SqT K H a xs->xs[i]?=some x,fun i H=>∃xs,SqT K H a xs/\xs.length<=i⟩
def Itr(lo:Int)(n:Nat):It:=⟨fun i _=>i<n,fun i H x H'=>H'=H/\x=.int (lo+i),fun i _=>n<=i⟩
theorem rH{P:Program}{w:World}{K:PySem.W.Frag}{tg:Expr}(a it:Addr):zA P w K tg (Itl K a) [it] it (fun i h=>h.IsListIter it a i) where
 mem:=by simp
 obj:=fun i h st b hb=>by
  have e:b=it:=by simpa using hb
  subst e;obtain⟨o,e,c,d⟩:=st;exact⟨o,e,fun v z=>by rw [d] at z;cases z⟩
 keep:=fun i h h' st k=>st.at fun o e=>k it (by simp) o e
 item:=by
  intro X hP hw hK hc i pins s σ H E I hf st hg;subst hP hw hK;obtain⟨xs,x,hq,hx⟩:=hg;obtain⟨its,rv,p,hz⟩:=I.list hq;obtain⟨u,hu,ru⟩:=rv.get hx;obtain⟨f0,f1,f2,f3,f4,f5⟩:=hf it (by simp);refine wpAny_pyNext_list_item st p.isList (x:=u) (by simpa using hu) fun h' st' sb=>?_;have I1:Inv X pins σ H { s with heap:=h' }:=I.turned (t':=s.toks) (fun b o hb e=>(sb.2 b hb).trans e) f0 f1 f3 f4 f5;obtain⟨o,e,c,d⟩:=id st'
  exact⟨u,rfl,xv (s:={ s with heap:=h' }) e c d (by decide) ⟨x,H,I1,ru,⟨rfl,fun ys hy=>by rw [I.list_inj hy hq];exact hx⟩,st',fun b hb=>(hf b hb).1⟩⟩
 done:=by
  intro X hP hw hK hc i pins s σ H E I hf st hg;subst hP hw hK;obtain⟨xs,hq,hx⟩:=hg;obtain⟨its,rv,p,hz⟩:=I.list hq;obtain⟨f0,f1,f2,f3,f4,f5⟩:=hf it (by simp);have hl:=rv.length;exact wpAny_pyNext_list_end (I.ok.hd hc) st p.isList (by simp;omega) fun h' eb=>⟨rfl,I.turned (t':=s.toks) (fun b o hb e=>eb b o hb e) f0 f1 f3 f4 f5⟩
 self:=fun _ _ _ _ _ st h=>wpAny_pyIter_listiter st h
theorem qg{P:Program}{w:World}{K:PySem.W.Frag}{tg:Expr}(a it:Addr):zA P w K tg (Itt K a) [it] it (fun i h=>h.IsTupleIter it a i) where
 mem:=by simp
 obj:=fun i h st b hb=>by
  have e:b=it:=by simpa using hb
  subst e;obtain⟨o,e,c,d⟩:=st;exact⟨o,e,fun v z=>by rw [d] at z;cases z⟩
 keep:=fun i h h' st k=>st.at fun o e=>k it (by simp) o e
 item:=by
  intro X hP hw hK hc i pins s σ H E I hf st hg;subst hP hw hK;obtain⟨xs,x,hq,hx⟩:=hg;obtain⟨its,rv,p,hz⟩:=I.tuple hq;obtain⟨u,hu,ru⟩:=rv.get hx;obtain⟨f0,f1,f2,f3,f4,f5⟩:=hf it (by simp);refine wpAny_pyNext_tuple_item st (show s.heap.IsTuple a its.toArray from p) (x:=u) (by simpa using hu) fun h' st' sb=>?_;have I1:Inv X pins σ H { s with heap:=h' }:=I.turned (t':=s.toks) (fun b o hb e=>(sb.2 b hb).trans e) f0 f1 f3 f4 f5
  obtain⟨o,e,c,d⟩:=id st';exact⟨u,rfl,xv (s:={ s with heap:=h' }) e c d (by decide) ⟨x,H,I1,ru,⟨rfl,fun ys hy=>by rw [I.tuple_inj hy hq];exact hx⟩,st',fun b hb=>(hf b hb).1⟩⟩
 done:=by
  intro X hP hw hK hc i pins s σ H E I hf st hg;subst hP hw hK;obtain⟨xs,hq,hx⟩:=hg;obtain⟨its,rv,p,hz⟩:=I.tuple hq;obtain⟨f0,f1,f2,f3,f4,f5⟩:=hf it (by simp);have hl:=rv.length;exact wpAny_pyNext_tuple_end (I.ok.hd hc) st (show s.heap.IsTuple a its.toArray from p) (by simp;omega) fun h' eb=>⟨rfl,I.turned (t':=s.toks) (fun b o hb e=>eb b o hb e) f0 f1 f3 f4 f5⟩
 self:=fun _ _ _ _ _ st h=>wpAny_pyIter_tupleiter st h
theorem qh{P:Program}{w:World}{K:PySem.W.Frag}{tg:Expr}(it:Addr)(lo:Int)(n:Nat):zA P w K tg (Itr lo n) [it] it (fun i h=>IsRangeIter h it (lo+(i:Nat)*1) ((n:Int) - (i:Nat)) 1) where
 mem:=by simp
 obj:=fun i h st b hb=>by
  have e:b=it:=by simpa using hb
  subst e
  exact⟨_,st,fun v z=>by
   have z':Data.fields _=Data.cell v:=z;cases z'⟩
 keep:=fun i h h' st k=>k it (by simp) _ st
 item:=by
  intro X hP hw hK hc i pins s σ H E I hf st hg;subst hP hw hK;obtain⟨f0,f1,f2,f3,f4,f5⟩:=hf it (by simp);have W:=Walks.range (prog:=X.prog) (w:=X.w) (I.ok.hd hc) it lo 1 n;refine W.item i s _ _ hg st fun v h' tk hv st' kk=>?_;obtain⟨t,rfl⟩:=hv;have I1:Inv X pins σ H { s with heap:=h',toks:=tk }:=I.turned (fun b o hb e=>kk b o (by simpa using hb) e) f0 f1 f3 f4 f5;refine⟨_,rfl,xv (s:={ s with heap:=h',toks:=tk }) (n:="range_iterator") st' rfl rfl (by decide) ⟨.int (lo+i),H,I1,⟨t,?_⟩,⟨rfl,rfl⟩,st',fun b hb=>(hf b hb).1⟩⟩
  rw [mul_one]
 done:=by
  intro X hP hw hK hc i pins s σ H E I hf st hg;subst hP hw hK;obtain⟨f0,f1,f2,f3,f4,f5⟩:=hf it (by simp);exact wpAny_pyNext_range_end (I.ok.hd hc) st (by have:n<=i:=hg;omega) fun h' eb=>⟨rfl,I.turned (t':=s.toks) (fun b o hb e=>eb b o hb e) f0 f1 f3 f4 f5⟩
 self:=fun _ _ _ _ _ st h=>wpAny_pyIter_rangeiter st h
section
variable {X:Cx}{tg:Expr}
theorem uI{pins:List (Addr×Obj)}{σ:St}{H:Hp}{s:Shared}{R:It->Hp->Prop}{E:Value->Shared->Prop}{lo hi:Int}{t u v:Tok}{tk:Nat}(I:Inv X pins σ H s)(h1:-(2^62)<=lo)(h2:lo<2^62)(h3:-(2^62)<=hi)(h4:hi<2^62)
  (q:R (Itr lo (hi - lo).toNat) H):wpAny (model X.prog X.w) X.A (pyIter (.ref s.heap.objs.size)) (PIE X pins σ tg R) E { s with heap:=s.heap.push { cls:=.type "range",data:=.fields #[.int lo t,.int hi u,.int 1 v] },toks:=tk }:=by
 refine wpAny_pyIter_range (IsRange.new ..) (small_one h1 h2 h3 h4) ?_;have I1:Inv X pins σ H { s with heap:=s.heap.push { cls:=.type "range",data:=.fields #[.int lo t,.int hi u,.int 1 v] },toks:=tk }:=I.kept fun b o e=>Heap.get?_push_of_some _ e
 refine⟨(s.heap.push { cls:=.type "range",data:=.fields #[.int lo t,.int hi u,.int 1 v] }).objs.size,[(s.heap.push { cls:=.type "range",data:=.fields #[.int lo t,.int hi u,.int 1 v] }).objs.size],_,_,H,rfl,
  I1.kept (t':=tk) fun b o e=>Heap.get?_push_of_some _ e,qh _ lo (hi - lo).toNat,?_,fun b hb=>?_,q⟩
 .have e1:lo+((0:Nat):Int)*1=lo:=by simp
  have e2:(((hi - lo).toNat:Nat):Int) - ((0:Nat):Int)=Builtin.Range.rangeSize lo hi 1:=by rw [rangeSize_one];split <;> omega
  show IsRangeIter _ _ (lo+((0:Nat):Int)*1) ((((hi - lo).toNat:Nat):Int) - ((0:Nat):Int)) 1;rw [e1,e2];exact Heap.get?_push_size _ rfl
 .have e:b=(s.heap.push { cls:=.type "range",data:=.fields #[.int lo t,.int hi u,.int 1 v] }).objs.size:=by simpa using hb
  subst e;exact I1.fpOk (Nat.le_refl _) (I1.hok.fresh (Nat.le_refl _))
def jd(ta:TA):TI:=fun σ H R=>ta σ H fun vs H1=>∃j:Int,vs=[.int j]/\-(2^62)<=j/\j<2^62/\R (Itr 0 j.toNat) H1
theorem bI{a:Expr}{ta:TA}{p pos:Pos}(hg:Gl X "range")(hm:X.mg "range"=none)(ha:PA X [a] ta)(hs:starEach [a] X.env=[(false,eval a X.env)]:=by rfl):PI X tg (.Call (.Name "range" p) [a] [] pos) (jd ta):=by
 intro pins s σ H R I h;refine Call_ (fO I hg hm boot_range (PyProof.Rows.callWith_type1 (thn (ha pos pins s σ H _ I h) fun us s1 ⟨vs,H1,I1,r1,q1⟩=>?_) hs rfl));obtain⟨j,e,q1,q2,q⟩:=q1;subst e
 cases r1 with
 | cons r rr =>
  cases rr;obtain⟨t,rfl⟩:=r;exact call_range_1 (uI I1 (by omega) (by omega) q1 q2 (by simpa using q))
def B8(wi:TI)(g:TG)(tb:TS):TS:=fun D σ H=>wi σ H fun J H1=>∃W:Nat->Nat->St->Hp->Prop,(∃m,W 0 m σ H1)/\∀i m σ H,W i m σ H ->
 (J.stop i H/\D.nx σ H)\/(J.go i H/\∃N:St->Hp->Prop,(∀σ' H',N σ' H'->∃m',m'<m/\W (i+1) m' σ' H')/\∀x H',J.yld i H x H'->g x σ H' fun σ2 H2=>tb { D with nx:=N,ct:=N,bk:=D.nx } σ2 H2)
def lO(fp:List Addr)(h:Heap):List (Addr×Obj):=fp.filterMap fun b=>(h.get? b).map fun o=>(b,o)
theorem fu{fp:List Addr}{h:Heap}{b:Addr}{o:Obj}(hb:b∈fp)(e:h.get? b=some o):(b,o)∈lO fp h:=mem_filterMap.mpr ⟨b,hb,by rw [e];rfl⟩
theorem rJ{fp:List Addr}{h:Heap}{p:Addr×Obj}(hp:p∈lO fp h):p.1∈fp/\h.get? p.1=some p.2:=by
 obtain⟨b,hb,e⟩:=mem_filterMap.mp hp
 cases q:h.get? b with
 | none=>rw [q] at e;cases e
 | some o =>
  rw [q] at e;have e':(b,o)=p:=Option.some.inj e;subst e';exact⟨hb,q⟩
theorem Inv.pinned{pins:List (Addr×Obj)}{σ:St}{H:Hp}{s:Shared}{fp:List Addr}(I:Inv X pins σ H s)(hf:∀b∈fp,rl X pins H b)(ho:∀b∈fp,∃o,s.heap.get? b=some o/\∀v,o.data≠.cell v):Inv X (pins++lO fp s.heap) σ H s :=
 I.pins_of fun p hp=>(mem_append.mp hp).elim (fun z=>I.pin p (mem_append_right _ z)) fun z=>by
  obtain⟨hb,e⟩:=rJ z;obtain⟨f0,f1,f2,_⟩:=hf p.1 hb;obtain⟨o,e',d⟩:=ho p.1 hb;rw [e] at e';cases e';exact⟨e,f0,f1,f2,d⟩
theorem Inv.unpinned{pins pl:List (Addr×Obj)}{σ:St}{H:Hp}{s:Shared}(I:Inv X (pins++pl) σ H s):Inv X pins σ H s:=I.pins_of fun p hp=>I.pin p (mem_append_right _ (mem_append_left _ hp))
theorem dr{iter:Expr}{body:List Stmt}{wi:TI}{g:TG}{tb:TS}{pos:Pos}(hp:PassesOwn (model X.prog X.w) X.A X.env X.xe)(hc:X.calm=true)(hi:PI X tg iter wi)(hg:PG X tg g)(hb:PSs X body tb)
  (hs:∀x,foldedSetIterable iter X.env x=pure x:=by intro _;rfl):PS X (.For tg iter body [] pos) (B8 wi g tb):=by
 intro pins s σ H D I h;refine wpAny_For (thn (hi pins s σ H _ I h) fun v s1 h1=>thn h1 fun itv s2 h2=>?_) hs;obtain⟨it,fp,tn,J,H2,e,I2,T,st2,f2,W,⟨m0,w0⟩,turn⟩:=h2;subst e
 -- what stays true of the iterator's objects through the loop
 have stat:∀{H':Hp},(∀b∈fp,H' b=none)->∀b∈fp,rl X pins H' b:=fun hn b hb=>⟨hn b hb,(f2 b hb).2⟩
 refine codeAny_forLoop_any (fun n s'=>∃i σ' H',Inv X pins σ' H' s'/\tn i s'.heap/\(∀b∈fp,H' b=none)/\W i n σ' H') ?_ m0 ⟨0,σ,H2,I2,st2,fun b hb=>(f2 b hb).1,w0⟩;rintro n s3 ⟨i,σ3,H3,I3,st3,fr3,w3⟩
 rcases turn i n σ3 H3 w3 with ⟨stop,qn⟩|⟨go,N,hN,step⟩
 .refine wpAny_passesOwn hp (thn (T.done X rfl rfl rfl hc i pins s3 σ3 H3 X.xe I3 (stat fr3) st3 stop) fun r s4 ⟨hr,I4⟩=>?_);subst hr;exact wpAny_execs_nil ⟨σ3,H3,I4,qn⟩
 .refine wpAny_passesOwn hp (thn (T.item X rfl rfl rfl hc i pins s3 σ3 H3 X.xe I3 (stat fr3) st3 go) fun r s4 ⟨u,hr,h4⟩=>?_);subst hr;refine wpAny_passesOwn hp (thn h4 fun _ s5 ⟨x,H5,I5,r5,y5,st5,fr5⟩=>?_);have I5':=I5.pinned (stat fr5) (T.obj _ _ st5);refine wpAny_passesOwn hp (thn (hg _ s5 σ3 H5 x u _ I5' r5 (step x H5 y5)) fun _ s6 ⟨σ6,H6,I6,q6⟩=>?_);refine wpAny_passesOwn hp (thn (hb _ s6 σ6 H6 _ I6 q6) fun f s7 q7=>?_)
  have again:∀{σ7:St}{H7:Hp},Inv X (pins++lO fp s5.heap) σ7 H7 s7->N σ7 H7->∃m,m<n/\∃i σ' H',Inv X pins σ' H' s7/\tn i s7.heap/\(∀b∈fp,H' b=none)/\W i m σ' H':=fun {σ7 H7} I7 n7=>by
   obtain⟨m',hm,w7⟩:=hN σ7 H7 n7;refine⟨m',hm,i+1,σ7,H7,I7.unpinned,T.keep _ _ _ st5 fun b hb o e=>(I7.pin (b,o) (mem_append_right _ (mem_append_right _ (fu hb e)))).1,fun b hb=>?_,w7⟩;obtain⟨o,e,d⟩:=T.obj _ _ st5 b hb;exact (I7.pin (b,o) (mem_append_right _ (mem_append_right _ (fu hb e)))).2.1
  cases f with
  | next=>obtain⟨σ7,H7,I7,n7⟩:=q7;exact again I7 n7
  | cont=>obtain⟨σ7,H7,I7,n7⟩:=q7;exact again I7 n7
  | brk=>obtain⟨σ7,H7,I7,q7⟩:=q7;exact⟨σ7,H7,I7.unpinned,q7⟩
  | ret v=>obtain⟨x7,σ7,H7,I7,r7,q7⟩:=q7;exact⟨x7,σ7,H7,I7.unpinned,r7,q7⟩
end
abbrev R2:=V->V->Hp->VK->Prop
def OpR(X:Cx)(f:Value->Value->Sem Value)(r:R2):Prop :=
 ∀(pins:List (Addr×Obj)) (s:Shared) (σ:St) (H:Hp) (x y:V) (v u:Value) (Q:VK),Inv X pins σ H s->cJ x v->cJ y u->r x y H Q ->
  wpAny (model X.prog X.w) X.A (f v u) (EP X pins σ Q) X.xe s
def UnR(X:Cx)(f:Value->Sem Value)(r:V->Hp->VK->Prop):Prop :=
 ∀(pins:List (Addr×Obj)) (s:Shared) (σ:St) (H:Hp) (x:V) (v:Value) (Q:VK),Inv X pins σ H s->cJ x v->r x H Q ->
  wpAny (model X.prog X.w) X.A (f v) (EP X pins σ Q) X.xe s
def bP(X:Cx)(f:Value)(r:List V->Hp->VK->Prop):Prop :=
 ∀(pins:List (Addr×Obj)) (s:Shared) (σ:St) (H:Hp) (xs:List V) (us:List Value) (Q:VK),Inv X pins σ H s->bz xs us->r xs H Q ->
  wpAny (model X.prog X.w) X.A (call f us) (EP X pins σ Q) X.xe s
def tOp(r:R2)(ta tb:TE):TE:=fun σ H Q=>ta σ H fun x H1=>tb σ H1 fun y H2=>r x y H2 Q
def tUn(r:V->Hp->VK->Prop)(ta:TE):TE:=fun σ H Q=>ta σ H fun x H1=>r x H1 Q
def rI(C:Int->Int->Prop)(g:Int->Int->V):R2:=fun x y H Q=>∃i j,x=.int i/\y=.int j/\C i j/\Q (g i j) H
def rI0(g:Int->Int->V):R2:=fun x y H Q=>∃i j,x=.int i/\y=.int j/\Q (g i j) H
def rU(g:Int->V):V->Hp->VK->Prop:=fun x H Q=>∃i,x=.int i/\Q (g i) H
section
variable {X:Cx}{a b c:Expr}{ta tb tc:TE}{pos:Pos}
theorem Cq(ha:PE X a ta)(hb:PE X b tb){pins:List (Addr×Obj)}{s:Shared}{σ:St}{H:Hp}{R:V->V->Hp->Prop}(I:Inv X pins σ H s)
  (h:ta σ H fun x H1=>tb σ H1 fun y H2=>R x y H2) {Q:Value->Shared->Prop}{f:Value->Value->Sem Value}
  (hf:∀v u s2 x y H2,Inv X pins σ H2 s2->cJ x v->cJ y u->R x y H2->wpAny (model X.prog X.w) X.A (f v u) Q X.xe s2) :
  wpAny (model X.prog X.w) X.A (eval a X.env) (fun v s₁=>wpAny (model X.prog X.w) X.A (eval b X.env) (fun u s₂=>wpAny (model X.prog X.w) X.A (f v u) Q X.xe s₂) X.xe s₁) X.xe s:=by
 refine thn (ha pins s σ H _ I h) fun v s1 ⟨x,H1,I1,r1,q1⟩=>?_;refine thn (hb pins s1 σ H1 _ I1 q1) fun u s2 ⟨y,H2,I2,r2,q2⟩=>?_;exact hf v u s2 x y H2 I2 r1 r2 q2
theorem aD{op:Operator}{r:R2}(ho:OpR X (binaryOp op) r)(ha:PE X a ta)(hb:PE X b tb):PE X (.BinOp a op b pos) (tOp r ta tb):=by
 intro pins s σ H Q I h;exact wpAny_BinOp (Cq ha hb I h fun v u s2 x y H2 I2 rx ry q=>ho pins s2 σ H2 x y v u Q I2 rx ry q)
theorem lP{op:UnaryOp}{r:V->Hp->VK->Prop}(ho:UnR X (unaryOp op) r)(ha:PE X a ta):PE X (.UnaryOp op a pos) (tUn r ta):=by
 intro pins s σ H Q I h;exact UnaryOp_ (thn (ha pins s σ H _ I h) fun v s1 ⟨x,H1,I1,r1,q1⟩=>ho pins s1 σ H1 x v Q I1 r1 q1)
theorem opI{f:Value->Value->Sem Value}{C:Int->Int->Prop}{g:Int->Int->Int}
  (rule:∀(i j:Int) (t u:Tok) (s:Shared) (Q:Value->Shared->Prop) (E:Value->Shared->Prop),C i j->Q (.int (g i j) s.toks) { s with toks:=s.toks+1 }->wpAny (model X.prog X.w) X.A (f (.int i t) (.int j u)) Q E s) :
  OpR X f (rI C fun i j=>.int (g i j)):=by
 intro pins s σ H x y v u Q I rx ry h;obtain⟨i,j,rfl,rfl,hc,q⟩:=h;obtain⟨t,rfl⟩:=rx;obtain⟨t',rfl⟩:=ry;exact rule i j t t' s _ _ hc ⟨.int (g i j),H,I.tok _,⟨_,rfl⟩,q⟩
theorem Cr{f:Value->Value->Sem Value}{g:Int->Int->Int}
  (rule:∀(i j:Int) (t u:Tok) (s:Shared) (Q:Value->Shared->Prop) (E:Value->Shared->Prop),Q (.int (g i j) s.toks) { s with toks:=s.toks+1 }->wpAny (model X.prog X.w) X.A (f (.int i t) (.int j u)) Q E s) :
  OpR X f (rI0 fun i j=>.int (g i j)):=by
 intro pins s σ H x y v u Q I rx ry h;obtain⟨i,j,rfl,rfl,q⟩:=h;obtain⟨t,rfl⟩:=rx;obtain⟨t',rfl⟩:=ry;exact rule i j t t' s _ _ ⟨.int (g i j),H,I.tok _,⟨_,rfl⟩,q⟩
theorem zB{f:Value->Value->Sem Value}{g:Int->Int->Bool}
  (rule:∀(i j:Int) (t u:Tok) (s:Shared) (Q:Value->Shared->Prop) (E:Value->Shared->Prop),Q (.bool (g i j)) s->wpAny (model X.prog X.w) X.A (f (.int i t) (.int j u)) Q E s) :
  OpR X f (rI0 fun i j=>.bl (g i j)):=by
 intro pins s σ H x y v u Q I rx ry h;obtain⟨i,j,rfl,rfl,q⟩:=h;obtain⟨t,rfl⟩:=rx;obtain⟨t',rfl⟩:=ry;exact rule i j t t' s _ _ ⟨.bl (g i j),H,I,rfl,q⟩
def Cs(i j:Int):Prop:=0<j/\j<1073741824
def Aa(i j:Int):Prop:=0<=j/\j<=1000000/\i.natAbs<2^64
def B9(i j:Int):Prop:=(-(2^64)<i/\i<2^64)\/(-(2^64)<j/\j<2^64)
theorem B9.ok{i j:Int}(h:B9 i j):IntMulOk i j:=by
 rcases h with ⟨h1,h2⟩|⟨h1,h2⟩
 .exact .of_left (intBits_le_64 h1 h2)
 .exact .of_right (intBits_le_64 h1 h2)
theorem qi(k:Nat):(0:Int)<=2^k:=by
 rw [two_pow_cast];exact natCast_nonneg _
theorem Ab:OpR X (binaryOp .Add) (rI0 fun i j=>.int (i+j)):=Cr fun _ _ _ _ _ _ _ q=>add_int q
theorem Ac:OpR X (binaryOp .Sub) (rI0 fun i j=>.int (i - j)):=Cr fun _ _ _ _ _ _ _ q=>sub_int q
theorem Ad:OpR X (binaryOp .Mult) (rI B9 fun i j=>.int (i*j)):=opI fun _ _ _ _ _ _ _ hc q=>mul_int q hc.ok
theorem xw:OpR X (binaryOp .FloorDiv) (rI Cs fun i j=>.int (i / j)):=opI fun i j _ _ _ _ _ hc q=>by
 have h1:(0:Int)<j:=hc.1;have h2:j<1073741824:=hc.2;exact floordiv_int (by omega) (by rw [fdiv_eq_ediv_of_nonneg i (by omega)];exact q) (.inl (PyProof.noPylong_small (by omega)))
theorem Ae:OpR X (binaryOp .Mod) (rI (fun _ j=>0<j) fun i j=>.int (i % j)):=opI fun i j _ _ _ _ _ hc q=>by
 have h1:(0:Int)<j:=hc;exact mod_int' (by omega) (by rw [fmod_eq_emod_of_nonneg i (by omega)];exact q)
theorem Af:OpR X (binaryOp .Pow) (rI Aa fun i j=>.int (i^j.toNat)):=opI fun _ _ _ _ _ _ _ hc q=>pow_int_small hc.1 hc.2.1 hc.2.2 q
theorem Ag:OpR X (binaryOp .LShift) (rI Aa fun i j=>.int (i*2^j.toNat)):=opI fun _ _ _ _ _ _ _ hc q=>lshift_int_small hc.1 hc.2.1 hc.2.2 q
theorem Ah:OpR X (binaryOp .RShift) (rI (fun _ j=>0<=j) fun i j=>.int (i / 2^j.toNat)):=opI fun i j _ _ _ _ _ hc q =>
 rshift_int hc (by rw [fdiv_eq_ediv_of_nonneg i (qi _)];exact q)
theorem Aj:OpR X (binaryOp .BitAnd) (rI0 fun i j=>.int (Builtin.bitAnd i j)):=Cr fun _ _ _ _ _ _ _ q=>and_int q
theorem unI{f:Value->Sem Value}{g:Int->Int}
  (rule:∀(i:Int) (t:Tok) (s:Shared) (Q:Value->Shared->Prop) (E:Value->Shared->Prop),Q (.int (g i) s.toks) { s with toks:=s.toks+1 }->wpAny (model X.prog X.w) X.A (f (.int i t)) Q E s) :
  UnR X f (rU fun i=>.int (g i)):=by
 intro pins s σ H x v Q I rx h;obtain⟨i,rfl,q⟩:=h;obtain⟨t,rfl⟩:=rx;exact rule i t s _ _ ⟨.int (g i),H,I.tok _,⟨_,rfl⟩,q⟩
theorem iy:UnR X (unaryOp .USub) (rU fun i=>.int (-i)):=unI fun _ _ _ _ _ q=>neg_int q
end
def DN:V->V->Bool
 | .non,.non=>true|.non,.int _=>true|.int _,.non=>true|.non,.bl _=>true|.bl _,.non=>true|.non,.str _=>true|.str _,.non=>true
 | .int _,.int _=>true|.bl _,.bl _=>true|.str _,.str _=>true|.byt _,.byt _=>true
 | .int _,.str _=>true|.str _,.int _=>true|.bl _,.str _=>true|.str _,.bl _=>true
 | _,_=>false
def rEq:R2:=fun x y H Q=>DN x y=true/\Q (.bl (decide (x=y))) H
def rNe:R2:=fun x y H Q=>DN x y=true/\Q (.bl (!decide (x=y))) H
theorem rK{i j:Int}:decide (V.int i=V.int j)=(i == j):=by
 rw [Bool.eq_iff_iff];simp
theorem ww{i j:Bool}:decide (V.bl i=V.bl j)=(i == j):=by
 rw [Bool.eq_iff_iff];simp
theorem rL{i j:Str}:decide (V.str i=V.str j)=(i == j):=by
 rw [Bool.eq_iff_iff];simp
theorem rM{i j:Array UInt8}:decide (V.byt i=V.byt j)=(i.toList == j.toList):=by
 rw [Bool.eq_iff_iff];cases i;cases j;simp
section
variable {X:Cx}{a b c:Expr}{ta tb tc:TE}{pos:Pos}
theorem bv{pins:List (Addr×Obj)}{σ:St}{H:Hp}{s:Shared}{Q:VK}{k k':Bool}(I:Inv X pins σ H s)(q:Q (.bl k) H)(e:k=k'):EP X pins σ Q (.bool k') s:=by
 subst e;exact⟨.bl k,H,I,rfl,q⟩
theorem Ct:OpR X (compareOp .Eq) rEq:=by
 intro pins s σ H x y v u Q I rx ry h;obtain⟨hs,q⟩:=h
 cases x with
 | non =>
  cases rx
  cases y with
  | non=>cases ry;exact PySem.EqNone.eq_none_none (bv I q (by simp))
  | bl j=>cases ry;exact PySem.EqNone.eq_none_bool (bv I q (by simp))
  | int j=>obtain⟨t',rfl⟩:=ry;exact PySem.EqNone.eq_none_int (bv I q (by simp))
  | str j=>obtain⟨t',rfl⟩:=ry;exact PySem.EqNone.eq_none_str (bv I q (by simp))
  | _=>exact absurd (show false=true from hs) Bool.false_ne_true
 | bl i =>
  cases rx
  cases y with
  | non=>cases ry;exact PySem.EqNone.eq_bool_none (bv I q (by simp))
  | bl j=>cases ry;exact eq_bool (bv I q ww)
  | str j=>obtain⟨t',rfl⟩:=ry;exact PySem.EqMixed.eq_bool_str (bv I q (by simp))
  | _=>exact absurd (show false=true from hs) Bool.false_ne_true
 | int i =>
  obtain⟨t,rfl⟩:=rx
  cases y with
  | non=>cases ry;exact PySem.EqNone.eq_int_none (bv I q (by simp))
  | int j=>obtain⟨t',rfl⟩:=ry;exact eq_int (bv I q rK)
  | str j=>obtain⟨t',rfl⟩:=ry;exact PySem.EqMixed.eq_int_str (bv I q (by simp))
  | _=>exact absurd (show false=true from hs) Bool.false_ne_true
 | str i =>
  obtain⟨t,rfl⟩:=rx
  cases y with
  | non=>cases ry;exact PySem.EqNone.eq_str_none (bv I q (by simp))
  | bl j=>cases ry;exact PySem.EqMixed.eq_str_bool (bv I q (by simp))
  | int j=>obtain⟨t',rfl⟩:=ry;exact PySem.EqMixed.eq_str_int (bv I q (by simp))
  | str j=>obtain⟨t',rfl⟩:=ry;exact eq_str (bv I q rL)
  | _=>exact absurd (show false=true from hs) Bool.false_ne_true
 | byt i =>
  obtain⟨t,rfl⟩:=rx
  cases y with
  | byt j=>obtain⟨t',rfl⟩:=ry;exact PySem.W.eq_bytes (bv I q rM)
  | _=>exact absurd (show false=true from hs) Bool.false_ne_true
 | _=>cases y <;> exact absurd (show false=true from hs) Bool.false_ne_true
theorem Cu:OpR X (compareOp .NotEq) rNe:=by
 intro pins s σ H x y v u Q I rx ry h;obtain⟨hs,q⟩:=h
 cases x with
 | non =>
  cases rx
  cases y with
  | non=>cases ry;exact PySem.EqNone.ne_none_none (bv I q (by simp))
  | bl j=>cases ry;exact PySem.EqNone.ne_none_bool (bv I q (by simp))
  | int j=>obtain⟨t',rfl⟩:=ry;exact PySem.EqNone.ne_none_int (bv I q (by simp))
  | str j=>obtain⟨t',rfl⟩:=ry;exact PySem.EqNone.ne_none_str (bv I q (by simp))
  | _=>exact absurd (show false=true from hs) Bool.false_ne_true
 | bl i =>
  cases rx
  cases y with
  | non=>cases ry;exact PySem.EqNone.ne_bool_none (bv I q (by simp))
  | bl j=>cases ry;exact ne_bool (bv I q (congrArg not ww))
  | str j=>obtain⟨t',rfl⟩:=ry;exact PySem.EqMixed.ne_bool_str (bv I q (by simp))
  | _=>exact absurd (show false=true from hs) Bool.false_ne_true
 | int i =>
  obtain⟨t,rfl⟩:=rx
  cases y with
  | non=>cases ry;exact PySem.EqNone.ne_int_none (bv I q (by simp))
  | int j=>obtain⟨t',rfl⟩:=ry;exact ne_int (bv I q (congrArg not rK))
  | str j=>obtain⟨t',rfl⟩:=ry;exact PySem.EqMixed.ne_int_str (bv I q (by simp))
  | _=>exact absurd (show false=true from hs) Bool.false_ne_true
 | str i =>
  obtain⟨t,rfl⟩:=rx
  cases y with
  | non=>cases ry;exact PySem.EqNone.ne_str_none (bv I q (by simp))
  | bl j=>cases ry;exact PySem.EqMixed.ne_str_bool (bv I q (by simp))
  | int j=>obtain⟨t',rfl⟩:=ry;exact PySem.EqMixed.ne_str_int (bv I q (by simp))
  | str j=>obtain⟨t',rfl⟩:=ry;exact ne_str (bv I q (congrArg not rL))
  | _=>exact absurd (show false=true from hs) Bool.false_ne_true
 | byt i =>
  obtain⟨t,rfl⟩:=rx
  cases y with
  | byt j=>obtain⟨t',rfl⟩:=ry;exact PySem.W.ne_bytes (bv I q (congrArg not rM))
  | _=>exact absurd (show false=true from hs) Bool.false_ne_true
 | _=>cases y <;> exact absurd (show false=true from hs) Bool.false_ne_true
theorem Cv:OpR X (compareOp .Lt) (rI0 fun i j=>.bl (decide (i<j))):=zB fun _ _ _ _ _ _ _ q=>lt_int q
theorem Cw:OpR X (compareOp .LtE) (rI0 fun i j=>.bl (decide (i<=j))):=zB fun _ _ _ _ _ _ _ q=>le_int q
theorem Cy:OpR X (compareOp .Gt) (rI0 fun i j=>.bl (decide (j<i))):=zB fun _ _ _ _ _ _ _ q=>gt_int q
theorem Cz:OpR X (compareOp .GtE) (rI0 fun i j=>.bl (decide (j<=i))):=zB fun _ _ _ _ _ _ _ q=>ge_int q
theorem rN:OpR X (compareOp .Lt) (fun x y H Q=>∃i j,x=.str i/\y=.str j/\Q (.bl (decide (i.cps.toList<j.cps.toList))) H):=by
 intro pins s σ H x y v u Q I rx ry h;obtain⟨i,j,rfl,rfl,q⟩:=h;obtain⟨t,rfl⟩:=rx;obtain⟨t',rfl⟩:=ry;exact lt_str (bv I q rfl)
theorem OpR.or{f:Value->Value->Sem Value}{r r':R2}(h:OpR X f r)(h':OpR X f r'):OpR X f (fun x y H Q=>r x y H Q\/r' x y H Q):=by
 intro pins s σ H x y v u Q I rx ry q
 rcases q with q|q
 .exact h pins s σ H x y v u Q I rx ry q
 .exact h' pins s σ H x y v u Q I rx ry q
theorem b6(b:Expr){op:CmpOp}(h:op≠.In:=by decide)(h2:op≠.NotIn:=by decide):behindInMarks op b=false:=by
 have e1:(op == CmpOp.In)=false:=by cases op <;> first|rfl|exact absurd rfl h
 have e2:(op == CmpOp.NotIn)=false:=by cases op <;> first|rfl|exact absurd rfl h2
 cases b <;> simp [behindInMarks,e1,e2]
theorem rO{op:CmpOp}{r:R2}(ho:OpR X (compareOp op) r)(ha:PE X a ta)(hb:PE X b tb)(hm:behindInMarks op b=false):PE X (.Compare a [op] [b] pos) (tOp r ta tb):=by
 intro pins s σ H Q I h;exact wpAny_Compare1 (Cq ha hb I h fun v u s2 x y H2 I2 rx ry q=>ho pins s2 σ H2 x y v u Q I2 rx ry q) hm
def kU(t:TE):TT:=fun σ H Q=>t σ H fun x H'=>∃k,x=.bl k/\Q k H'
theorem bc{op:CmpOp}{r:R2}(ho:OpR X (compareOp op) r)(ha:PE X a ta)(hb:PE X b tb)(hm:behindInMarks op b=false):PT X (.Compare a [op] [b] pos) (kU (tOp r ta tb)):=by
 intro pins s σ H Q I h
 refine wpAny_isTrue_Compare1 (thn (ha pins s σ H _ I h) fun v s1 ⟨x,H1,I1,r1,q1⟩=>thn (hb pins s1 σ H1 _ I1 q1) fun u s2 ⟨y,H2,I2,r2,q2⟩ =>
  thn (ho pins s2 σ H2 x y v u _ I2 r1 r2 q2) fun c s3 ⟨z,H3,I3,r3,k,e,q3⟩=>?_) hm
 subst e;cases r3;exact wpAny_truthy_bool ⟨H3,I3,q3⟩
def o7(r r':R2)(ta tb tc:TE):TE:=fun σ H Q=>ta σ H fun x H1=>tb σ H1 fun y H2=>r x y H2 fun z H3=>∃k,z=.bl k /\
 (if k=true then tc σ H3 fun w' H4=>r' y w' H4 Q else Q (.bl false) H3)
theorem uJ{op op':CmpOp}{r r':R2}(ho:OpR X (compareOp op) r)(ho':OpR X (compareOp op') r')(ha:PE X a ta)(hb:PE X b tb)(hc:PE X c tc)
  (hm:lastMarks [op,op'] [b,c]=false:=by with_unfolding_all rfl):PE X (.Compare a [op,op'] [b,c] pos) (o7 r r' ta tb tc):=by
 intro pins s σ H Q I h
 refine Compare_chain (thn (ha pins s σ H _ I h) fun v s1 ⟨x,H1,I1,r1,q1⟩=>chain_link (thn (hb pins s1 σ H1 _ I1 q1) fun u s2 ⟨y,H2,I2,r2,q2⟩ =>
  thn (ho pins s2 σ H2 x y v u _ I2 r1 r2 q2) fun d s3 ⟨z,H3,I3,r3,k,e,q3⟩=>?_)) hm
 subst e;cases r3;refine wpAny_truthy_bool ?_
 cases k with
 | false=>exact ite_ff ⟨.bl false,H3,I3,rfl,q3⟩
 | true=>exact ite_tt (chain_last (thn (hc pins s3 σ H3 _ I3 q3) fun w' s4 ⟨z',H4,I4,r4,q4⟩=>ho' pins s4 σ H4 y z' u w' Q I4 r2 r4 q4))
theorem uK{op op':CmpOp}{r r':R2}(ho:OpR X (compareOp op) r)(ho':OpR X (compareOp op') r')(ha:PE X a ta)(hb:PE X b tb)(hc:PE X c tc)
  (hm:lastMarks [op,op'] [b,c]=false:=by with_unfolding_all rfl):PT X (.Compare a [op,op'] [b,c] pos) (kU (o7 r r' ta tb tc)):=by
 intro pins s σ H Q I h
 refine isTrue_chain (thn (ha pins s σ H _ I h) fun v s1 ⟨x,H1,I1,r1,q1⟩=>test_link (thn (hb pins s1 σ H1 _ I1 q1) fun u s2 ⟨y,H2,I2,r2,q2⟩ =>
  thn (ho pins s2 σ H2 x y v u _ I2 r1 r2 q2) fun d s3 ⟨z,H3,I3,r3,k,e,q3⟩=>?_)) hm
 subst e;cases r3;refine wpAny_truthy_bool ?_
 cases k with
 | false =>
  obtain⟨k',e',q'⟩:=q3;cases e';exact ite_ff ⟨H3,I3,q'⟩
 | true =>
  refine ite_tt (test_last (thn (hc pins s3 σ H3 _ I3 q3) fun w' s4 ⟨z',H4,I4,r4,q4⟩=>thn (ho' pins s4 σ H4 y z' u w' _ I4 r2 r4 q4) fun d' s5 ⟨z2,H5,I5,r5,k2,e2,q5⟩=>?_));subst e2;cases r5;exact wpAny_truthy_bool ⟨H5,I5,q5⟩
theorem kl:(sizeLine:Nat)<2^63:=by rw [sizeLine_eq];decide
theorem qj:OpR X (binaryOp .Add) (fun x y H Q=>∃i j,x=.str i/\y=.str j/\i.length+j.length<=sizeLine/\Q (.str (i++j)) H):=by
 intro pins s σ H x y v u Q I rx ry h;obtain⟨i,j,rfl,rfl,hz,q⟩:=h;obtain⟨t,rfl⟩:=rx;obtain⟨t',rfl⟩:=ry;exact add_str (fun t' tk=>⟨.str (i++j),H,I.tok _,⟨_,rfl⟩,q⟩) hz
theorem gu{x:V}{us:List Value}(r:bz [x] us):∃u,us=[u]/\cJ x u:=by
 cases r with
 | cons r1 r2=>cases r2;exact⟨_,rfl,r1⟩
theorem xx{x y:V}{us:List Value}(r:bz [x,y] us):∃u w',us=[u,w']/\cJ x u/\cJ y w':=by
 cases r with
 | cons r1 r2 =>
  cases r2 with
  | cons r3 r4=>cases r4;exact⟨_,_,rfl,r1,r3⟩
theorem rP(hc:X.calm=true):bP X (.builtin "max") (fun xs H Q=>∃i j,xs=[.int i,.int j]/\Q (.int (if j > i then j else i)) H):=by
 intro pins s σ H xs us Q I r h;obtain⟨i,j,rfl,q⟩:=h;obtain⟨u,w',rfl,⟨t,rfl⟩,⟨t',rfl⟩⟩:=xx r;refine max_two_ints (I.ok.hd hc) fun h' tk k=>⟨_,H,I.kept k,?_,q⟩
 by_cases hj:j > i
 .rw [if_pos hj,if_pos hj];exact⟨_,rfl⟩
 .rw [if_neg hj,if_neg hj];exact⟨_,rfl⟩
theorem rQ(hc:X.calm=true):bP X (.builtin "min") (fun xs H Q=>∃i j,xs=[.int i,.int j]/\Q (.int (if j<i then j else i)) H):=by
 intro pins s σ H xs us Q I r h;obtain⟨i,j,rfl,q⟩:=h;obtain⟨u,w',rfl,⟨t,rfl⟩,⟨t',rfl⟩⟩:=xx r;refine min_two_ints (I.ok.hd hc) fun h' tk k=>⟨_,H,I.kept k,?_,q⟩
 by_cases hj:j<i
 .rw [if_pos hj,if_pos hj];exact⟨_,rfl⟩
 .rw [if_neg hj,if_neg hj];exact⟨_,rfl⟩
end
structure xy (h:Heap) (x dx C:Addr) (mA:Str->Option Value):Prop where
 obj:h.get? x=some (PySem.W.instObj C dx)
 ns:h.Ns1 dx mA
 ne:dx≠x
theorem rR{h:Heap}{dx:Addr}{mA:Str->Option Value}(n:h.Ns1 dx mA):∃od,h.get? dx=some od/\∀name,PySem.W.lookIn name od=some (mA name):=by
 obtain⟨o,es,ep,ho,hd,hk,_,hm⟩:=n;refine⟨o,ho,fun name=>?_⟩;have e:=hm name;unfold nsFind findBy at e;rw [<- Array.find?_toList] at e;unfold PySem.W.lookIn;rw [hd];dsimp only
 split
 .rename_i y q;rw [q] at e;exact congrArg some e
 .rename_i q;rw [q] at e
  have a:es.toList.any (·.refKey)=false:=by
   rw [any_eq_false];intro y hy;obtain⟨z,t,hkey⟩:=hk y (Array.mem_toList_iff.mp hy);simp [DictEntry.refKey,hkey]
  have a':¬ es.toList.any (·.refKey)=true:=by rw [a];exact Bool.false_ne_true
  rw [if_neg a'];exact congrArg some e
theorem xy.look{h:Heap}{x dx C:Addr}{mA:Str->Option Value}(I:xy h x dx C mA):∃od,PySem.W.InstAt h x (PySem.W.instObj C dx) C (some od)/\∀name,PySem.W.lookIn name od=some (mA name) :=
 let ⟨od,ho,hl⟩:=rR I.ns
 ⟨od,⟨I.obj,rfl,rfl,ho⟩,hl⟩
section
variable {prog:Program}{w:World}{A:Around}{E:Value->Shared->Prop}{s:Shared}{K:PySem.W.Frag}{x dx C f:Addr}{mA:Str->Option Value}{name:Str}{v:Value}
theorem xz{expr:Bool}{Q:Value->Shared->Prop}(X:K.In s.heap)(I:xy s.heap x dx C mA)(hg:PySem.W.plainGet K C name=true)(hh:PySem.W.hasDictIn K C=true)
  (ha:PySem.W.findIn K (.ref C) name=some none) (hv:mA name=some v) (hv':PySem.W.handedIn v=true) (h:Q v { s with toks:=s.toks+1 }) :
  wpAny (model prog w) A (getAttr (.ref x) name expr) Q E s:=by
 obtain⟨od,J,hl⟩:=I.look;exact PySem.W.get_value X J (PySem.W.plainGet_of hg).1 (PySem.W.findObj_own hh ha rfl (by rw [hl,hv])) hv' h
theorem uL{pl:Sem Bool}{Q:Value×List Value->Shared->Prop}(X:K.In s.heap)(I:xy s.heap x dx C mA)(hg:PySem.W.plainGet K C name=true)
  (hf:PySem.W.findIn K (.ref C) name=some (some (.ref f))) (ht:PySem.W.isFn K (.ref f)=true) (hv:mA name=none) (h:Q (.ref f,[.ref x]) s) :
  wpAny (model prog w) A (getMethod (.ref x) name pl) Q E s:=by
 obtain⟨od,J,hl⟩:=I.look;exact PySem.W.method_fn X J (PySem.W.plainGet_of hg).1 (PySem.W.plainGet_of hg).2 hf (beq_iff_eq.mp ht) (by show (PySem.W.lookIn name od).map (·.isSome)=some false;rw [hl,hv];rfl) h
theorem xA{ns:List Str}{Q:Unit->Shared->Prop}(X:K.In s.heap)(I:xy s.heap x dx C mA)
  (hs:PySem.W.findIn K (.ref C) "__setattr__"=some (some (.builtin "object.__setattr__"))) (hp:PySem.W.plainOver K C=true) (ht:PySem.W.takerIn K C name=some none) (hh:PySem.W.hasDictIn K C=true)
  (hw:PySem.Within mA ns) (hsz:ns.length<=sizeLine)
  (h:∀h',xy h' x dx C (fun y=>if y=name then some v else mA y)->Heap.SameBut dx s.heap h'->Q () { s with heap:=h',toks:=s.toks+2 }) :
  wpAny (model prog w) A (setAttr (.ref x) name v) Q E s:=by
 obtain⟨od,J,hl⟩:=I.look;refine PySem.W.set_plain X J hs (PySem.W.osa_open (s:={ s with toks:=s.toks+1 }) (r:=none) X J hp ht fun b=>?_);obtain⟨cd,hc,hd'⟩:=PySem.W.any_some hh;have hx:s.heap.get? x=some ⟨.ref C,some dx,.plain,#[]⟩:=I.obj;refine wpAny_bind (wpAny_pure (wpAny_bind (wpAny_bind (wpAny_loadPart hx (wpAny_bind (PySem.W.Looks.here (s:={ s with toks:=s.toks+1 }) (PySem.W.looks_clsIn X hc) ?_))))))
 rw [hd'];refine wpAny_pure (a:=some dx) (wpAny_bind (wpAny_pure (wpAny_bind ?_)));refine wpAny_nsSet1 (s:={ s with toks:=s.toks+1 }) I.ns fun h' hn2 hs2=>?_;obtain⟨oD,esD,epD,hoD,hdD,hcD⟩:=hn2.count (PySem.Within.cons name v hw);refine wpAny_bind (wpAny_lookBehind hoD (by rw [hdD];exact pastItsLine_dict (Nat.le_trans hcD (by rw [length_cons];omega))) ?_);exact wpAny_pure (h _ ⟨(hs2.2 _ (Ne.symm I.ne)).trans I.obj,hn2,I.ne⟩ hs2)
theorem uM{R:Result->Shared->Prop}{vs:List Value}{kw:List (Str×Value)}(X:K.In s.heap)(hm:PySem.W.makesIn K C=true)
  (hi:PySem.W.findIn K (.ref C) "__init__"=some (some (.ref f))) (hf:PySem.W.typeIn K (.ref f)=some (.type "function"))
  (h:codeAny (model prog w) (A.under (.builtin "type.__call__" ⟨.ref C::vs,kw⟩)) (.call (.ref f) ⟨.ref (s.heap.objs.size+1)::vs,kw⟩) (PySem.W.InitBack (s.heap.objs.size+1) R)
   { s with heap:=(s.heap.push PySem.W.emptyDict).push (PySem.W.instObj C s.heap.objs.size) }) :
  codeAny (model prog w) A (.call (.ref C) ⟨vs,kw⟩) R s:=by
 obtain⟨hh,g,d,t,os⟩:=s;exact PySem.W.make_core (PySem.W.makes_of X hm) (PySem.W.looks_findIn X hi) (fun self=>PySem.W.bind_fn X self hf) (.inl rfl) h
end
def km(f:Str)(v:V):List (Str×V)->List (Str×V)
 | []=>[(f,v)]
 | (g,x)::r=>if g=f then (g,v)::r else (g,x)::km f v r
theorem je(f g:Str)(v:V):∀fs:List (Str×V),(km f v fs).lookup g=if g=f then some v else fs.lookup g
 | []=>by
  show List.lookup g [(f,v)]=_
  by_cases h:g=f
  .have hb:(g == f)=true:=beq_iff_eq.mpr h;simp only [List.lookup,hb,if_pos h]
  .have hb:(g == f)=false:=beq_eq_false_iff_ne.mpr h;simp only [List.lookup,hb,if_neg h]
 | (k,x)::r=>by
  have ih:=je f g v r;rw [show km f v ((k,x)::r)=(if k=f then (k,v)::r else (k,x)::km f v r) from rfl]
  by_cases hk:k=f
  .rw [if_pos hk]
   by_cases h:g=k
   .have hb:(g == k)=true:=beq_iff_eq.mpr h;simp only [List.lookup,hb,if_pos (h.trans hk)]
   .have hb:(g == k)=false:=beq_eq_false_iff_ne.mpr h;simp only [List.lookup,hb,if_neg (fun e:g=f=>h (e.trans hk.symm))]
  .rw [if_neg hk]
   by_cases h:g=k
   .have hb:(g == k)=true:=beq_iff_eq.mpr h;simp only [List.lookup,hb,if_neg (fun e:g=f=>hk (h.symm.trans e))]
   .have hb:(g == k)=false:=beq_eq_false_iff_ne.mpr h;simp only [List.lookup,hb];exact ih
theorem jf(f:Str)(v:V):∀fs:List (Str×V),f∈(km f v fs).map (·.1)/\∀g,g∈fs.map (·.1)->g∈(km f v fs).map (·.1)
 | []=>⟨by simp [km],fun g h=>by simp at h⟩
 | (k,x)::r=>by
  obtain⟨i1,i2⟩:=jf f v r;rw [show km f v ((k,x)::r)=(if k=f then (k,v)::r else (k,x)::km f v r) from rfl]
  by_cases hk:k=f
  .rw [if_pos hk];subst hk;exact⟨by simp,fun g h=>by simpa using h⟩
  .rw [if_neg hk]
   refine⟨?_,fun g h=>?_⟩
   .rw [map_cons];exact mem_cons_of_mem _ i1
   .rw [map_cons] at h ⊢
    rcases mem_cons.mp h with e|e
    .exact mem_cons.mpr (.inl e)
    .exact mem_cons_of_mem _ (i2 g e)
theorem jg(f:Str)(v:V):∀fs:List (Str×V),(km f v fs).length<=fs.length+1
 | []=>by simp [km]
 | (k,x)::r=>by
  have ih:=jg f v r;rw [show km f v ((k,x)::r)=(if k=f then (k,v)::r else (k,x)::km f v r) from rfl]
  by_cases hk:k=f
  .rw [if_pos hk,length_cons,length_cons];omega
  .rw [if_neg hk,length_cons,length_cons];omega
theorem qc.some_of{v:V}{o:Option Value}(r:qc (some v) o):∃u,o=some u/\cJ v u:=by
 cases o with
 | none=>exact (show False from r).elim
 | some u=>exact⟨u,rfl,r⟩
theorem qc.none_of{o:Option Value}(r:qc none o):o=none:=by
 cases o with
 | none=>rfl
 | some u=>exact (show False from r).elim
theorem rS{v:V}{u:Value}(r:cJ v u):PySem.W.handedIn u=true:=by
 cases v with
 | non=>cases (show u=Value.none from r);rfl
 | bl b=>cases (show u=Value.bool b from r);rfl
 | int i=>obtain⟨t,e⟩:=(show ∃t,u=Value.int i t from r);cases e;rfl
 | str x=>obtain⟨t,e⟩:=(show ∃t,u=Value.str x t from r);cases e;rfl
 | byt b=>obtain⟨t,e⟩:=(show ∃t,u=Value.bytes b t from r);cases e;rfl
 | flt b=>obtain⟨t,e⟩:=(show ∃t,u=Value.float b t from r);cases e;rfl
 | ref a=>cases (show u=Value.ref a from r);rfl
 | ty n=>cases (show u=Value.type n from r);rfl
section
variable {P:Program}{w:World}{H H':Hp}{h h':Heap}{a C dx:Addr}{fs fs':List (Str×V)}
theorem kW(hok:HOk P w H h)(e:H a=some (.ins C dx fs)):∃mA,xy h a dx C mA/\(∀f,qc (fs.lookup f) (mA f))/\PySem.Within mA (fs.map (·.1))/\fs.length<=1000/\H dx=some (.own a):=by
 obtain⟨d,z,ne,ob,mA,n,r,q⟩:=(show bL P w H h a (.ins C dx fs) from hok a _ e)
 exact⟨mA,⟨ob,n,ne⟩,r,q,z,d⟩
end
structure Cls (K:PySem.W.Frag) (C:Addr):Prop where
 pg:PySem.W.plainGet K C Str.empty=true
 hd:PySem.W.hasDictIn K C=true
 po:PySem.W.plainOver K C=true
 sa:PySem.W.findIn K (.ref C) "__setattr__"=some (some (.builtin "object.__setattr__"))
theorem Cls.get{K:PySem.W.Frag}{C:Addr}(c:Cls K C)(f:Str):PySem.W.plainGet K C f=true:=c.pg
def du(K:PySem.W.Frag)(C:Addr)(f:Str):Prop:=PySem.W.findIn K (.ref C) f=some none
theorem du.taker{K:PySem.W.Frag}{C:Addr}{f:Str}(n:du K C f):PySem.W.takerIn K C f=some none:=by
 unfold PySem.W.takerIn;rw [show PySem.W.findIn K (.ref C) f=some none from n];rfl
structure Ca (K:PySem.W.Frag) (C:Addr) (m:Str) (f:Addr):Prop where
 at_:PySem.W.findIn K (.ref C) m=some (some (.ref f))
 fn:PySem.W.isFn K (.ref f)=true
 kp:PySem.W.keepIn K (.ref f)=true
section
variable {X:Cx}{pins:List (Addr×Obj)}{σ:St}{H:Hp}{s:Shared}{a C dx:Addr}{fs:List (Str×V)}{f:Str}{v:V}{A:Around}{E:Value->Shared->Prop}
theorem qk{b:Bool}{Q:Value->Shared->Prop}(I:Inv X pins σ H s)(e:H a=some (.ins C dx fs))(c:Cls X.K C)(n:du X.K C f)(l:fs.lookup f=some v)
  (h:∀u s',Inv X pins σ H s'->cJ v u->Q u s'):wpAny (model X.prog X.w) A (getAttr (.ref a) f b) Q E s:=by
 obtain⟨mA,O,r,_,_,_⟩:=kW I.hok e;obtain⟨u,hu,ru⟩:=qc.some_of (v:=v) (o:=mA f) (by rw [<- l];exact r f);exact xz I.kIn O (c.get f) c.hd n hu (rS ru) (h u _ (I.tok _) ru)
theorem ql{m:Str}{g:Addr}{pl:Sem Bool}{Q:Value×List Value->Shared->Prop}(I:Inv X pins σ H s)(e:H a=some (.ins C dx fs))(c:Cls X.K C)(k:Ca X.K C m g)(l:fs.lookup m=none)
  (h:Q (.ref g,[.ref a]) s):wpAny (model X.prog X.w) A (getMethod (.ref a) m pl) Q E s:=by
 obtain⟨mA,O,r,_,_,_⟩:=kW I.hok e;have hn:mA m=none:=qc.none_of (by rw [<- l];exact r m);exact uL I.kIn O (c.get m) k.at_ k.fn hn h
theorem qm{y:V}{u:Value}{Q:Unit->Shared->Prop}(I:Inv X pins σ H s)(e:H a=some (.ins C dx fs))(c:Cls X.K C)(n:du X.K C f)(hl:fs.length<1000)(ry:cJ y u)
  (h:∀s',Inv X pins σ (upd H a (.ins C dx (km f y fs))) s'->Q () s'):wpAny (model X.prog X.w) A (setAttr (.ref a) f u) Q E s:=by
 obtain⟨mA,O,r,wi,_,ho⟩:=kW I.hok e;have hz:(fs.map (·.1)).length<=sizeLine:=by rw [length_map,sizeLine_eq];omega
 refine xA I.kIn O c.sa c.po n.taker c.hd wi hz fun h' O' sb=>h _ ?_;have hd:∃o,h'.get? dx=some o:=let ⟨o,_,_,e',_⟩:=O'.ns;⟨o,e'⟩
 refine I.write (x:=a) (e:=dx) (by rw [e];exact True.intro) (.inr ho) (fun b q hb z=>(sb.2 b hb).trans z) hd ?_
 refine⟨by rw [aj O.ne];exact ho,?_,O.ne,O'.obj,_,O'.ns,fun g=>?_,fun g hg=>?_⟩
 .have:=jg f y fs;omega
 .show qc ((km f y fs).lookup g) (if g=f then some u else mA g);rw [je]
  by_cases q:g=f
  .rw [if_pos q,if_pos q];exact ry
  .rw [if_neg q,if_neg q];exact r g
 .by_cases q:g=f
  .rw [q];exact (jf f y fs).1
  .refine (jf f y fs).2 g (wi g fun z=>hg ?_);show (if g=f then some u else mA g)=none;rw [if_neg q];exact z
theorem Inv.made(I:Inv X pins σ H s):Inv X pins σ (upd (upd H s.heap.objs.size (.own (s.heap.objs.size+1))) (s.heap.objs.size+1) (.ins C s.heap.objs.size []))
  { s with heap:=(s.heap.push PySem.W.emptyDict).push (PySem.W.instObj C s.heap.objs.size) }:=by
 have e1:(s.heap.push PySem.W.emptyDict).get? s.heap.objs.size=some PySem.W.emptyDict:=Heap.get?_push_size s.heap rfl
 have e2:((s.heap.push PySem.W.emptyDict).push (PySem.W.instObj C s.heap.objs.size)).get? (s.heap.objs.size+1)=some (PySem.W.instObj C s.heap.objs.size):=by
  have:=Heap.get?_push_size (s.heap.push PySem.W.emptyDict) (o:=PySem.W.instObj C s.heap.objs.size) rfl
  rwa [Heap.size_push] at this
 have e3:(s.heap.push PySem.W.emptyDict).Ns s.heap.objs.size (fun _=>none):=⟨PySem.W.emptyDict,#[],_,e1,rfl,(fun e he=>absurd he (by simp)),fun _=>rfl⟩
 have I1:=I.laid (a:=s.heap.objs.size) (o:=.own (s.heap.objs.size+1)) (h':=s.heap.push PySem.W.emptyDict) (t':=s.toks) (fun b u q=>Heap.get?_push_of_some _ q) (Nat.le_refl _) ⟨_,e1⟩;refine I1.laid (a:=s.heap.objs.size+1) (o:=.ins C s.heap.objs.size []) (t':=s.toks) (fun b u q=>Heap.get?_push_of_some _ q) (le_of_eq (Heap.size_push _ _)) ?_;have ne:s.heap.objs.size≠s.heap.objs.size+1:=ne_of_lt (lt_succ_self _)
 refine⟨by rw [aj ne,aA],zero_le _,ne,e2,fun _=>none,(Heap.Ns1.of_empty e3).at fun o q=>Heap.get?_push_of_some _ q,fun _=>True.intro,fun y hy=>absurd rfl hy⟩
theorem rT{prog:Program}{w:World}{env:Env}{e:Expr}{f:Str}{pos:Pos}{s:Shared}{Q:Value->Shared->Prop}(hb:attributeBase e f env (eval e env)=eval e env)
  (h:wpAny (model prog w) A (eval e env) (fun o s₁=>wpAny (model prog w) A (getAttr o f true) Q E s₁) E s):wpAny (model prog w) A (eval (.Attribute e f pos) env) Q E s :=
 Attribute_any_ h (by rw [arm_eval_Attribute,hb])
end
def rV(K:PySem.W.Frag)(ta:TE)(f:Str):TE:=fun σ H Q=>ta σ H fun x H1=>∃a C dx fs v,x=.ref a/\H1 a=some (.ins C dx fs)/\Cls K C/\du K C f/\fs.lookup f=some v/\Q v H1
def DO(K:PySem.W.Frag)(ta tv:TE)(f:Str):TS:=fun D σ H=>tv σ H fun y H1=>ta σ H1 fun x H2=>∃a C dx fs,x=.ref a/\H2 a=some (.ins C dx fs)/\Cls K C/\du K C f/\fs.length<1000 /\
 D.nx σ (upd H2 a (.ins C dx (km f y fs)))
section
variable {X:Cx}{o e value:Expr}{f:Str}{pos pos' tpos:Pos}{ta tv:TE}
theorem Ak(he:PE X e ta)(hb:attributeBase e f X.env (eval e X.env)=eval e X.env):PE X (.Attribute e f pos) (rV X.K ta f):=by
 intro pins s σ H Q I h;refine rT hb (thn (he pins s σ H _ I h) fun u s1 ⟨x,H1,I1,rx,a,C,dx,fs,v,ex,ea,c,n,l,q⟩=>?_);subst ex;obtain rfl:u=Value.ref a:=rx;exact qk I1 ea c n l fun u' s2 I2 ru=>⟨v,H1,I2,ru,q⟩
theorem kn(ha:PE X o ta)(hv:PE X value tv)(hs:swapsWith value (some (.Attribute o f pos')) pos.line X.env=pure false):PS X (.Assign [.Attribute o f pos'] value pos) (DO X.K ta tv f):=by
 intro pins s σ H D I h;refine plainObj_wpAny_Assign_Attribute (thn (hv pins s σ H _ I h) fun u s1 ⟨y,H1,I1,ry,q⟩=>thn (ha pins s1 σ H1 _ I1 q) fun ov s2 ⟨x,H2,I2,rx,a,C,dx,fs,ex,ea,c,n,l,q2⟩=>?_) hs;subst ex;obtain rfl:ov=Value.ref a:=rx;exact qm I2 ea c n l ry fun s3 I3=>⟨σ,_,I3,q2⟩
end
section
variable {X:Cx}{pins:List (Addr×Obj)}{σ:St}{H:Hp}{s:Shared}{A:Around}{E:Value->Shared->Prop}{Q:Value->Shared->Prop}{c:Value}{b:Bool}
inductive nE (K:PySem.W.Frag) (H:Hp):V->Value->Prop where
 | non:nE K H .non (.type "NoneType")
 | bl (x:Bool):nE K H (.bl x) (.type "bool")
 | int (i:Int):nE K H (.int i) (.type "int")
 | str (x:Str):nE K H (.str x) (.type "str")
 | flt (x:UInt64):nE K H (.flt x) (.type "float")
 | lst {a:Addr}{xs:List V} (e:H a=some (.lst xs)):nE K H (.ref a) (.type "list")
 | frz {a:Addr}{o:Obj}{xs:List V} (e:H a=some (.frz o (.lst xs))):nE K H (.ref a) (.type "list")
 | tup {a:Addr}{xs:List V} (e:H a=some (.tup xs)):nE K H (.ref a) (.type "tuple")
 | dK {a:Addr}{kvs:List (Key×V)} (e:H a=some (.dK kvs)):nE K H (.ref a) (.type "dict")
 | dT {a:Addr}{kvs:List (List Key×V)} (e:H a=some (.dT kvs)):nE K H (.ref a) (.type "dict")
 | ins {a C dx:Addr}{fs:List (Str×V)} (e:H a=some (.ins C dx fs)) (cl:Cls K C) (ha:PySem.W.findIn K (.ref C) "__class__"=some (some (.builtin "object.__class__")))
   (hn:PySem.W.specialIn K (.builtin "object.__class__") "__get__"=some (some (.builtin "getset_descriptor.__get__"))) (htk:PySem.W.takesIn K (.builtin "object.__class__")=some true)
   (hm:PySem.W.mroIn K C (.type "object")=some true):nE K H (.ref a) (.ref C)
theorem rW{x:V}{u t:Value}(I:Inv X pins σ H s)(rx:cJ x u)(ty:nE X.K H x t)(e:PySem.W.kitOne X.K t c=some b)(h:∀tk,Q (.bool b) { s with toks:=tk }) :
  wpAny (model X.prog X.w) A (call (.builtin "isinstance") [u,c]) Q E s:=by
 cases ty with
 | non=>cases (show u=Value.none from rx);exact PySem.W.kia_one PySem.W.kitx_none I.kIn True.intro e (fun z=>nomatch z) h
 | bl y=>cases (show u=Value.bool y from rx);exact PySem.W.kia_one PySem.W.kitx_bool I.kIn True.intro e (fun z=>nomatch z) h
 | int i=>obtain⟨t,q⟩:=(show ∃t,u=Value.int i t from rx);cases q;exact PySem.W.kia_one PySem.W.kitx_int I.kIn True.intro e (fun z=>nomatch z) h
 | str y=>obtain⟨t,q⟩:=(show ∃t,u=Value.str y t from rx);cases q;exact PySem.W.kia_one PySem.W.kitx_str I.kIn True.intro e (fun z=>nomatch z) h
 | flt y=>obtain⟨t,q⟩:=(show ∃t,u=Value.float y t from rx);cases q;exact PySem.W.kia_one PySem.W.kitx_float I.kIn True.intro e (fun z=>nomatch z) h
 | @lst a xs ea =>
  cases (show u=Value.ref a from rx);obtain⟨_,_,n,_,h1⟩:=(show bL X.prog X.w H s.heap a (.lst xs) from I.hok a _ ea)
  exact PySem.W.kia_one PySem.W.kitx_list I.kIn ⟨_,h1,rfl⟩ e (fun z=>nomatch z) h
 | @frz a ob xs ea =>
  cases (show u=Value.ref a from rx);obtain⟨_,_,_,n,_,h1⟩:=(show bL X.prog X.w H s.heap a (.frz ob (.lst xs)) from I.hok a _ ea)
  exact PySem.W.kia_one PySem.W.kitx_list I.kIn ⟨_,h1,rfl⟩ e (fun z=>nomatch z) h
 | @tup a xs ea =>
  cases (show u=Value.ref a from rx);obtain⟨_,_,_,p⟩:=(show bL X.prog X.w H s.heap a (.tup xs) from I.hok a _ ea)
  obtain⟨o,h1,h2,_⟩:=p;exact PySem.W.kia_one PySem.W.kitx_tuple I.kIn ⟨o,h1,h2⟩ e (fun z=>nomatch z) h
 | @dK a kvs ea =>
  cases (show u=Value.ref a from rx);obtain⟨_,_,vs,_,p⟩:=(show bL X.prog X.w H s.heap a (.dK kvs) from I.hok a _ ea)
  obtain⟨o,es,ep,h1,h2,_⟩:=p;exact PySem.W.kia_one PySem.W.kitx_dict I.kIn ⟨o,h1,h2.1⟩ e (fun z=>nomatch z) h
 | @dT a kvs ea =>
  cases (show u=Value.ref a from rx);obtain⟨_,_,xs,_,o,es,ep,h1,h2,_⟩:=(show bL X.prog X.w H s.heap a (.dT kvs) from I.hok a _ ea)
  exact PySem.W.kia_one PySem.W.kitx_dict I.kIn ⟨o,h1,h2.1⟩ e (fun z=>nomatch z) h
 | @ins a C dx fs ea cl ha hn htk hm =>
  cases (show u=Value.ref a from rx);obtain⟨mA,O,_⟩:=kW I.hok ea;obtain⟨od,J,_⟩:=O.look;exact PySem.W.kia_one (PySem.W.kitx_own (cl.get _) cl.hd ha hn htk hm) I.kIn J e (fun z=>nomatch z) h
end
structure dX (k:Nat) (A:Around):Prop where
 hd:A.handled=none
 dp:A.depth+3*k+5<recursionLimit
 un:A.units+16*k+200<cLine
theorem dX.mono{j k:Nat}{A:Around}(r:dX k A)(h:j<=k):dX j A:=⟨r.hd,by have:=r.dp;omega,by have:=r.un;omega⟩
theorem dX.deeper{k:Nat}{A:Around}(r:dX (k+1) A)(env:Env):dX k (A.deeper env) :=
 ⟨r.hd,by have:=r.dp;show A.depth+1+3*k+5<_;omega,by have:=r.un;show A.units+3+16*k+200<_;omega⟩
theorem qo{A:Around}{C:Addr}{us:List Value}{kw:List (Str×Value)}:(A.under (.builtin "type.__call__" ⟨.ref C::us,kw⟩)).depth=A.depth+1:=by
 first|rfl|simp [Around.under,Code.weight,Code.isCreation,Code.isGuard,Code.isCaller,Code.frames,Code.isFrame,guardIds]
theorem qp{A:Around}{C:Addr}{us:List Value}{kw:List (Str×Value)}:(A.under (.builtin "type.__call__" ⟨.ref C::us,kw⟩)).units=A.units+1:=by
 first|rfl|simp [Around.under,Code.cUnits,Code.frames,Code.isFrame]
theorem dX.make{k:Nat}{A:Around}(r:dX (k+1) A)(C:Addr)(us:List Value)(kw:List (Str×Value)):dX k (A.under (.builtin "type.__call__" ⟨.ref C::us,kw⟩)) :=
 ⟨r.hd,by have:=r.dp;rw [qo];omega,by have:=r.un;rw [qp];omega⟩
theorem dX.depth{k:Nat}{A:Around}(r:dX k A):A.depth<recursionLimit:=by have:=r.dp;omega
theorem dX.units{k:Nat}{A:Around}(r:dX k A):A.units+64<cLine:=by have:=r.un;omega
def dN:TA:=fun _ H Q=>Q [] H
def ba(ta:TE)(tr:TA):TA:=fun σ H Q=>ta σ H fun x H1=>tr σ H1 fun xs H2=>Q (x::xs) H2
section
variable {X:Cx}{e:Expr}{es:List Expr}{te:TE}{t:TA}{pos:Pos}
theorem af:PA X [] dN:=fun _ _ _ _ H Q I h=>Calls.spliced_nil ⟨[],H,I,.nil,h⟩
theorem xB(ha:PE X e te)(hr:PA X es t)(hs:starEach (e::es) X.env=(false,eval e X.env)::starEach es X.env:=by rfl):PA X (e::es) (ba te t):=by
 intro pos pins s σ H Q I h;rw [hs];show wpAny _ _ (spliced ((false,eval e X.env)::backTo pos (starEach es X.env))) _ _ s;refine Calls.spliced_cons (thn (ha pins s σ H _ I h) fun u s1 ⟨x,H1,I1,r1,q1⟩=>?_);exact thn (hr pos pins s1 σ H1 _ I1 q1) fun us s2 ⟨xs,H2,I2,r2,q2⟩=>⟨x::xs,H2,I2,.cons r1 r2,q2⟩
def CA(t:TA):TE:=fun σ H Q=>t σ H fun xs H1=>xs.length<=sizeLine/\∀p,H1 p=none->Q (.ref p) (upd H1 p (.tup xs))
def Al(t:TA):TE:=fun σ H Q=>t σ H fun xs H1=>xs.length<=sizeLine/\∀p,H1 p=none->Q (.ref p) (upd H1 p (.lst xs))
theorem rX{x1}(h:PA X es t):PE X (.Tuple es x1 pos) (CA t):=by
 intro pins s σ H Q I hq;refine wpAny_Tuple_spliced (thn (h pos pins s σ H _ I hq) fun us s1 ⟨xs,H1,I1,r,z,q⟩=>⟨by rw [<- r.length];exact z,?_⟩);have hf:H1 s1.heap.objs.size=none:=I1.hok.fresh (Nat.le_refl _);refine⟨.ref s1.heap.objs.size,upd H1 s1.heap.objs.size (.tup xs),I1.laid (t':=s1.toks) (fun b u e=>Heap.get?_push_of_some _ e) (Nat.le_refl _) ?_,rfl,q _ hf⟩;exact⟨z,us,r,⟨_,Heap.get?_push_size _ rfl,rfl,_,rfl⟩⟩
theorem cL(h:PA X es t):PE X (.List es pos) (Al t):=by
 intro pins s σ H Q I hq;refine wpAny_List_spliced (thn (h pos pins s σ H _ I hq) fun us s1 ⟨xs,H1,I1,r,z,q⟩=>⟨by rw [<- r.length];exact z,?_⟩);have hf:H1 s1.heap.objs.size=none:=I1.hok.fresh (Nat.le_refl _);refine⟨.ref s1.heap.objs.size,upd H1 s1.heap.objs.size (.lst xs),I1.laid (t':=s1.toks) (fun b u e=>Heap.get?_push_of_some _ e) (Nat.le_refl _) ?_,rfl,q _ hf⟩;exact⟨z,us,0,r,Heap.get?_push_size _ rfl⟩
end
abbrev Sp:=List V->Hp->VK->XK->Prop
abbrev CXT:=List Env->Hp->Shared->XK->Value->Shared->Prop
structure xC (P:Program) (w:World) (K:PySem.W.Frag) (mg:Str->Option Value) (base:Heap) (A:Around) (outer:List Env) (s:Shared) (H:Hp):Prop where
 frames:A.frames=some outer
 mod:Mod K mg base
 bs:∀b o,base.get? b=some o->s.heap.get? b=some o/\H b=none
 bsz:base.objs.size<=s.heap.objs.size
 funs:s.heap.FunFrames base outer
 frf:∀b∈frs outer,H b=none
 hok:HOk P w H s.heap
 bare:AllBare s.gens
def CE(outer:List Env)(P:Program)(w:World)(H:Hp)(s:Shared)(Q:VK)(u:Value)(s':Shared):Prop :=
 ∃v H',s'.os=s.os/\AllBare s'.gens/\Un (frs outer) [] H H' s.heap s'.heap/\HOk P w H' s'.heap/\cJ v u/\Q v H'
def CR(CX:CXT)(outer:List Env)(P:Program)(w:World)(H:Hp)(s:Shared)(Q:VK)(E:XK)(r:Result)(s':Shared):Prop :=
 match r with
 | .ok (.ret u)=>CE outer P w H s Q u s'
 | .ok _=>False
 | .error e=>CX outer H s E e s'
structure jY (P:Program) (w:World) (K:PySem.W.Frag) (mg:Str->Option Value) (base:Heap) (CX:CXT) (k:Nat) (f:Addr) (fd:FuncData) (ps:List Str) (sp:Sp):Prop where
 len:∀vs H Q E,sp vs H Q E->vs.length=ps.length
 run:∀(A:Around) (outer:List Env) (s:Shared) (H:Hp) (args:Args) (us:List Value) (vs:List V) (Q:VK) (E:XK),dX k A->xC P w K mg base A outer s H->BindsTo s fd args (ps.zip us)->bz vs us->sp vs H Q E ->
  codeAny (model P w) A (.call (.ref f) args) (CR CX outer P w H s Q E) s
theorem jY.imp{P:Program}{w:World}{K:PySem.W.Frag}{mg:Str->Option Value}{base:Heap}{CX:CXT}{k:Nat}{f:Addr}{fd:FuncData}{ps:List Str}{sp sp':Sp}(F:jY P w K mg base CX k f fd ps sp)
  (h:∀vs H Q E,sp' vs H Q E->sp vs H Q E):jY P w K mg base CX k f fd ps sp' :=
 ⟨fun vs H Q E q=>F.len vs H Q E (h _ _ _ _ q),fun A outer s H args us vs Q E hr he hb hv hs=>F.run A outer s H args us vs Q E hr he hb hv (h _ _ _ _ hs)⟩
theorem xC.make{P:Program}{w:World}{K:PySem.W.Frag}{mg:Str->Option Value}{base:Heap}{A:Around}{outer:List Env}{s:Shared}{H:Hp}(e:xC P w K mg base A outer s H)(C:Addr)(us:List Value)(kw:List (Str×Value)) :
  xC P w K mg base (A.under (.builtin "type.__call__" ⟨.ref C::us,kw⟩)) outer s H:=⟨by first|exact e.frames|(simpa [Around.under,Code.envs,Code.isFrame,pushEnvs] using e.frames),e.mod,e.bs,e.bsz,e.funs,e.frf,e.hok,e.bare⟩
section
variable {X:Cx}{pins:List (Addr×Obj)}{σ:St}{H:Hp}{s s':Shared}
theorem Inv.env0(I:Inv X pins σ H s):xC X.prog X.w X.K X.mg X.base X.A X.stack s H :=
 ⟨I.ok.frames,I.ok.mod,I.bs,Nat.le_trans I.ok.bsz I.sz,I.stack,I.stkFree,I.hok,I.bare⟩
theorem Inv.after{Q:VK}{u:Value}(I:Inv X pins σ H s)(h:CE X.stack X.prog X.w H s Q u s'):EP X pins σ Q u s':=by
 obtain⟨v,H',os,bare,un,hok,r,q⟩:=h;obtain⟨hh,g,d,t,os'⟩:=s';obtain rfl:os'=s.os:=os;exact⟨v,H',I.call (h':=hh) (g':=g) (d':=d) (t':=t) (ch:=[]) un hok bare (fun b z=>absurd z (by simp)),r,q⟩
end
def dY(sp:Sp)(dvs:List V)(E:XK)(t:TA):TE:=fun σ H Q=>t σ H fun vs H1=>sp (vs++dvs) H1 Q E
def xD(C:Addr)(m:Str)(sp:Sp)(dvs:List V)(E:XK)(ta:TE)(t:TA):TE:=fun σ H Q=>ta σ H fun x H1=>∃a dx fs,x=.ref a/\H1 a=some (.ins C dx fs)/\fs.lookup m=none /\
 t σ H1 fun vs H2=>sp (x::(vs++dvs)) H2 Q E
def uN(C:Addr)(sp:Sp)(dvs:List V)(E:XK)(t:TA):TE:=fun σ H Q=>t σ H fun vs H1=>∀x dx,H1 x=none->H1 dx=none->dx≠x ->
 sp (.ref x::(vs++dvs)) (upd (upd H1 dx (.own x)) x (.ins C dx [])) (fun v H2=>v=.non/\Q (.ref x) H2) E
def gv(K:PySem.W.Frag)(fd:FuncData)(ps:List Str)(ds:List Value):Prop :=
 ∀(s:Shared) (us:List Value),K.In s.heap->(us++ds).length=ps.length->BindsTo s fd ⟨us,[]⟩ (ps.zip (us++ds))
theorem gv.all{K:PySem.W.Frag}{fd:FuncData}{ps:List Str}(h:∀us:List Value,us.length=ps.length->bindArgs fd ⟨us,[]⟩=pure (ps.zip us)):gv K fd ps []:=fun s us _ hl=>by
 rw [append_nil] at hl ⊢;exact .of_eq (h us hl)
def ko(CX:CXT)(X:Cx)(E:XK):Prop:=∀(pins:List (Addr×Obj)) (σ:St) (H:Hp) (s:Shared) (e:Value) (s':Shared),Inv X pins σ H s->CX X.stack H s E e s'->X.xe e s'
section
variable {X:Cx}{CX:CXT}{k:Nat}{f C:Addr}{fd:FuncData}{ps:List Str}{sp:Sp}{dvs:List V}{ds:List Value}{E:XK}{x m:Str}{p pos apos:Pos}{e o:Expr}{es:List Expr}{ta:TE}{t:TA}
theorem wx{pins:List (Addr×Obj)}{σ:St}{H:Hp}{s:Shared}{Q:VK}{us:List Value}{vs:List V}(F:jY X.prog X.w X.K X.mg X.base CX k f fd ps sp)(hr:dX k X.A)(hb:gv X.K fd ps ds)(hd:bz dvs ds)(hx:ko CX X E)
  (I:Inv X pins σ H s) (r:bz vs us) (h:sp (vs++dvs) H Q E):wpAny (model X.prog X.w) X.A (call (.ref f) us) (EP X pins σ Q) X.xe s:=by
 have r2:bz (vs++dvs) (us++ds):=r.append hd;have hl:(us++ds).length=ps.length:=by rw [<- r2.length];exact F.len _ _ _ _ h
 refine wpAny_call (codeAny_mono (F.run X.A X.stack s H ⟨us,[]⟩ (us++ds) (vs++dvs) Q E hr I.env0 (hb s us I.kIn hl) r2 h) fun r s' hq=>?_)
 cases r with
 | error e=>exact hx pins σ H s e s' I hq
 | ok fl =>
  cases fl with
  | ret u=>exact I.after hq
  | next=>exact False.elim hq
  | brk=>exact False.elim hq
  | cont=>exact False.elim hq
theorem rY(F:jY X.prog X.w X.K X.mg X.base CX k f fd ps sp)(hr:dX k X.A)(hg:Gl X x)(hm:X.mg x=some (.ref f))(hk:PySem.W.keepIn X.K (.ref f)=true)(hb:gv X.K fd ps ds)(hd:bz dvs ds)(hx:ko CX X E)
  (ha:PA X (e::es) t) (hdb:(x == ("__debug__":Str))=false:=by decide) (he:starEach (e::es) X.env=(false,eval e X.env)::starEach es X.env:=by rfl) (hpl:(backTo pos (starEach es X.env)).any (·.1)=false:=by rfl) :
  PE X (.Call (.Name x p) (e::es) [] pos) (dY sp dvs E t):=by
 intro pins s σ H Q I h;refine wpAny_Call_Name_kw (gX I hg hm ?_ hdb);refine PySem.W.callWith_K (h₀:=X.base) I.ok.mod.kin hk (thn (ha pos pins s σ H _ I h) fun us s1 ⟨vs,H1,I1,r,q⟩=>⟨I1.kIn,?_⟩) he hpl;exact wx F hr hb hd hx I1 r q
theorem uO{pl:Sem Bool}(he:PE X o ta)(c:Cls X.K C)(hm:Ca X.K C m f)(F:jY X.prog X.w X.K X.mg X.base CX k f fd ps sp)(hr:dX k X.A)(hb:gv X.K fd ps ds)(hd:bz dvs ds)(hx:ko CX X E)
  (ht:eval (.Call (.Attribute o m apos) [] [] pos) X.env=(do
   let ov <- eval o X.env
   standAt apos.atName
   let (f,first) <- holding [ov] (getMethod ov m pl)
   callWith pos f first (backTo pos (starEach [] X.env)) (backToKw pos (keywordEach [] X.env))):=by rfl) :
  PE X (.Call (.Attribute o m apos) [] [] pos) (xD C m sp dvs E ta dN):=by
 intro pins s σ H Q I h;refine PySem.W.methodCall_KW (pl:=pl) (thn (he pins s σ H _ I h) fun u s1 ⟨x,H1,I1,rx,a,dx,fs,ex,ea,l,q⟩=>?_) ht;subst ex;obtain rfl:u=Value.ref a:=rx;refine ql I1 ea c hm l ?_;exact PySem.W.callWith_K0 (first:=[.ref a]) I1.kIn hm.kp (wx (us:=[.ref a]) (vs:=[.ref a]) F hr hb hd hx I1 (.cons rfl .nil) q)
structure Mk (K:PySem.W.Frag) (C f:Addr):Prop where
 makes:PySem.W.makesIn K C=true
 init:PySem.W.findIn K (.ref C) "__init__"=some (some (.ref f))
 fn:PySem.W.isFn K (.ref f)=true
 kp:PySem.W.keepIn K (.ref C)=true
theorem uP{pins:List (Addr×Obj)}{σ:St}{H:Hp}{s:Shared}{Q:VK}{us:List Value}{vs:List V}(M:Mk X.K C f)(F:jY X.prog X.w X.K X.mg X.base CX k f fd ps sp)(hr:dX (k+1) X.A)(hb:gv X.K fd ps ds)(hd:bz dvs ds)
  (hx:ko CX X E) (I:Inv X pins σ H s) (r:bz vs us)
  (h:∀x dx,H x=none->H dx=none->dx≠x->sp (.ref x::(vs++dvs)) (upd (upd H dx (.own x)) x (.ins C dx [])) (fun v H2=>v=.non/\Q (.ref x) H2) E) :
  wpAny (model X.prog X.w) X.A (call (.ref C) us) (EP X pins σ Q) X.xe s:=by
 have hq:=h (s.heap.objs.size+1) s.heap.objs.size (I.hok.fresh (le_succ _)) (I.hok.fresh (Nat.le_refl _)) (ne_of_lt (lt_succ_self _));have I2:=Inv.made (C:=C) I;have r2:bz (V.ref (s.heap.objs.size+1)::(vs++dvs)) (Value.ref (s.heap.objs.size+1)::(us++ds)):=.cons rfl (r.append hd)
 have hl:(Value.ref (s.heap.objs.size+1)::us++ds).length=ps.length:=by
  have e:=r2.length;rw [F.len _ _ _ _ hq] at e;exact e.symm
 refine wpAny_call (uM (f:=f) I.kIn M.makes M.init (beq_iff_eq.mp M.fn) (codeAny_mono (F.run _ X.stack _ _ ⟨Value.ref (s.heap.objs.size+1)::us,[]⟩ (Value.ref (s.heap.objs.size+1)::(us++ds)) _ _ E (hr.make C us [])
  (I2.env0.make C us []) (hb _ (Value.ref (s.heap.objs.size+1)::us) I2.kIn hl) r2 hq) fun r s' hq'=>?_))
 cases r with
 | error e=>exact hx pins σ _ _ e s' I2 hq'
 | ok fl =>
  cases fl with
  | ret u =>
   obtain⟨v,H',I3,rv,ev,q3⟩:=I2.after hq';subst ev;exact⟨rv,⟨V.ref (s.heap.objs.size+1),H',I3,rfl,q3⟩⟩
  | next=>exact False.elim hq'
  | brk=>exact False.elim hq'
  | cont=>exact False.elim hq'
theorem xE(M:Mk X.K C f)(F:jY X.prog X.w X.K X.mg X.base CX k f fd ps sp)(hr:dX (k+1) X.A)(hg:Gl X x)(hm:X.mg x=some (.ref C))(hb:gv X.K fd ps ds)(hd:bz dvs ds)(hx:ko CX X E)
  (ha:PA X (e::es) t) (hdb:(x == ("__debug__":Str))=false:=by decide) (he:starEach (e::es) X.env=(false,eval e X.env)::starEach es X.env:=by rfl) (hpl:(backTo pos (starEach es X.env)).any (·.1)=false:=by rfl) :
  PE X (.Call (.Name x p) (e::es) [] pos) (uN C sp dvs E t):=by
 intro pins s σ H Q I h;refine wpAny_Call_Name_kw (gX I hg hm ?_ hdb);refine PySem.W.callWith_K (h₀:=X.base) I.ok.mod.kin M.kp (thn (ha pos pins s σ H _ I h) fun us s1 ⟨vs,H1,I1,r,q⟩=>⟨I1.kIn,?_⟩) he hpl;exact uP M F hr hb hd hx I1 r q
end
structure aJ (N P:List Str) (sc:Scope):Prop where
 kind:sc.kind=.function
 co:sc.isCoroutine=false
 gen:sc.isGenerator=false
 nd:N.Nodup
 pre:N.take P.length=P
 par:∀x∈P,sc.names.lookup x=some .local\/sc.names.lookup x=some .cell
 nofree:∀y∈sc.names,y.2≠.free
theorem lQ{kindOf:Str->Option NameKind}{x:Str}:∀{binds:List (Str×Value)}{m:Str->Option Value},(∀v,(x,v)∉binds)->bindL kindOf binds m x=m x
 | [],_,_=>rfl
 | (n,v)::r,m,h=>by
  unfold bindL;rw [lQ fun w hw=>h w (mem_cons_of_mem _ hw)]
  split
  .have:x≠n:=by rintro rfl;exact h v mem_cons_self
   simp [this]
  .rfl
theorem lR{kindOf:Str->Option NameKind}{x:Str}:∀{binds:List (Str×Value)}{m:Str->Option Value},(∀v,(x,v)∉binds)->bindC kindOf binds m x=m x
 | [],_,_=>rfl
 | (n,v)::r,m,h=>by
  unfold bindC;rw [lR fun w hw=>h w (mem_cons_of_mem _ hw)]
  split
  .rfl
  .have:x≠n:=by rintro rfl;exact h v mem_cons_self
   simp [this]
theorem lS{kindOf:Str->Option NameKind}{x:Str}{v:Value}:∀{P:List Str}{vs:List Value}{i:Nat}{m:Str->Option Value},P.Nodup->P[i]?=some x->vs[i]?=some v->kindOf x=some .local ->
  bindL kindOf (P.zip vs) m x=some v
 | [],_,_,_,_,h,_,_=>by simp at h
 | _::_,[],_,_,_,_,h,_=>by simp at h
 | p::P,w::vs,0,m,nd,h1,h2,hk=>by
  simp at h1 h2;subst h1;subst h2;show bindL kindOf ((p,w)::P.zip vs) m p=_;unfold bindL;rw [lQ fun v hv=>(nodup_cons.mp nd).1 (of_mem_zip hv).1,if_pos hk];simp
 | p::P,w::vs,i+1,m,nd,h1,h2,hk=>by
  show bindL kindOf ((p,w)::P.zip vs) m x=_;unfold bindL;exact lS (i:=i) (nodup_cons.mp nd).2 (by simpa using h1) (by simpa using h2) hk
theorem lT{kindOf:Str->Option NameKind}{x:Str}{v:Value}:∀{P:List Str}{vs:List Value}{i:Nat}{m:Str->Option Value},P.Nodup->P[i]?=some x->vs[i]?=some v->kindOf x≠some .local ->
  bindC kindOf (P.zip vs) m x=some v
 | [],_,_,_,_,h,_,_=>by simp at h
 | _::_,[],_,_,_,_,h,_=>by simp at h
 | p::P,w::vs,0,m,nd,h1,h2,hk=>by
  simp at h1 h2;subst h1;subst h2;show bindC kindOf ((p,w)::P.zip vs) m p=_;unfold bindC;rw [lR fun v hv=>(nodup_cons.mp nd).1 (of_mem_zip hv).1,if_neg hk];simp
 | p::P,w::vs,i+1,m,nd,h1,h2,hk=>by
  show bindC kindOf ((p,w)::P.zip vs) m x=_;unfold bindC;exact lT (i:=i) (nodup_cons.mp nd).2 (by simpa using h1) (by simpa using h2) hk
def start(N:List Str)(vs:List V):St:=vs.map some++List.replicate (N.length - vs.length) none
def nF(CX:CXT)(P:Program)(w:World)(K:PySem.W.Frag)(mg:Str->Option Value)(base:Heap)(N:List Str)(qual:Str)(scope:Scope)(f:Addr)(cd:Value)(A:Around)(outer:List Env)(s:Shared)(H:Hp)(E:XK):Cx where
 prog:=P
 w:=w
 K:=K
 mg:=mg
 base:=base
 A:=A.deeper (envOfC qual scope s.heap.objs.size f cd)
 N:=N
 s₀:=s
 H₀:=H
 env:=envOfC qual scope s.heap.objs.size f cd
 outer:=outer
 stack:=envOfC qual scope s.heap.objs.size f cd::outer
 ex:=[]
 calm:=true
 fn:=fun _=>true
 pn:=[]
 xe:=fun e s'=>wpAny (model P w) (A.deeper (envOfC qual scope s.heap.objs.size f cd)) (leaving (envOfC qual scope s.heap.objs.size f cd) e) (fun _ s''=>CX outer H s E e s'') (fun e' s''=>CX outer H s E e' s'') s'
theorem o8{sc:Scope}{n:Nat}{x:Str}(h:sc.names.lookup x=some .cell):∃c,(cellsFrom n sc.names []).lookup x=some c:=by
 have q:=PySem.W.cellsFrom_some sc.names n [] (.inl h);exact Option.isSome_iff_exists.mp q
theorem rZ{CX:CXT}{P:Program}{w:World}{K:PySem.W.Frag}{mg:Str->Option Value}{base:Heap}{N ps:List Str}{qual:Str}{scope:Scope}{f:Addr}{cd:Value}{A:Around}{outer:List Env}{s s1:Shared}{H:Hp}{E:XK}{us:List Value}{vs:List V}
  (S:aJ N ps scope) (hd:A.handled=none) (e0:xC P w K mg base A outer s H) (hl:vs.length=ps.length) (r:bz vs us)
  (x:InCallC s s.heap.objs.size (bindL (envOfC qual scope s.heap.objs.size f cd).kindOf (ps.zip us) fun _=>none) (cellsFrom (s.heap.objs.size+1) scope.names []) (bindC (envOfC qual scope s.heap.objs.size f cd).kindOf (ps.zip us) fun _=>none) s1) :
  Inv (nF CX P w K mg base N qual scope f cd A outer s H E) [] (start N vs) H s1:=by
 have hpl:ps.length<=N.length:=by have:=congrArg List.length S.pre;rw [length_take] at this;omega
 obtain⟨h1,tk,rfl,hk⟩:=x.done;have noA:∀b:Addr,b∉(nF CX P w K mg base N qual scope f cd A outer s H E).ex:=fun b z=>absurd (show b∈([]:List Addr) from z) (by simp)
 refine⟨⟨e0.mod,S.kind,rfl,rfl,Nat.le_refl _,fun y z c h1 h2=>?_,fun y hy=>?_,fun y c _ h=>?_,fun _=>hd,Around.frames_deeper e0.frames,.inr ⟨rfl,rfl⟩,fun b z=>absurd z (noA b),e0.bs,e0.bsz,fun b _ _=>noA b,fun b z=>absurd z (noA b),e0.funs,e0.frf⟩,
  rfl,e0.bare,Un.kept hk,⟨_,x.toInCall.ns,fun i y v h1 h2 h3=>?_⟩,fun y c h=>⟨_,x.cell y c h⟩,e0.hok.fresh (Nat.le_refl _),fun y c h=>?_,fun p hp=>absurd (show p∈([]:List (Addr×Obj)) from hp) (by simp),e0.hok.kept hk,?_⟩
 .exact name_of_addr x.apart (PySem.mem_of_lookup h1) (PySem.mem_of_lookup h2)
 .have hy:scope.names.lookup y=some .cell\/scope.names.lookup y=some .free:=hy
  rcases hy with hy|hy
  .exact o8 hy
  .exact absurd rfl (S.nofree _ (PySem.mem_of_lookup hy))
 .exact le_of_lt (x.above y c (PySem.mem_of_lookup h))
 .have hi:i<vs.length:=by
   unfold start at h2
   by_cases hi:i<vs.length
   .exact hi
   .rw [getElem?_append_right (by simpa using hi)] at h2;rw [getElem?_replicate] at h2;split at h2 <;> cases h2
  have ha:vs[i]?=some v:=by
   unfold start at h2;rw [getElem?_append_left (by simpa using hi),getElem?_map] at h2
   cases e:vs[i]? with
   | none=>rw [e] at h2;cases h2
   | some a=>rw [e] at h2;cases h2;rfl
  obtain⟨u,hu,rv⟩:=r.get ha
  have hp:ps[i]?=some y:=by
   rw [<- S.pre,getElem?_take_of_lt (by omega)];exact h1
  have ndP:ps.Nodup:=by rw [<- S.pre];exact S.nd.sublist (take_sublist _ _)
  refine⟨u,rv,?_⟩
  rcases S.par y (mem_of_getElem? hp) with k|k
  .exact .inl ⟨k,lS ndP hp hu k⟩
  .obtain⟨c,e⟩:=o8 (n:=s.heap.objs.size+1) k;refine .inr ⟨.inl k,c,e,?_⟩;have q:=x.cell y c e;rw [lT ndP hp hu (by show scope.names.lookup y≠_;rw [k];decide)] at q;exact q
 .exact e0.hok.fresh (le_of_lt (x.above y c (PySem.mem_of_lookup h)))
 .unfold start;show _=N.length;rw [length_append,length_map,length_replicate];omega
theorem xF{CX:CXT}{P:Program}{w:World}{K:PySem.W.Frag}{mg:Str->Option Value}{base:Heap}{k:Nat}{f:Addr}{name qual:Str}{params:Arguments}{body:List Stmt}{scope:Scope}{dV kV doc pm cdv ct oc:Value}{an od:Option Addr}
  {osl:Array (Option Value)}{N ps:List Str}{sp:Sp} (lk:K.lookup f=some ⟨oc,od,.func (PySem.W.fnOf name qual params body scope dV kV doc pm an cdv ct),osl⟩) (hcd:PySem.W.codeIn K cdv qual=true) (S:aJ N ps scope)
  (len:∀vs H Q E,sp vs H Q E->vs.length=ps.length)
  (hbody:∀(A:Around) (outer:List Env) (s:Shared) (H:Hp) (vs:List V) (Q:VK) (E:XK),dX k (A.deeper (envOfC qual scope s.heap.objs.size f cdv))->sp vs H Q E ->
   ∃t,PSs (nF CX P w K mg base N qual scope f cdv A outer s H E) body t/\t { nx:=fun _ H'=>Q .non H',rt:=Q } (start N vs) H) :
  jY P w K mg base CX (k+1) f (PySem.W.fnOf name qual params body scope dV kV doc pm an cdv ct) ps sp:=by
 refine⟨len,fun A outer s H args us vs Q E hr e0 hb r hsp=>?_⟩;have hl:=len _ _ _ _ hsp;have KX:K.In s.heap:=e0.mod.kin.keeps fun b o e=>(e0.bs b o e).1;have lim:s.heap.NoLimit:=e0.mod.nolimit.keeps fun b o e=>(e0.bs b o e).1
 have hkind:∀y∈ps.zip us,scope.names.lookup y.1=some .local\/(scope.names.lookup y.1=some .cell/\((cellsFrom (s.heap.objs.size+1) scope.names []).lookup y.1).isSome=true):=fun ⟨n,v⟩ hy=>by
  rcases S.par n (of_mem_zip hy).1 with q|q
  .exact .inl q
  .exact .inr ⟨q,PySem.W.cellsFrom_some _ _ _ (.inl q)⟩
 refine codeAny_call_function hr.depth (KX _ _ lk) rfl S.co S.gen rfl (PySem.W.codeRec_of KX hcd) (hb _ _ _ _ ?_);refine wpAny_newFunctionEnv_cells S.kind hkind fun env he s1 x=>?_;subst he;refine⟨lim.keeps x.toInCall.keep,codeAny_func ?_⟩;obtain⟨t,ht,hq⟩:=hbody A outer s H vs Q E (hr.deeper _) hsp;have I:Inv (nF CX P w K mg base N qual scope f cdv A outer s H E) [] (start N vs) H s1:=rZ S hr.hd e0 hl r x
 refine wpAny_mono (ht [] s1 (start N vs) H _ I hq) (fun fl s' hs=>?_) fun e s' hs=>hs
 have fin:∀{σ':St}{H':Hp}{v:V}{u:Value},Inv (nF CX P w K mg base N qual scope f cdv A outer s H E) [] σ' H' s'->cJ v u->Q v H'->CE outer P w H s Q u s' :=
  fun {σ' H' v u} J rv q=>⟨v,H',J.os,J.bare,J.base,J.hok,rv,q⟩
 cases fl with
 | ret u =>
  obtain⟨v,σ',H',J,rv,q⟩:=hs;exact fin J rv q
 | next =>
  obtain⟨σ',H',J,q⟩:=hs;exact fin (v:=V.non) (u:=Value.none) J rfl q
 | brk =>
  obtain⟨_,_,_,q⟩:=hs;exact False.elim q
 | cont =>
  obtain⟨_,_,_,q⟩:=hs;exact False.elim q
section
variable {X:Cx}{x:Str}{p pos:Pos}{e:Expr}{es:List Expr}{t:TA}{id T:String}{r:List V->Hp->VK->Prop}
def tCB(r:List V->Hp->VK->Prop)(t:TA):TE:=fun σ H Q=>t σ H fun vs H1=>r vs H1 Q
theorem uQ(hc:bP X (.builtin id) r)(hg:Gl X x)(hm:X.mg x=none)(hv:bootBuiltins x=some (.builtin id))(ha:PA X (e::es) t)(hn:x≠"__name__":=by decide)(hdb:(x == ("__debug__":Str))=false:=by decide)
  (he:starEach (e::es) X.env=(false,eval e X.env)::starEach es X.env:=by rfl) (hpl:(backTo pos (starEach es X.env)).any (·.1)=false:=by rfl):PE X (.Call (.Name x p) (e::es) [] pos) (tCB r t):=by
 intro pins s σ H Q I h;refine wpAny_Call_Name_kw (fO I hg hm hv ?_ hn hdb);exact PyProof.Rows.callWith_builtin1 (thn (ha pos pins s σ H _ I h) fun us s1 ⟨vs,H1,I1,r1,q1⟩=>hc pins s1 σ H1 vs us Q I1 r1 q1) he hpl
theorem r0(hc:bP X (.type T) r)(hg:Gl X x)(hm:X.mg x=none)(hv:bootBuiltins x=some (.type T))(ha:PA X (e::es) t)(hn:x≠"__name__":=by decide)(hdb:(x == ("__debug__":Str))=false:=by decide)
  (he:starEach (e::es) X.env=(false,eval e X.env)::starEach es X.env:=by rfl) (hpl:(backTo pos (starEach es X.env)).any (·.1)=false:=by rfl):PE X (.Call (.Name x p) (e::es) [] pos) (tCB r t):=by
 intro pins s σ H Q I h;refine wpAny_Call_Name_kw (fO I hg hm hv ?_ hn hdb);exact PyProof.Rows.callWith_type1 (thn (ha pos pins s σ H _ I h) fun us s1 ⟨vs,H1,I1,r1,q1⟩=>hc pins s1 σ H1 vs us Q I1 r1 q1) he hpl
end
end L2
namespace HT
open PySem PyProof.Rows
section
open PySem.SeqAt
open PySem.AutoSeq1 (wpAny_loadPart')
open PySem.MeetsSeq PySem.MeetsSeq2 PySem.MeetsSeq3
end
section
variable {prog:Program}{w:World}{A:Around}{E:Value->Shared->Prop}{s:Shared}
theorem cat_tup{t b:Addr}{vs ws:List Value}{Q:Value->Shared->Prop}(ht:IsTup s.heap t vs.toArray)(hb:IsTup s.heap b ws.toArray)(hv:vs≠[])
  (h1:ws=[]->Q (.ref t) s) (h2:ws≠[]->Q (.ref s.heap.objs.size) { s with heap:=s.heap.push { cls:=.type "tuple",data:=.seq (vs++ws).toArray } })
  (hsz:vs.length+ws.length<=sizeLine):wpAny (model prog w) A (binaryOp .Add (.ref t) (.ref b)) Q E s:=by
 obtain⟨⟨cls,dd,data,sl⟩,ho,hc,n,hd⟩:=id ht;obtain⟨⟨cls2,dd2,data2,sl2⟩,ho2,hc2,n2,hd2⟩:=id hb;simp only at hc hd hc2 hd2;subst hc hd hc2 hd2;have e:vs.toArray++ws.toArray=(vs++ws).toArray:=by simp
 by_cases hw:ws=[]
 .exact concat_meets ⟨_,ho,rfl⟩ ⟨_,ho2,rfl⟩ noFill_tuple_add seq_tuple_add PySem.F.slot_tuple_add PySem.F.entry_tuple_add (PySem.F.args_tuple_add_2 _ _)
   (tuple_addW1 t b vs.toArray ws.toArray n n2 dd dd2 sl sl2 (by simpa using hv) (by simp [hw])) ⟨ho,ho2,h1 hw⟩
 .refine concat_meets ⟨_,ho,rfl⟩ ⟨_,ho2,rfl⟩ noFill_tuple_add seq_tuple_add PySem.F.slot_tuple_add PySem.F.entry_tuple_add (PySem.F.args_tuple_add_2 _ _)
   (tuple_addW2 t b vs.toArray ws.toArray n n2 dd dd2 sl sl2 (by simpa using hv) (by simpa using hw) (by rw [size_toArray,size_toArray];exact hsz)) ⟨ho,ho2,?_⟩
  rw [e];exact h2 hw
def sIx(n d:Nat):Option Int->Nat
 | none=>d
 | some v=>if v<0 then (v+(n:Int)).toNat else min v.toNat n
theorem sIx_nat(n d k:Nat):sIx n d (some (k:Int))=min k n:=by
 show (if (k:Int)<0 then ((k:Int)+(n:Int)).toNat else min (k:Int).toNat n)=min k n;rw [if_neg (by omega),toNat_natCast]
theorem sIx_le(n d:Nat)(hd:d<=n)(o:Option Int):sIx n d o<=n:=by
 cases o with
 | none=>exact hd
 | some v =>
  show (if v<0 then (v+(n:Int)).toNat else min v.toNat n)<=n
  by_cases hv:v<0
  .rw [if_pos hv];omega
  .rw [if_neg hv];exact min_le_right _ _
theorem clip_eq(v:Int)(n d:Nat):(if v<0 then max (v+(n:Int)) 0 else min v (n:Int))=((sIx n d (some v):Nat):Int):=by
 show (if v<0 then max (v+(n:Int)) 0 else min v (n:Int))=(((if v<0 then (v+(n:Int)).toNat else min v.toNat n):Nat):Int)
 by_cases hv:v<0
 .simp only [if_pos hv];omega
 .simp only [if_neg hv];omega
theorem qq(lo hi:Option Int)(n:Nat):Builtin.Slice.sliceAdjust lo hi 1 (n:Int)=(((sIx n 0 lo:Nat):Int),((sIx n n hi:Nat):Int)):=by
 have h1:¬ ((1:Int)<0):=by omega
 unfold Builtin.Slice.sliceAdjust;simp only [h1,if_false]
 refine Prod.ext ?_ ?_
 .cases lo with
  | none=>rfl
  | some v=>exact clip_eq v n 0
 .cases hi with
  | none=>rfl
  | some v=>exact clip_eq v n n
theorem qs(i j:Nat):Builtin.Slice.slicePlaces (i:Int) (j:Int) 1=j - i:=by
 unfold Builtin.Slice.slicePlaces;have h1:(1:Int) > 0:=by omega
 simp only [h1,if_true,ediv_one];split <;> omega
theorem kq{v:Value}{o:Option Int}{Q:Option Int->Shared->Prop}(p:IsPart v o)(h:Q o s):wpAny (model prog w) A (Builtin.Slice.slicePartIndex v) Q E s:=by
 cases p with
 | none=>exact slicePart_none h
 | int i t=>exact slicePart_int h
theorem eN{sl:Addr}{vl vu:Value}{lo hi:Option Int}{n:Nat}{Q:Int×Int×Nat->Shared->Prop}(hs:s.heap.IsSliceOf sl vl vu .none)(pl:IsPart vl lo)(pu:IsPart vu hi)
  (h:Q (((sIx n 0 lo:Nat):Int),1,sIx n n hi - sIx n 0 lo) s):wpAny (model prog w) A (Builtin.Slice.sliceApplied (.ref sl) (pure (n:Int))) Q E s:=by
 obtain⟨os,hos,hcs,hds⟩:=id hs;unfold Builtin.Slice.sliceApplied Builtin.Slice.sliceFields;refine wpAny_bind (wpAny_bind (wpAny_field hos hds (x:=vl) rfl (wpAny_bind (wpAny_field hos hds (x:=vu) rfl (wpAny_bind (wpAny_field hos hds (x:=.none) rfl (wpAny_pure ?_)))))));refine wpAny_bind (slicePart_none ?_);show wpAny _ _ (if ((1:Int) == 0)=true then _ else _) _ _ s;rw [if_neg (by decide)];refine wpAny_bind (kq pl (wpAny_bind (kq pu (wpAny_bind (wpAny_pure ?_)))))
 show wpAny _ _ (match Builtin.Slice.sliceAdjust lo hi 1 (n:Int) with|(lo,hi)=>pure (lo,(1:Int),Builtin.Slice.slicePlaces lo hi 1)) _ _ s;rw [qq lo hi n];show wpAny _ _ (pure (((sIx n 0 lo:Nat):Int),(1:Int),Builtin.Slice.slicePlaces ((sIx n 0 lo:Nat):Int) ((sIx n n hi:Nat):Int) 1)) _ _ s;rw [qs];exact wpAny_pure h
theorem uR(xs:Array Value)(i k:Nat):((List.range k).filterMap fun (m:Nat)=>xs[((i:Int)+(m:Int)*1).toNat]?).toArray=((xs.toList.drop i).take k).toArray:=by
 have e:(fun (m:Nat)=>xs[((i:Int)+(m:Int)*1).toNat]?)=fun m=>xs[i+m]?:=by
  funext m;have:((i:Int)+(m:Int)*1).toNat=i+m:=by omega
  rw [this]
 rw [e];have:=pick_run xs i k;rw [filterMap_map] at this;have e2:((fun x=>xs[x]?) ∘ fun x=>i+x)=fun m=>xs[i+m]?:=rfl;rw [e2] at this;rw [this]
theorem getItem_tuple_cut{t sl:Addr}{items:Array Value}{vl vu:Value}{lo hi:Option Int}{Q:Value->Shared->Prop}(ht:IsTup s.heap t items)(hs:s.heap.IsSliceOf sl vl vu .none)(pl:IsPart vl lo)(pu:IsPart vu hi)
  (hw:¬ (sIx items.size 0 lo=0/\sIx items.size items.size hi=items.size))
  (h:Q (.ref s.heap.objs.size) { s with heap:=s.heap.push { cls:=.type "tuple",data:=.seq ((items.toList.drop (sIx items.size 0 lo)).take (sIx items.size items.size hi - sIx items.size 0 lo)).toArray } })
  (hsz:items.size<=sizeLine):wpAny (model prog w) A (getItem (.ref t) (.ref sl)) Q E s:=by
 have htake:sizeOk (.seq ((items.toList.drop (sIx items.size 0 lo)).take (sIx items.size items.size hi - sIx items.size 0 lo)).toArray):=by
  show ((items.toList.drop (sIx items.size 0 lo)).take (sIx items.size items.size hi - sIx items.size 0 lo)).toArray.size<=sizeLine;rw [size_toArray,length_take,length_drop,Array.length_toList];omega
 have hj:sIx items.size items.size hi<=items.size:=sIx_le _ _ (Nat.le_refl _) hi;obtain⟨os,hos,hcs,hds⟩:=id hs;have hTs:s.TypeIs (.ref sl) "slice":=⟨os,hos,hcs⟩
 unfold getItem
 try with_reducible refine wpAny_holding ?_
 first|refine wpAny_bind (wpAny_pure ?_)|skip
 refine wpAny_bind (wpAny_sequenceKey ht.typeIs (by decide) ?_)
 refine wpAny_bind (wpAny_callSpecial?_slot (name:=Str.ofString "__getitem__") ht.typeIs PyProof.Rows.slot_tuple_getitem
  (wpAny_call_entry PyProof.Rows.slot_tuple_getitem ht.typeIs entry_tuple_getitem ?_ (args_tuple_getitem _ _)))
 show wpAny _ _ (Builtin.Tuple.tupleItemsOf (.ref t) >>= _) _ _ s;refine wpAny_bind (tupleItemsOf_ ht ?_);refine wpAny_bind (wpAny_typeOf hTs ?_);rw [if_pos (by decide)];refine wpAny_bind (eN hs pl pu ?_)
 have hno:¬ ((((sIx items.size 0 lo:Nat):Int) == 0 && (1:Int) == 1 && (sIx items.size items.size hi - sIx items.size 0 lo) == items.size)=true):=by
  intro q;rw [and_eq_true,and_eq_true] at q;have q1:((sIx items.size 0 lo:Nat):Int)=0:=eq_of_beq q.1.1;have q2:sIx items.size items.size hi - sIx items.size 0 lo=items.size:=eq_of_beq q.2;exact hw ⟨by omega,by omega⟩
 show wpAny _ _ (if (((sIx items.size 0 lo:Nat):Int) == 0 && (1:Int) == 1 && (sIx items.size items.size hi - sIx items.size 0 lo) == items.size)=true then _ else _) _ _ s;rw [if_neg hno,uR]
 first
  | exact wpAny_bind (m:=Builtin.Tuple.tupleExact _) (wpAny_newObj_type (wpAny_pure ⟨_,rfl,wpAny_pure h⟩) htake)
  | exact wpAny_bind (m:=Builtin.Tuple.tupleExact _) (wpAny_newObj_type (wpAny_bind (wpAny_pure (wpAny_pure ⟨_,rfl,wpAny_pure h⟩))) htake)
  | exact wpAny_bind (wpAny_bind (m:=Builtin.Tuple.tupleExact _) (wpAny_newObj_type (wpAny_pure (wpAny_pure ⟨_,rfl,wpAny_pure h⟩)) htake))
  | exact wpAny_bind (wpAny_bind (m:=Builtin.Tuple.tupleExact _) (wpAny_newObj_type (wpAny_pure ⟨_,rfl,wpAny_pure h⟩) htake))
end
end HT
namespace L2
open PySem PySem.Spec PyProof.Rows
abbrev TO:=St->Hp->(Option Int->Hp->Prop)->Prop
def PO(X:Cx)(e:Option Expr)(t:TO):Prop :=
 ∀(pins:List (Addr×Obj)) (s:Shared) (σ:St) (H:Hp) (Q:Option Int->Hp->Prop),Inv X pins σ H s->t σ H Q ->
  wpAny (model X.prog X.w) X.A (evalPart e X.env) (fun u s'=>∃o H',Inv X pins σ H' s'/\IsPart u o/\Q o H') X.xe s
def r8:TO:=fun _ H Q=>Q none H
def Am(t:TE):TO:=fun σ H Q=>t σ H fun x H1=>∃i,x=.int i/\Q (some i) H1
theorem fA{ns:List Int}:∀{us:List Value},bz (ns.map V.int) us->IntsAre us ns:=by
 induction ns with
 | nil=>intro us r;rw [map_nil] at r;cases r;exact .nil
 | cons n ns ih =>
  intro us r;rw [map_cons] at r
  cases r with
  | cons r1 r2 =>
   obtain⟨t,e⟩:=r1;subst e;exact .cons n t (ih r2)
section
variable {X:Cx}{e:Expr}{te:TE}{lo hi:Option Expr}{tl th:TO}{pos p2:Pos}
theorem e5:PO X none r8:=by
 intro pins s σ H Q I h;rw [evalPart_none];exact wpAny_pure ⟨none,H,I,.none,h⟩
theorem dJ(h:PE X e te):PO X (some e) (Am te):=by
 intro pins s σ H Q I hw;rw [evalPart_some];refine thn (h pins s σ H _ I hw) fun u s1 ⟨x,H1,I1,r1,q1⟩=>?_;obtain⟨i,rfl,q⟩:=q1;obtain⟨t,rfl⟩:=r1;exact⟨some i,H1,I1,.int i t,q⟩
def SlR(X:Cx)(r:V->Option Int->Option Int->Hp->VK->Prop):Prop :=
 ∀(pins:List (Addr×Obj)) (s:Shared) (σ:St) (H:Hp) (x:V) (v vl vu:Value) (lo hi:Option Int) (sl:Addr) (Q:VK),Inv X pins σ H s->cJ x v->s.heap.IsSliceOf sl vl vu .none->IsPart vl lo->IsPart vu hi->r x lo hi H Q ->
  ∃T id,typeLookup (.type T) "__getitem__"=pure (some (.builtin id))/\s.TypeIs v T/\wpAny (model X.prog X.w) X.A (getItem v (.ref sl)) (EP X pins σ Q) X.xe s
theorem SlR.or{r r':V->Option Int->Option Int->Hp->VK->Prop}(h:SlR X r)(h':SlR X r'):SlR X (fun x lo hi H Q=>r x lo hi H Q\/r' x lo hi H Q):=by
 intro pins s σ H x v vl vu lo hi sl Q I rx hs pl pu q
 rcases q with q|q
 .exact h pins s σ H x v vl vu lo hi sl Q I rx hs pl pu q
 .exact h' pins s σ H x v vl vu lo hi sl Q I rx hs pl pu q
def tSl(r:V->Option Int->Option Int->Hp->VK->Prop)(te:TE)(tl th:TO):TE:=fun σ H Q=>te σ H fun x H1=>tl σ H1 fun l H2=>th σ H2 fun u H3=>r x l u H3 Q
theorem cY{r:V->Option Int->Option Int->Hp->VK->Prop}(hr:SlR X r)(he:PE X e te)(hl:PO X lo tl)(hu:PO X hi th):PE X (.Subscript e (.Slice lo hi none p2) pos) (tSl r te tl th):=by
 intro pins s σ H Q I h;refine Subscript_ (thn (he pins s σ H _ I h) fun v s1 ⟨x,H1,I1,r1,q1⟩=>?_);refine wpAny_Slice (thn (hl pins s1 σ H1 _ I1 q1) fun vl s2 ⟨l,H2,I2,pl,q2⟩=>thn (hu pins s2 σ H2 _ I2 q2) fun vu s3 ⟨u,H3,I3,pu,q3⟩=>?_);rw [evalPart_none];refine wpAny_pure ?_;have I4:Inv X pins σ H3 { s3 with heap:=s3.heap.push { cls:=.type "slice",data:=.fields #[vl,vu,.none] } }:=I3.kept (t':=s3.toks) fun b ob q=>Heap.get?_push_of_some _ q
 obtain⟨T,id,hT,ht,hg⟩:=hr pins { s3 with heap:=s3.heap.push { cls:=.type "slice",data:=.fields #[vl,vu,.none] } } σ H3 x v vl vu l u s3.heap.objs.size Q I4 r1 (Heap.IsSliceOf.new ..) pl pu q3;show wpAny (model X.prog X.w) X.A (subscriptTail e (.Slice lo hi none p2) v (.ref s3.heap.objs.size)) (EP X pins σ Q) X.xe { s3 with heap:=s3.heap.push { cls:=.type "slice",data:=.fields #[vl,vu,.none] } };exact tail_any (ops:=[.ref s3.heap.objs.size,v]) ht hT hg (by with_unfolding_all rfl)
def xG(xs:List V)(lo hi:Option Int):List V:=(xs.drop (HT.sIx xs.length 0 lo)).take (HT.sIx xs.length xs.length hi - HT.sIx xs.length 0 lo)
theorem jh(xs:List V)(lo hi:Option Int):(xG xs lo hi).length<=xs.length:=by
 unfold xG;rw [length_take,length_drop];omega
def DP(K:PySem.W.Frag):V->Option Int->Option Int->Hp->VK->Prop:=fun x lo hi H Q=>∃a xs,x=.ref a/\SqT K H a xs /\
 ¬ (HT.sIx xs.length 0 lo=0/\HT.sIx xs.length xs.length hi=xs.length)/\∀p,H p=none->Q (.ref p) (upd H p (.tup (xG xs lo hi)))
theorem An:SlR X (DP X.K):=by
 intro pins s σ H x v vl vu lo hi sl Q I rx hs pl pu h;obtain⟨a,xs,rfl,hx,hw,q⟩:=h;cases rx;obtain⟨its,r,ht,hz⟩:=I.tuple hx;have hlen:its.toArray.size=xs.length:=by rw [size_toArray];exact r.length.symm
 refine⟨"tuple",_,PyProof.Rows.slot_tuple_getitem.lookup,ht.typeIs,?_⟩;refine HT.getItem_tuple_cut ht hs pl pu (by rw [hlen];exact hw) ?_ (by rw [hlen];exact hz);rw [hlen];refine⟨.ref s.heap.objs.size,_,I.laid (t':=s.toks) (o:=.tup (xG xs lo hi)) (fun b ob q=>Heap.get?_push_of_some _ q) (Nat.le_refl _) ?_,rfl,q _ (I.hok.fresh (Nat.le_refl _))⟩;exact⟨Nat.le_trans (jh xs lo hi) hz,_,(r.drop (HT.sIx xs.length 0 lo)).take (HT.sIx xs.length xs.length hi - HT.sIx xs.length 0 lo),IsTup.new _ _⟩
def Ao(K:PySem.W.Frag):R2:=fun x y H Q=>∃a b xs ys,x=.ref a/\y=.ref b/\SqT K H a xs/\SqT K H b ys/\xs≠[]/\xs.length+ys.length<=sizeLine /\
 (ys=[]->Q (.ref a) H)/\(ys≠[]->∀p,H p=none->Q (.ref p) (upd H p (.tup (xs++ys))))
theorem bz.nil_iff{xs:List V}{us:List Value}(r:bz xs us):us=[] ↔ xs=[]:=by
 cases r with
 | nil=>simp
 | cons _ _=>simp
theorem xH:OpR X (binaryOp .Add) (Ao X.K):=by
 intro pins s σ H x y v u Q I rx ry h;obtain⟨a,b,xs,ys,rfl,rfl,ha,hb,hx,hz,q1,q2⟩:=h;cases rx;cases ry;obtain⟨its,r1,p1,_⟩:=I.tuple ha;obtain⟨its2,r2,p2,_⟩:=I.tuple hb;refine HT.cat_tup p1 p2 (fun z=>hx (r1.nil_iff.mp z)) (fun z=>⟨.ref a,H,I,rfl,q1 (r2.nil_iff.mp z)⟩) (fun z=>?_) (by rw [<- r1.length,<- r2.length];exact hz);refine⟨.ref s.heap.objs.size,_,I.laid (t':=s.toks) (o:=.tup (xs++ys)) (fun b ob q=>Heap.get?_push_of_some _ q) (Nat.le_refl _) ?_,rfl,q2 (fun w=>z (r2.nil_iff.mpr w)) _ (I.hok.fresh (Nat.le_refl _))⟩
 exact⟨by rw [length_append];exact hz,_,r1.append r2,IsTup.new _ _⟩
end
def ixN(n:Nat)(i:Int):Option Nat:=if 0<=i then (if i<n then some i.toNat else none) else if -(n:Int)<=i then some (i+n).toNat else none
def atI{α:Type}(xs:List α)(i:Int):Option α:=(ixN xs.length i).bind fun j=>xs[j]?
theorem nG{n:Nat}{i:Int}{j:Nat}(h:ixN n i=some j):seqIndex? i n=some j/\j<n/\-(n:Int)<=i/\i<n:=by
 unfold ixN at h
 by_cases h0:0<=i
 .rw [if_pos h0] at h
  by_cases h1:i<n
  .rw [if_pos h1] at h;have e:i.toNat=j:=Option.some.inj h;exact⟨by rw [seqIndex_of h0 h1,e],by omega,by omega,h1⟩
  .rw [if_neg h1] at h;cases h
 .rw [if_neg h0] at h
  by_cases h1:-(n:Int)<=i
  .rw [if_pos h1] at h;have e:(i+n).toNat=j:=Option.some.inj h;exact⟨by rw [seqIndex_neg (by omega) h1,e],by omega,h1,by omega⟩
  .rw [if_neg h1] at h;cases h
theorem nH{α:Type}{xs:List α}{i:Int}{v:α}(h:atI xs i=some v):∃j,seqIndex? i xs.length=some j/\xs[j]?=some v/\j<xs.length/\-(xs.length:Int)<=i/\i<xs.length:=by
 unfold atI at h
 cases e:ixN xs.length i with
 | none=>rw [e] at h;cases h
 | some j =>
  rw [e] at h;obtain⟨h1,h2,h3,h4⟩:=nG e;exact⟨j,h1,h,h2,h3,h4⟩
theorem xI{α:Type}{xs:List α}{j:Nat}{v:α}(h:xs[j]?=some v):atI xs (j:Int)=some v:=by
 have hj:j<xs.length:=(List.getElem?_eq_some_iff.mp h).1
 have e:ixN xs.length (j:Int)=some j:=by
  unfold ixN;rw [if_pos (by omega),if_pos (by omega)];simp
 unfold atI;rw [e];exact h
def xJ(b:Expr):Prop:=∀o i,subscripted b false o i=operate [o,i] (getItem o i)
def IxR(X:Cx)(r:R2):Prop :=
 ∀(value slice:Expr) (pins:List (Addr×Obj)) (s:Shared) (σ:St) (H:Hp) (x y:V) (v u:Value) (Q:VK),Inv X pins σ H s->cJ x v->cJ y u->r x y H Q ->
  subscripted slice false v u=operate [v,u] (getItem v u)->wpAny (model X.prog X.w) X.A (subscriptTail value slice v u) (EP X pins σ Q) X.xe s
def MtR(X:Cx)(id:String)(r:V->List V->Hp->VK->Prop):Prop :=
 ∀(pins:List (Addr×Obj)) (s:Shared) (σ:St) (H:Hp) (x:V) (xs:List V) (v:Value) (us:List Value) (Q:VK),Inv X pins σ H s->cJ x v->bz xs us->r x xs H Q ->
  wpAny (model X.prog X.w) X.A (call (.builtin id) (v::us)) (EP X pins σ Q) X.xe s
section
variable {X:Cx}{a b:Expr}{ta tb:TE}{pos:Pos}
theorem IxR.or{r r':R2}(h:IxR X r)(h':IxR X r'):IxR X (fun x y H Q=>r x y H Q\/r' x y H Q):=by
 intro value slice pins s σ H x y v u Q I rx ry q hs
 rcases q with q|q
 .exact h value slice pins s σ H x y v u Q I rx ry q hs
 .exact h' value slice pins s σ H x y v u Q I rx ry q hs
theorem cz{r:R2}(hr:IxR X r)(ha:PE X a ta)(hb:PE X b tb)(hs:xJ b):PE X (.Subscript a b pos) (tOp r ta tb):=by
 intro pins s σ H Q I h;exact Subscript_ (Cq ha hb I h fun v u s2 x y H2 I2 rx ry q=>hr a b pins s2 σ H2 x y v u Q I2 rx ry q (hs _ _))
def DQ(K:PySem.W.Frag):R2:=fun x y H Q=>∃p xs i v,x=.ref p/\y=.int i/\SqL K H p xs/\atI xs i=some v/\Q v H
def DR(K:PySem.W.Frag):R2:=fun x y H Q=>∃p xs i v,x=.ref p/\y=.int i/\SqT K H p xs/\atI xs i=some v/\Q v H
def Eh:R2:=fun x y H Q=>∃z i c,x=.str z/\y=.int i/\z.length<=sizeLine/\atI z.cps.toList i=some c/\Q (.str ⟨#[c]⟩) H
theorem xK:IxR X (DQ X.K):=by
 intro value slice pins s σ H x y v u Q I rx ry h hs;obtain⟨p,xs,i,z,rfl,rfl,hq,he,q⟩:=h;cases rx;obtain⟨t,rfl⟩:=ry;obtain⟨its,r,pl,hz⟩:=I.list hq;obtain⟨j,h1,h2,h3,h4,h5⟩:=nH he;obtain⟨w,ew,rw'⟩:=r.get h2;have hl:=r.length;have hn:=kl;have fin:EP X pins σ Q w s:=⟨z,H,I,rw',q⟩
 by_cases h0:0<=i
 .have hj:i.toNat=j:=by
   rw [seqIndex_of h0 h5] at h1;exact Option.some.inj h1
  exact item_listR pl.isList h0 (by omega) (by rw [hj];simpa using ew) fin hs
 .have hj:(i+(its.toArray.size:Int)).toNat=j:=by
   rw [seqIndex_neg (by omega) h4] at h1;rw [size_toArray,<- hl];exact Option.some.inj h1
  exact subscriptTail_builtinR (x:=w) pl.isList.typeIs slot_list_getitem.lookup
   (wpAny_getItem_list_neg (Q:=fun r s'=>r=w/\EP X pins σ Q r s') pl.isList (by omega) (by rw [size_toArray] <;> omega) (by omega) (by rw [hj];simpa using ew) ⟨rfl,fin⟩) hs
theorem Ap:IxR X (DR X.K):=by
 intro value slice pins s σ H x y v u Q I rx ry h hs;obtain⟨p,xs,i,z,rfl,rfl,hq,he,q⟩:=h;cases rx;obtain⟨t,rfl⟩:=ry;obtain⟨its,r,pl,hz⟩:=I.tuple hq;obtain⟨j,h1,h2,h3,h4,h5⟩:=nH he;obtain⟨w,ew,rw'⟩:=r.get h2;have hl:=r.length;have hn:=kl;have fin:EP X pins σ Q w s:=⟨z,H,I,rw',q⟩
 exact subscriptTail_builtinR (x:=w) pl.typeIs slot_tuple_getitem.lookup
  (getItem_tuple (j:=j) (Q:=fun r s'=>r=w/\EP X pins σ Q r s') pl (by omega) (by omega) (by rw [size_toArray,<- hl];exact h1) (by simpa using ew) ⟨rfl,fin⟩) hs
theorem Aq:IxR X Eh:=by
 intro value slice pins s σ H x y v u Q I rx ry h hs;obtain⟨z,i,c,rfl,rfl,hz,he,q⟩:=h;obtain⟨t,rfl⟩:=rx;obtain⟨t',rfl⟩:=ry;obtain⟨j,h1,h2,h3,h4,h5⟩:=nH he;have hl:z.cps.toList.length=z.length:=by simp [Str.length]
 rw [hl] at h1 h4 h5;have hn:=kl
 exact tail_any (typeIs_str s z t) slot_str_getitem.lookup (getItem_str (c:=c) (by
  have e1:decide (i < -(2^63:Int))=false:=decide_eq_false (by omega);have e2:decide (i >= 2^63)=false:=decide_eq_false (by omega);rw [e1,e2,Bool.or_false]) (by rw [h1];simpa using h2) ⟨.str ⟨#[c]⟩,H,I.tok _,⟨_,rfl⟩,q⟩) hs
theorem qt(its:List Value)(n j:Nat)(u:Value):Obj.mapSeq (·.setIfInBounds j u) { cls:=.type "list",data:=.seq its.toArray n }={ cls:=.type "list",data:=.seq (its.set j u).toArray n }:=by
 simp [Obj.mapSeq]
theorem Inv.lst{pins:List (Addr×Obj)}{σ:St}{H:Hp}{s:Shared}{p:Addr}{xs:List V}(I:Inv X pins σ H s)(h:H p=some (.lst xs)) :
  ∃(its:List Value) (n:Nat),bz xs its/\s.heap.get? p=some { cls:=.type "list",data:=.seq its.toArray n }/\xs.length<=sizeLine:=by
 obtain⟨z,its,n,r,e⟩:=I.hok p _ h;exact⟨its,n,r,e,z⟩
theorem Inv.lstUpd{pins:List (Addr×Obj)}{σ:St}{H:Hp}{s:Shared}{p:Addr}{xs ys:List V}{its its':List Value}{n n':Nat}{f:Obj->Obj}(I:Inv X pins σ H s)(h:H p=some (.lst xs))
  (ho:s.heap.get? p=some { cls:=.type "list",data:=.seq its.toArray n }) (hf:f { cls:=.type "list",data:=.seq its.toArray n }={ cls:=.type "list",data:=.seq its'.toArray n' }) (r:bz ys its') (hz:ys.length<=sizeLine) (t:Nat) :
  Inv X pins σ (upd H p (.lst ys)) { s with heap:=s.heap.update p f,toks:=t }:=by
 have e:(s.heap.update p f).get? p=some { cls:=.type "list",data:=.seq its'.toArray n' }:=by
  rw [Heap.get?_update_self f ho (by rw [hf] <;> rfl),hf]
 refine I.write (x:=p) (e:=p) (by rw [h];trivial) (.inl rfl) (fun b u hb q=>(Heap.get?_update_other _ _ (Ne.symm hb)).trans q) ⟨_,e⟩ ?_;exact⟨hz,its',n',r,e⟩
def xL:V->V->V->Hp->(Hp->Prop)->Prop:=fun o i v H Q=>∃p xs k j,o=.ref p/\i=.int k/\H p=some (.lst xs)/\ixN xs.length k=some j/\Q (upd H p (.lst (xs.set j v)))
theorem o9:DL X xL:=by
 intro pins s σ H o i v ov iv u Q I ro ri rv h;obtain⟨p,xs,k,j,rfl,rfl,hp,hj,q⟩:=h;cases ro;obtain⟨t,rfl⟩:=ri;obtain⟨its,n,r,ho,hz⟩:=I.lst hp;obtain⟨h1,h2,h3,h4⟩:=nG hj;have hl:=r.length;have hn:=kl
 have I':Inv X pins σ (upd H p (.lst (xs.set j v))) { s with heap:=s.heap.update p (Obj.mapSeq (·.setIfInBounds j u)) } :=
  I.lstUpd hp ho (qt its n j u) (r.set rv j) (by rw [length_set];exact hz) s.toks
 by_cases h0:0<=k
 .have hk:k.toNat=j:=by
   rw [seqIndex_of h0 h4] at h1;exact Option.some.inj h1
  exact PySem.W.ki_setAt ho h0 (by omega) (by rw [size_toArray,<- hl];exact h4) (by rw [hk];exact⟨_,I',q⟩)
 .have hk:(k+(its.toArray.size:Int)).toNat=j:=by
   rw [seqIndex_neg (by omega) h3] at h1;rw [size_toArray,<- hl];exact Option.some.inj h1
  exact PySem.W.ki_setBack ho (by omega) (by rw [size_toArray,<- hl];exact h3) (by omega) (by rw [hk];exact⟨_,I',q⟩)
theorem lU(lo hi:Option Int)(n:Nat):(sliceBounds lo hi none n).1=((HT.sIx n 0 lo:Nat):Int)/\(sliceBounds lo hi none n).2.1=((HT.sIx n n hi:Nat):Int)/\(sliceBounds lo hi none n).2.2=1:=by
 refine⟨?_,?_,rfl⟩
 .cases lo with
  | none=>simp [sliceBounds,HT.sIx]
  | some i =>
   simp only [sliceBounds,HT.sIx,Option.getD_none,show (1:Int) > 0 by decide,if_true]
   by_cases h:i<0
   .simp only [h,if_true] <;> omega
   .simp only [h,if_false] <;> omega
 .cases hi with
  | none=>simp [sliceBounds,HT.sIx]
  | some i =>
   simp only [sliceBounds,HT.sIx,Option.getD_none,show (1:Int) > 0 by decide,if_true]
   by_cases h:i<0
   .simp only [h,if_true] <;> omega
   .simp only [h,if_false] <;> omega
theorem kX(its:List Value)(lo hi:Option Int):slicePick its.toArray lo hi none=((its.drop (HT.sIx its.length 0 lo)).take (HT.sIx its.length its.length hi - HT.sIx its.length 0 lo)).toArray:=by
 obtain⟨h1,h2,h3⟩:=lU lo hi its.toArray.size;unfold slicePick;rw [h1,h2,h3];simp only [sliceRange_one,pick_run,size_toArray] <;> rfl
def DS(K:PySem.W.Frag):V->Option Int->Option Int->Hp->VK->Prop:=fun x lo hi H Q=>∃a xs,x=.ref a/\SqL K H a xs/\∀p,H p=none->Q (.ref p) (upd H p (.lst (xG xs lo hi)))
theorem xM:SlR X (DS X.K):=by
 intro pins s σ H x v vl vu lo hi sl Q I rx hs pl pu h;obtain⟨a,xs,rfl,hx,q⟩:=h;cases rx;obtain⟨its,r,ht,hz⟩:=I.list hx;have hlen:=r.length;refine⟨"list",_,slot_list_getitem.lookup,ht.isList.typeIs,?_⟩;refine wpAny_getItem_list_slice ht.isList hs pl pu .none (by simp) ?_ (by rw [size_toArray] <;> omega);rw [kX,<- hlen];refine⟨.ref s.heap.objs.size,_,I.laid (t':=s.toks) (o:=.lst (xG xs lo hi)) (fun b ob q=>Heap.get?_push_of_some _ q) (Nat.le_refl _) ?_,rfl,q _ (I.hok.fresh (Nat.le_refl _))⟩
 exact⟨Nat.le_trans (jh xs lo hi) hz,_,0,(r.drop (HT.sIx xs.length 0 lo)).take (HT.sIx xs.length xs.length hi - HT.sIx xs.length 0 lo),Heap.get?_push_size _ rfl⟩
def jZ:V->Bool
 | .non=>true
 | .bl _=>true
 | .int _=>true
 | .str _=>true
 | _=>false
def eqV:V->V->Bool
 | .non,.non=>true
 | .bl a,.bl b=>a == b
 | .bl a,.int b=>(if a then 1 else 0) == b
 | .int a,.bl b=>a == (if b then 1 else 0)
 | .int a,.int b=>a == b
 | .str a,.str b=>a == b
 | _,_=>false
theorem Ar{A:Around}{s:Shared}{y x:V}{u v:Value}(ry:cJ y u)(rx:cJ x v)(fy:jZ y=true)(fx:jZ x=true):SeqAt.EqAt A s u v (eqV y x):=by
 cases y with
 | non =>
  cases ry
  cases x with
  | non=>cases rx;exact SeqAt.EqAt.same _
  | bl b=>cases rx;exact SeqAt.EqAt.none_bool b
  | int b=>obtain⟨t,rfl⟩:=rx;exact SeqAt.EqAt.none_int b t
  | str b=>obtain⟨t,rfl⟩:=rx;exact SeqAt.EqAt.none_str b t
  | _=>exact absurd (show false=true from fx) Bool.false_ne_true
 | bl a =>
  cases ry
  cases x with
  | non=>cases rx;exact SeqAt.EqAt.bool_none a
  | bl b=>cases rx;exact SeqAt.EqAt.bool_bool a b
  | int b=>obtain⟨t,rfl⟩:=rx;exact SeqAt.EqAt.bool_int a b t
  | str b=>obtain⟨t,rfl⟩:=rx;exact SeqAt.EqAt.bool_str a b t
  | _=>exact absurd (show false=true from fx) Bool.false_ne_true
 | int a =>
  obtain⟨t',rfl⟩:=ry
  cases x with
  | non=>cases rx;exact SeqAt.EqAt.int_none a t'
  | bl b=>cases rx;exact SeqAt.EqAt.int_bool a t' b
  | int b=>obtain⟨t,rfl⟩:=rx;exact SeqAt.EqAt.int_int a t' b t
  | str b=>obtain⟨t,rfl⟩:=rx;exact SeqAt.EqAt.int_str a t' b t
  | _=>exact absurd (show false=true from fx) Bool.false_ne_true
 | str a =>
  obtain⟨t',rfl⟩:=ry
  cases x with
  | non=>cases rx;exact SeqAt.EqAt.str_none a t'
  | bl b=>cases rx;exact SeqAt.EqAt.str_bool a t' b
  | int b=>obtain⟨t,rfl⟩:=rx;exact SeqAt.EqAt.str_int a t' b t
  | str b=>obtain⟨t,rfl⟩:=rx;exact SeqAt.EqAt.str_str a t' b t
  | _=>exact absurd (show false=true from fx) Bool.false_ne_true
 | _=>exact absurd (show false=true from fy) Bool.false_ne_true
def eqU(x:V)(u:Value):Bool:=match u with
 | .none=>eqV .non x
 | .bool b=>eqV (.bl b) x
 | .int i _=>eqV (.int i) x
 | .str z _=>eqV (.str z) x
 | _=>false
theorem wy{x y:V}{u:Value}(r:cJ y u)(f:jZ y=true):eqU x u=eqV y x:=by
 cases y with
 | non=>cases r;rfl
 | bl b=>cases r;rfl
 | int i=>obtain⟨t,rfl⟩:=r;rfl
 | str z=>obtain⟨t,rfl⟩:=r;rfl
 | _=>exact absurd (show false=true from f) Bool.false_ne_true
theorem ji{x:V}:∀{xs:List V}{us:List Value},bz xs us->xs.all jZ=true->us.any (eqU x)=xs.any fun y=>eqV y x
 | _,_,.nil,_=>rfl
 | y::xs,u::us,.cons r t,f=>by
  rw [all_cons,and_eq_true] at f;rw [any_cons,any_cons,wy r f.1,ji t f.2]
theorem gw{A:Around}{s:Shared}{x:V}{v:Value}(rx:cJ x v)(fx:jZ x=true):∀{xs:List V}{us:List Value},bz xs us->xs.all jZ=true->∀u∈us,SeqAt.EqAt A s u v (eqU x u)
 | _,_,.nil,_=>fun u hu=>by cases hu
 | y::xs,u::us,.cons r t,f=>fun u' hu=>by
  rw [all_cons,and_eq_true] at f
  rcases mem_cons.mp hu with rfl|hu
  .rw [wy r f.1];exact Ar r rx f.1 fx
  .exact gw rx fx t f.2 u' hu
def inV(x:V)(xs:List V):Bool:=xs.any fun y=>eqV y x
def rIn(K:PySem.W.Frag)(neg:Bool):R2:=fun x y H Q=>∃p xs,y=.ref p/\(SqL K H p xs\/SqT K H p xs)/\jZ x=true/\xs.all jZ=true/\Q (.bl (if neg then !inV x xs else inV x xs)) H
theorem r9:OpR X (compareOp .In) (rIn X.K false):=by
 intro pins s σ H x y v u Q I rx ry h;obtain⟨p,xs,rfl,hq,fx,fs,q⟩:=h;cases ry
 rcases hq with hq|hq
 .obtain⟨its,r,pl,hz⟩:=I.list hq;refine SeqAt.in_listAt (eqU x) pl.isList (fun w hw=>gw rx fx r fs w (by simpa using hw)) ⟨.bl _,H,I,rfl,?_⟩;rw [show its.toArray.any (eqU x)=its.any (eqU x) by simp,ji r fs];exact q
 .obtain⟨its,r,pl,hz⟩:=I.tuple hq;refine SeqAt.in_tupleAt (eqU x) pl (fun w hw=>gw rx fx r fs w (by simpa using hw)) ⟨.bl _,H,I,rfl,?_⟩;rw [show its.toArray.any (eqU x)=its.any (eqU x) by simp,ji r fs];exact q
theorem lV:OpR X (compareOp .NotIn) (rIn X.K true):=by
 intro pins s σ H x y v u Q I rx ry h;obtain⟨p,xs,rfl,hq,fx,fs,q⟩:=h;cases ry
 rcases hq with hq|hq
 .obtain⟨its,r,pl,hz⟩:=I.list hq;refine SeqAt.notIn_listAt (eqU x) pl.isList (fun w hw=>gw rx fx r fs w (by simpa using hw)) ⟨.bl _,H,I,rfl,?_⟩;rw [show its.toArray.any (eqU x)=its.any (eqU x) by simp,ji r fs];exact q
 .obtain⟨its,r,pl,hz⟩:=I.tuple hq;refine SeqAt.notIn_tupleAt (eqU x) pl (fun w hw=>gw rx fx r fs w (by simpa using hw)) ⟨.bl _,H,I,rfl,?_⟩;rw [show its.toArray.any (eqU x)=its.any (eqU x) by simp,ji r fs];exact q
theorem iz:bP X (.builtin "len") (fun xs H Q=>∃p ys,xs=[.ref p]/\(SqL X.K H p ys\/SqT X.K H p ys)/\Q (.int ys.length) H):=by
 intro pins s σ H xs us Q I r h;obtain⟨p,ys,rfl,hq,q⟩:=h;obtain⟨u,rfl,rx⟩:=gu r;cases rx;have hn:=kl
 rcases hq with hq|hq
 .obtain⟨its,r',pl,hz⟩:=I.list hq;have hlen:=r'.length;exact Calls.call_len_list pl.isList (by simp only [size_toArray] <;> omega) ⟨.int ys.length,H,I.tok _,⟨s.toks+1,by rw [size_toArray,hlen]⟩,q⟩
 .obtain⟨its,r',pl,hz⟩:=I.tuple hq;have hlen:=r'.length;exact len_tuple pl (by simp only [size_toArray] <;> omega) ⟨.int ys.length,H,I.tok _,⟨s.toks+1,by rw [size_toArray,hlen]⟩,q⟩
theorem lW:bP X (.builtin "len") (fun xs H Q=>∃z,xs=[.str z]/\z.length<=sizeLine/\Q (.int z.length) H):=by
 intro pins s σ H xs us Q I r h;obtain⟨z,rfl,hz,q⟩:=h;obtain⟨u,rfl,t,rfl⟩:=gu r;have hn:=kl;exact len_str (by omega) ⟨.int z.length,H,I.tok _,⟨_,rfl⟩,q⟩
theorem bP.or{f:Value}{r r':List V->Hp->VK->Prop}(h:bP X f r)(h':bP X f r'):bP X f (fun xs H Q=>r xs H Q\/r' xs H Q):=by
 intro pins s σ H xs us Q I rs q
 rcases q with q|q
 .exact h pins s σ H xs us Q I rs q
 .exact h' pins s σ H xs us Q I rs q
theorem lX:bP X (.type "list") (fun xs H Q=>∃p ys,xs=[.ref p]/\(SqL X.K H p ys\/SqT X.K H p ys)/\∀l,H l=none->Q (.ref l) (upd H l (.lst ys))):=by
 intro pins s σ H xs us Q I r h;obtain⟨p,ys,rfl,hq,q⟩:=h;obtain⟨u,rfl,rx⟩:=gu r;cases rx
 have fin:∀(its:List Value),bz ys its->ys.length<=sizeLine->∀(h':Heap) (c':Nat),(∀b o',s.heap.get? b=some o'->h'.get? b=some o') ->
   h'.get? s.heap.objs.size=some { cls:=.type "list",dict:=none,data:=.seq its.toArray c',slots:=#[] }->EP X pins σ Q (.ref s.heap.objs.size) { s with heap:=h' }:=fun its r' hz h' c' kp e =>
  ⟨.ref s.heap.objs.size,_,I.laid (t':=s.toks) kp (Nat.le_refl _) (show bL X.prog X.w _ h' _ (.lst ys) from ⟨hz,its,c',r',e⟩),rfl,q _ (I.hok.fresh (Nat.le_refl _))⟩
 rcases hq with hq|hq
 .obtain⟨its,r',pl,hz⟩:=I.list hq;have hlen:=r'.length;obtain⟨o,ho,hc,n,hd⟩:=pl.isList;exact call_list_seq p (.inl rfl) ho hc hd (fun h' c' kp e=>fin its r' hz h' c' kp e) (by simp only [size_toArray] <;> omega)
 .obtain⟨its,r',pl,hz⟩:=I.tuple hq;have hlen:=r'.length;obtain⟨o,ho,hc,n,hd⟩:=pl;exact call_list_seq p (.inr rfl) ho hc hd (fun h' c' kp e=>fin its r' hz h' c' kp e) (by simp only [size_toArray] <;> omega)
theorem kY:bP X (.type "tuple") (fun xs H Q=>∃p ys,xs=[.ref p]/\((SqL X.K H p ys/\∀l,H l=none->Q (.ref l) (upd H l (.tup ys)))\/(SqT X.K H p ys/\Q (.ref p) H))):=by
 intro pins s σ H xs us Q I r h;obtain⟨p,ys,rfl,h⟩:=h;obtain⟨u,rfl,rx⟩:=gu r;cases rx
 rcases h with ⟨hq,q⟩|⟨hq,q⟩
 .obtain⟨its,r',pl,hz⟩:=I.list hq;have hlen:=r'.length;refine call_tuple_list pl.isList (fun h' kp=>?_) (by simp only [size_toArray] <;> omega);have I1:Inv X pins σ H { s with heap:=h' }:=I.kept (t':=s.toks) kp
  have I2:Inv X pins σ (upd H h'.objs.size (.tup ys)) { s with heap:=h'.push { cls:=.type "tuple",data:=.seq its.toArray } } :=
   I1.laid (t':=s.toks) (fun b o e=>Heap.get?_push_of_some _ e) (Nat.le_refl _) (show bL X.prog X.w _ _ _ (.tup ys) from ⟨hz,its,r',IsTup.new _ _⟩)
  exact⟨.ref h'.objs.size,_,I2,rfl,q _ (I1.hok.fresh (Nat.le_refl _))⟩
 .obtain⟨its,r',pl,hz⟩:=I.tuple hq;exact call_tuple_same pl ⟨.ref p,H,I,rfl,q⟩
def tyV(K:PySem.W.Frag)(T:String)(x:V)(H:Hp):Prop:=match x with
 | .str _=>T="str"
 | .int _=>T="int"
 | .ref p=>(T="list"/\∃xs,SqL K H p xs)\/(T="tuple"/\∃o,K.lookup p=some o/\o.cls=.type "tuple"/\o.dict=none) \/
   (T="dict"/\((∃kvs,H p=some (.dK kvs))\/∃kvs,H p=some (.dT kvs)))\/(T="set"/\∃S n,H p=some (.set S n))
 | _=>False
theorem wz{pins:List (Addr×Obj)}{σ:St}{H:Hp}{s:Shared}{T:String}{x:V}{v:Value}(I:Inv X pins σ H s)(r:cJ x v)(ty:tyV X.K T x H) :
  s.TypeIs v T/\∀a,v=.ref a->∃ob,s.heap.get? a=some ob/\ob.dict=none:=by
 cases x with
 | str z =>
  obtain⟨t,rfl⟩:=r;cases (show T="str" from ty);exact⟨typeIs_str s z t,fun _ e=>nomatch e⟩
 | int i =>
  obtain⟨t,rfl⟩:=r;cases (show T="int" from ty);exact⟨typeIs_int s i t,fun _ e=>nomatch e⟩
 | ref p =>
  cases r
  rcases ty with ⟨rfl,xs,hq⟩|⟨rfl,o,hk,hc,hd⟩|⟨rfl,hk⟩|⟨rfl,S,n,hk⟩
  .obtain⟨its,_,pl,_⟩:=I.list hq;refine⟨pl.isList.typeIs,fun a e=>?_⟩;cases e;obtain⟨o,n,e,c,hd,_⟩:=pl;exact⟨o,e,hd⟩
  .refine⟨⟨o,I.kIn p o hk,hc⟩,fun a e=>?_⟩;cases e;exact⟨o,I.kIn _ o hk,hd⟩
  .have z:∃o,s.heap.get? p=some o/\o.ExactDict:=by
    rcases hk with ⟨kvs,hk⟩|⟨kvs,hk⟩
    .obtain⟨_,_,_,_,o,_,_,e,ex,_⟩:=I.hok p _ hk;exact⟨o,e,ex⟩
    .obtain⟨_,_,_,_,o,_,_,e,ex,_⟩:=I.hok p _ hk;exact⟨o,e,ex⟩
   obtain⟨o,e,ex⟩:=z;refine⟨⟨o,e,ex.1⟩,fun a e2=>?_⟩;cases e2;exact⟨o,e,ex.2.1⟩
  .obtain⟨o,_,_,_,e,ex,_⟩:=I.hok p _ hk;refine⟨⟨o,e,ex.1⟩,fun a e2=>?_⟩;cases e2;exact⟨o,e,ex.2.1⟩
 | _=>exact False.elim ty
def As(K:PySem.W.Frag)(T:String)(r:V->List V->Hp->VK->Prop)(to:TE):TE:=fun σ H Q=>to σ H fun x H1=>tyV K T x H1/\r x [] H1 Q
def tBM(K:PySem.W.Frag)(T:String)(r:V->List V->Hp->VK->Prop)(to:TE)(t:TA):TE:=fun σ H Q=>to σ H fun x H1=>tyV K T x H1/\t σ H1 fun xs H2=>r x xs H2 Q
variable {o e:Expr}{es:List Expr}{to:TE}{t:TA}{name:Str}{apos cpos:Pos}{T id:String}{r:V->List V->Hp->VK->Prop}
theorem wA(pa:PlainAttrs T)(slot:Slot T name id)(hty:typeOf (.builtin id)=pure (.type "method_descriptor"))(hm:MtR X id r)(ho:PE X o to)
  (hbase:attributeBase o name X.env (eval o X.env)=eval o X.env:=by rfl) (hline:(apos.endLine == cpos.line)=true:=by rfl):PE X (.Call (.Attribute o name apos) [] [] cpos) (As X.K T r to):=by
 intro pins s σ H Q I h;refine wpAny_Call_method0_late hbase hline (thn (ho pins s σ H _ I h) fun v s1 ⟨x,H1,I1,r1,ty,q1⟩=>?_);obtain⟨h1,h2⟩:=wz I1 r1 ty;exact⟨T,id,pa,slot,hty,h1,h2,Calls.callWith_builtin rfl (PySem.evalArgs_none (hm pins s1 σ H1 x [] v [] Q I1 r1 .nil q1))⟩
theorem CB(pa:PlainAttrs T)(slot:Slot T name id)(hty:typeOf (.builtin id)=pure (.type "method_descriptor"))(hm:MtR X id r)(ho:PE X o to)(ha:PA X (e::es) t)
  (hbase:attributeBase o name X.env (eval o X.env)=eval o X.env:=by rfl)
  (hfew:((backTo cpos (starEach (e::es) X.env)).all (fun x=>!x.1) && (backToKw cpos (keywordEach [] X.env)).all (fun x=>x.1.isSome)
   && decide ((e::es).length+([]:List Keyword).length+(if ([]:List Keyword).isEmpty then 0 else 1)<30))=true:=by rfl)
  (hline:(apos.endLine == cpos.line)=true:=by rfl) (hs:starEach (e::es) X.env=(false,eval e X.env)::starEach es X.env:=by rfl) (hplain:(backTo cpos (starEach es X.env)).any (·.1)=false:=by rfl) :
  PE X (.Call (.Attribute o name apos) (e::es) [] cpos) (tBM X.K T r to t):=by
 intro pins s σ H Q I h;refine wpAny_Call_method_late hbase hfew hline rfl (thn (ho pins s σ H _ I h) fun v s1 ⟨x,H1,I1,r1,ty,q1⟩=>?_);obtain⟨h1,h2⟩:=wz I1 r1 ty;refine⟨T,id,pa,slot,hty,h1,h2,?_⟩;have hA:=ha cpos pins s1 σ H1 _ I1 q1;rw [hs] at hA ⊢;refine Calls.callWith_builtin (by show (false || (backTo cpos (starEach es X.env)).any (·.1))=false;rw [hplain] <;> rfl) (Calls.evalArgs_plain ?_);exact thn hA fun us s2 ⟨vs,H2,I2,r2,q2⟩=>hm pins s2 σ H2 x vs v us Q I2 r1 r2 q2
end
def MtM(X:Cx)(id:String)(r:V->List V->Hp->VK->Prop):Prop :=
 ∀(pins:List (Addr×Obj)) (s:Shared) (σ:St) (H:Hp) (x:V) (xs:List V) (v:Value) (us:List Value) (Q:VK),Inv X pins σ H s->cJ x v->bz xs us->r x xs H Q ->
  wpAny (model X.prog X.w) X.A (call (.builtin id) (v::us)) (EP X pins σ Q) X.xe s
theorem bz.one:∀{x:V}{us:List Value},bz [x] us->∃u,us=[u]/\cJ x u
 | _,_,.cons r .nil=>⟨_,rfl,r⟩
theorem bz.zero:∀{us:List Value},bz [] us->us=[]
 | _,.nil=>rfl
theorem bz.dropLast{xs:List V}{us:List Value}(h:bz xs us):bz xs.dropLast us.dropLast:=by
 induction h with
 | nil=>exact .nil
 | cons r t ih =>
  cases t with
  | nil=>exact .nil
  | cons q t'=>exact .cons r ih
theorem bz.eraseIdx:∀{xs:List V}{us:List Value} (i:Nat),bz xs us->bz (xs.eraseIdx i) (us.eraseIdx i)
 | _,_,_,.nil=>.nil
 | _,_,0,.cons _ t=>t
 | _,_,i+1,.cons r t=>.cons r (bz.eraseIdx i t)
theorem bz.reverse{xs:List V}{us:List Value}(h:bz xs us):bz xs.reverse us.reverse:=by
 induction h with
 | nil=>exact .nil
 | cons r t ih=>rw [reverse_cons,reverse_cons];exact bz.append ih (.cons r .nil)
theorem bz.rep{xs:List V}{us:List Value}(h:bz xs us):∀k:Nat,bz (List.replicate k xs).flatten (List.replicate k us).flatten
 | 0=>.nil
 | k+1=>by
  rw [replicate_succ,replicate_succ,flatten_cons,flatten_cons];exact bz.append h (bz.rep h k)
theorem qu{α:Type}(l:List α):l.eraseIdx (l.length - 1)=l.dropLast:=by
 induction l with
 | nil=>rfl
 | cons a r ih =>
  cases r with
  | nil=>rfl
  | cons b r =>
   have e:(a::b::r).length - 1=((b::r).length - 1)+1:=by
    have h1:(a::b::r).length=r.length+2:=rfl;have h2:(b::r).length=r.length+1:=rfl;omega
   rw [e,eraseIdx_cons_succ,ih]
   all_goals rfl
theorem lY{α:Type}:∀(l:List α) (i:Nat),(l.eraseIdx i).length<=l.length
 | [],_=>Nat.le_refl _
 | _::_,0=>le_succ _
 | _::r,i+1=>succ_le_succ (lY r i)
theorem lZ(its:List Value):∀(k:Nat) (acc:List Value),
  List.foldl (fun x1 x2=>x1++x2) acc.toArray (List.replicate k its.toArray)=(acc++(List.replicate k its).flatten).toArray
 | 0,acc=>by simp
 | k+1,acc=>by
  have e:acc.toArray++its.toArray=(acc++its).toArray:=by simp
  have e2:(acc++its)++(List.replicate k its).flatten=acc++(List.replicate (k+1) its).flatten:=by
   rw [replicate_succ,flatten_cons,append_assoc]
  rw [<- e2,<- lZ its k (acc++its),<- e,replicate_succ,foldl_cons]
section
variable {X:Cx}{pins:List (Addr×Obj)}{σ:St}{H:Hp}{s:Shared}{l b:Addr}{xs ys zs:List V}
theorem Inv.lset{its its':List Value}{n:Nat}{f:Array Value->Array Value}{t':Nat}(I:Inv X pins σ H s)(hH:H l=some (.lst xs))
  (e:s.heap.get? l=some { cls:=.type "list",data:=.seq its.toArray n }) (hf:f its.toArray=its'.toArray) (hv:bz ys its') (hz:ys.length<=sizeLine) :
  Inv X pins σ (upd H l (.lst ys)) { s with heap:=s.heap.update l (Obj.mapSeq f),toks:=t' }:=by
 have q:=PySem.IsL.update e f;rw [hf] at q;refine I.write (x:=l) (e:=l) (by rw [hH];exact trivial) (.inl rfl) (fun b' u hb hu=>(Heap.get?_update_other s.heap (Obj.mapSeq f) (Ne.symm hb)).trans hu) ⟨_,q⟩ ?_;exact⟨hz,its',_,hv,q⟩
theorem Inv.lnew{its:List Value}{t':Nat}(I:Inv X pins σ H s)(hv:bz ys its)(hz:ys.length<=sizeLine) :
  Inv X pins σ (upd H s.heap.objs.size (.lst ys)) { s with heap:=s.heap.push { cls:=.type "list",data:=.seq its.toArray },toks:=t' } :=
 I.laid (fun _ _ q=>Heap.get?_push_of_some _ q) (Nat.le_refl _) ⟨hz,its,0,hv,Heap.get?_push_size _ rfl⟩
theorem Inv.fresh(I:Inv X pins σ H s):H s.heap.objs.size=none:=I.hok.fresh (Nat.le_refl _)
theorem Inv.lstM(I:Inv X pins σ H s)(hH:H l=some (.lst xs)):xs.length<=sizeLine/\∃(its:List Value) (n:Nat),bz xs its/\xs.length=its.length/\s.heap.get? l=some { cls:=.type "list",data:=.seq its.toArray n }:=by
 obtain⟨z,its,n,r,e⟩:=I.hok l _ hH;exact⟨z,its,n,r,r.length,e⟩
theorem pd{n:Nat}(h:n<=sizeLine):Builtin.List.listTooLong n=false:=by
 unfold Builtin.List.listTooLong;exact decide_eq_false (by omega)
end
section
variable {X:Cx}
def sd:V->List V->Hp->VK->Prop:=fun x vs H Q=>∃l xs y,x=.ref l/\vs=[y]/\H l=some (.lst xs)/\xs.length<sizeLine/\Q .non (upd H l (.lst (xs++[y])))
theorem cS:MtM X "list.append" sd:=by
 intro pins s σ H x vs v us Q I rx rv h;obtain⟨l,xs,y,rfl,rfl,hH,hz,q⟩:=h;cases rx;obtain⟨u,rfl,ru⟩:=rv.one;obtain⟨z,its,n,r,hl,e⟩:=I.lstM hH;refine call_meets F.slot_list_append ⟨_,e,rfl⟩ F.entry_list_append (F.args_list_append_2 _ _) (PySem.list_append l its.toArray n u (by rw [size_toArray];omega)) ⟨e,?_⟩;refine⟨.non,_,I.lset (its':=its++[u]) hH e (by simp) (r.append (.cons ru .nil)) ?_,rfl,q⟩;rw [length_append,length_singleton]
 omega
def se:V->List V->Hp->VK->Prop:=fun x vs H Q=>∃l b xs zs,x=.ref l/\vs=[.ref b]/\H l=some (.lst xs)/\H b=some (.lst zs)/\xs.length+zs.length<=sizeLine/\Q .non (upd H l (.lst (xs++zs)))
theorem sf:MtM X "list.extend" se:=by
 intro pins s σ H x vs v us Q I rx rv h;obtain⟨l,b,xs,zs,rfl,rfl,hH,hB,hz,q⟩:=h;cases rx;obtain⟨u,rfl,ru⟩:=rv.one;cases ru;obtain⟨z,its,n,r,hl,e⟩:=I.lstM hH;obtain⟨z2,its2,n2,r2,hl2,e2⟩:=I.lstM hB;have hsz:its.toArray.size+its2.toArray.size<=sizeLine:=by rw [size_toArray,size_toArray];omega
 have hlong:¬ (!its.toArray.isEmpty && Builtin.List.listTooLong (its.toArray.size+its2.toArray.size))=true:=by
  rw [pd hsz,Bool.and_false];exact Bool.false_ne_true
 refine call_meets F.slot_list_extend ⟨_,e,rfl⟩ F.entry_list_extend (F.args_list_extend_2 _ _)
  (AutoSeq1.list_extend_list_list_0 l its.toArray n b its2.toArray n2 hlong (by rw [size_toArray];omega) (by omega)) ⟨e,e2,?_⟩
 refine⟨.non,_,I.lset (its':=its++its2) hH e (by simp) (r.append r2) ?_,rfl,q⟩;rw [length_append];omega
def DT:V->List V->Hp->VK->Prop:=fun x vs H Q=>∃l xs y,x=.ref l/\vs=[]/\H l=some (.lst xs)/\xs[xs.length - 1]?=some y/\Q y (upd H l (.lst xs.dropLast))
theorem At:MtM X "list.pop" DT:=by
 intro pins s σ H x vs v us Q I rx rv h;obtain⟨l,xs,y,rfl,rfl,hH,hy,q⟩:=h;cases rx;have hus:=rv.zero;subst hus;obtain⟨z,its,n,r,hl,e⟩:=I.lstM hH;obtain⟨u,hu,ru⟩:=r.get hy
 have hy':its.toArray[its.toArray.size - 1]?=some u:=by
  show its.toArray[its.length - 1]?=some u;rw [<- Array.getElem?_toList,<- hl];exact hu
 refine call_meets F.slot_list_pop ⟨_,e,rfl⟩ F.entry_list_pop (F.args_list_pop_1 _) (MeetsSeq.list_pop_last l its.toArray n u hy' (by rw [size_toArray];omega)) ⟨e,?_⟩
 refine⟨y,_,I.lset (its':=its.dropLast) hH e ?_ r.dropLast ?_,ru,q⟩
 .show its.toArray.eraseIdxIfInBounds (its.toArray.size - 1)=its.dropLast.toArray;rw [size_toArray,eraseIdxIfInBounds_toArray,qu]
 .rw [length_dropLast];omega
def wB:V->List V->Hp->VK->Prop:=fun x vs H Q=>∃l xs i k y,x=.ref l/\vs=[.int i]/\H l=some (.lst xs)/\-(2^63)<=i/\i<2^63/\seqIndex? i xs.length=some k/\xs[k]?=some y/\Q y (upd H l (.lst (xs.eraseIdx k)))
theorem uS:MtM X "list.pop" wB:=by
 intro pins s σ H x vs v us Q I rx rv h;obtain⟨l,xs,i,k,y,rfl,rfl,hH,h1,h2,hk,hy,q⟩:=h;cases rx;obtain⟨u,rfl,ru⟩:=rv.one;obtain⟨t,rfl⟩:=ru;obtain⟨z,its,n,r,hl,e⟩:=I.lstM hH;obtain⟨w,hw,rw'⟩:=r.get hy
 refine call_meets F.slot_list_pop ⟨_,e,rfl⟩ F.entry_list_pop (F.args_list_pop_2 _ _)
  (MeetsSeq.list_pop_at l its.toArray n i t k w (fitsIndex_both h1 h2) (by rw [size_toArray,<- hl];exact hk) (by rw [<- Array.getElem?_toList];exact hw) (by rw [size_toArray];omega)) ⟨e,?_⟩
 refine⟨y,_,I.lset (its':=its.eraseIdx k) hH e ?_ (r.eraseIdx k) ?_,rw',q⟩
 .show its.toArray.eraseIdxIfInBounds k=(its.eraseIdx k).toArray;rw [eraseIdxIfInBounds_toArray]
 .have:=lY xs k;omega
def DU:R2:=fun x y H Q=>∃l k xs,x=.ref l/\y=.int k/\H l=some (.lst xs)/\-(2^63)<=k/\k<2^63/\xs.length*k.toNat<=sizeLine /\
 ∀p,H p=none->Q (.ref p) (upd H p (.lst (List.replicate k.toNat xs).flatten))
theorem xN{α:Type}(xs:List α)(k:Nat):(List.replicate k xs).flatten.length=k*xs.length:=by
 induction k with
 | zero=>simp
 | succ k ih=>rw [replicate_succ,flatten_cons,length_append,ih,succ_mul,add_comm]
theorem Au:OpR X (binaryOp .Mult) DU:=by
 intro pins s σ H x y v u Q I rx ry h;obtain⟨l,k,xs,rfl,rfl,hH,h1,h2,hz,q⟩:=h;cases rx;obtain⟨t,rfl⟩:=ry;obtain⟨z,its,n,r,hl,e⟩:=I.lstM hH;have hlen:its.toArray.size*k.toNat<=sizeLine:=by rw [size_toArray,<- hl];exact hz
 have hcap:¬ its.toArray.size*k.toNat > (2^63 - 1) / 8:=by
  have:(sizeLine:Nat)<=(2^63 - 1) / 8:=by decide
  omega
 have hfit:¬ (!Builtin.List.listFitsIndex k)=true:=by
  rw [fitsIndex_both h1 h2];exact Bool.false_ne_true
 have hlong:¬ Builtin.List.listTooLong (its.toArray.size*k.toNat)=true:=by
  rw [pd hlen];exact Bool.false_ne_true
 have hnew:List.foldl (fun x1 x2=>x1++x2) #[] (List.replicate (if its.toArray.isEmpty=true then 0 else k.toNat) its.toArray)=(List.replicate k.toNat its).flatten.toArray:=by
  have f0:∀m:Nat,List.foldl (fun x1 x2=>x1++x2) #[] (List.replicate m its.toArray)=(List.replicate m its).flatten.toArray:=fun m=>by
   have:=lZ its m [];rw [nil_append] at this;exact this
  rw [f0]
  cases its with
  | nil=>simp
  | cons a r'=>rw [if_neg (by simp)]
 refine wpAny_binaryOp_repeat_ref (T:="list") (U:="int") (by decide) ⟨_,e,rfl⟩ (fun s'=>typeIs_int s' k t) noFill_list_mul F.fills_int_mul F.slot_int_rmul repeat_list F.slot_int_index.lookup
  (call_meets F.slot_int_rmul (typeIs_int s k t) F.entry_int_rmul (F.args_int_rmul_2 _ _) (int___rmul___int_list k t l its.toArray n)
   ⟨e,rfl,⟨_,e,rfl⟩,call_meets F.slot_list_mul ⟨_,e,rfl⟩ F.entry_list_mul (F.args_list_mul_2 _ _) (AutoListH.list___mul___list_int_3 l its.toArray n k t hfit hcap hlong) ⟨e,?_⟩⟩)
 rw [hnew];exact⟨.ref _,_,I.lnew (t':=s.toks) (r.rep k.toNat) (by rw [xN,mul_comm];exact hz),rfl,q _ I.fresh⟩
end
end L2
namespace Att
open PySem PySem.W PySem.Calls PyProof.Rows
theorem jj{P:Params}{h:Heap}:∀(ns:List Int) (vs:List Value),WellAll P h vs (ns.map WData.int)->IntsAre vs ns:=by
 intro ns
 induction ns with
 | nil =>
  intro vs w;rw [map_nil] at w;cases w;exact .nil
 | cons n ns ih =>
  intro vs w;rw [map_cons] at w
  cases w with
  | cons a b =>
   cases a;exact .cons _ _ (ih _ b)
theorem sg{l:OpenLaw}{n:Nat}(hn:l.most=some n){P:Params}{h:Heap}{args:List WData}{vals:List Value}
  (hpre:l.row.toRowW.claim.pre args=true) (hwl:WellAll P h vals args) :
  ∃a vs ns,vals=[Value.ref a]/\args=[WData.list (ns.map WData.int)]/\h.get? a=some { cls:=.type "list",data:=.seq vs.toArray }/\IntsAre vs ns/\ns.length<=n:=by
 have hsh:WShape.hasAll [] args [.list .int]=true:=(pre_splitW hpre).1;have hc:l.pre.holds [] { args:=args }=true:=(pre_splitW hpre).2;obtain⟨d,r,rfl,h1,h2⟩:=hasAllW_cons hsh;obtain rfl:=hasAllW_nil h2;obtain⟨xs,rfl,h3⟩:=hasW_list h1;obtain⟨ns,rfl⟩:=items_int h3
 have hlen:ns.length<=n:=by
  unfold OpenLaw.pre at hc
  have h4:(WTm.not (.lt (.lit (.int (n:Int))) (.len (.arg 0)))).holds [] { args:=[.list (ns.map .int)] }=true:=by
   have h4:=(holds_andW hc).1;rw [hn] at h4;exact h4
  have h5:=condW_of h4 (w_not (w_lt w_lit (w_len_list (w_arg rfl))));rw [length_map] at h5;refine le_of_not_lt fun q=>?_;have q':(n:Int)<((ns.length:Nat):Int):=by omega
  first
   | (rw [decide_eq_true q'] at h5;exact absurd h5 (by decide))
   | (simp at h5;omega)
 cases hwl with
 | cons w1 w2 =>
  cases w2
  cases w1 with
  | list ho hall=>exact⟨_,_,ns,rfl,rfl,ho,jj ns _ hall,hlen⟩
theorem si(l:OpenLaw)(args:List WData):l.row.toRowW.claim.post args (.bool true) args=true :=
 postW_of (r:=l.row.toRowW) (X:=(true == true))
  (show WShape.has [] (.bool true) .bool=true by first|rfl|decide|simp [WShape.has,WShape.arms,WShape.armsAll])
  (show (WTm.eq .res (.lit (.bool true))).value [] { args:=args,res:=some (.bool true),after:=args }=some (.bool (true == true)) from w_eq_bool (w_res rfl) w_lit) rfl
theorem attach_call{l:OpenLaw}{n:Nat}{q:Program}{loose:List Str}{XP:(Str->Option Value)->Heap->Prop}{YP:World->Heap->Prop}{d:DefRec}
  (hn:l.most=some n) (hdf:d.params.defaults=[])
  (call:∀(w:World) (s₀ s₁:Shared) (mg mb:Str->Option Value) (fa:Addr) (o:Obj) (pm cd doc:Value) (a:Addr) (vs:List Value) (ns:List Int),
   Ground q loose [] XP w s₀ mg mb s₁.heap->YP w s₁.heap ->
   s₁.heap.get? fa=some o->o.data=.func (docDef d.name d.params d.body d.scope pm cd doc)->s₁.heap.CodeRec cd d.name->mg d.name=some (.ref fa) ->
   s₁.heap.get? a=some { cls:=.type "list",data:=.seq vs.toArray }->IntsAre vs ns->ns.length<=n->s₁.gens=#[] ->
   codeAny (model l.prog w) callerA (.call (.ref fa) ⟨[.ref a],[]⟩) (fun r s'=>r=.ok (.ret (.bool true))/\OldK s₁.heap s'.heap/\s'.os=s₁.os/\AllBare s'.gens) s₁) :
  WalkO q loose XP YP l.row.toRowW d [] (fun f vs=>PySem.call f vs):=by
 intro w s₀ s₁ mg mb G Y fa o pm cd doc dV kV ho hd hcd hD hmg hg args vals as hpre hlay hrd hwl hlo;obtain rfl:dV=.none:=Dflts.none hD hdf;obtain rfl:kV=.none:=Dflts.noKw hD;obtain⟨a,vs,ns,rfl,rfl,hobj,hints,hlen⟩:=sg hn hpre hwl;refine enter_call (codeAny_mono (call w s₀ s₁ mg mb fa o pm cd doc a vs ns G Y ho (fd_plain hd) hcd hmg hobj hints hlen hg) fun r s' hq=>?_);obtain⟨rfl,h2,h3,h4⟩:=hq;exact⟨.inl ⟨.bool true,.bool true,[],rfl,fun _=>rfl,.bool true,si l _,fun _=>⟨List.Pairwise.nil,fun _ hm=>(nomatch hm)⟩⟩,h2,h3,h4⟩
end Att
namespace L2
open PySem PySem.Spec PyProof.Rows
theorem l4:∀{vs:List Value}{ns:List Int},IntsAre vs ns->bz (ns.map V.int) vs
 | _,_,.nil=>.nil
 | _,_,.cons n t h=>.cons ⟨t,rfl⟩ (l4 h)
def CC(H:Hp):Prop:=∀b,H b=none\/∃o xs,H b=some (.frz o (.lst xs))
theorem uT{P:Program}{w:World}{K:PySem.W.Frag}{mg mb:Str->Option Value}{CX:CXT}{k:Nat}{fa a:Addr}{fd:FuncData}{x:Str}{sp:Sp}{s₁:Shared}{vs:List Value}{ns:List Int}
  (KX:K.In s₁.heap) (hns:s₁.heap.Ns mainGlobals mg) (hb:s₁.heap.Ns builtinsNs mb) (hbb:∀x:Str,x≠"__name__"->mb x=bootBuiltins x) (hlim:s₁.heap.NoLimit) (hg:s₁.gens=#[])
  (ha:s₁.heap.get? a=some { cls:=.type "list",data:=.seq vs.toArray }) (hi:IntsAre vs ns) (hl:ns.length<=sizeLine) (hr:dX k callerA)
  (F:∀base:Heap,K.In base->base.Ns mainGlobals mg->jY P w K mg base CX k fa fd [x] sp) (hbind:∀(s:Shared) (u:Value),BindsTo s fd ⟨[u],[]⟩ [(x,u)])
  (hsp:∀H:Hp,CC H->SqL K H a (ns.map V.int)->sp [.ref a] H (fun v _=>v=.bl true) fun _ _ _=>False)
  (hCX:∀H e s',CX [] H s₁ (fun _ _ _=>False) e s'->False) :
  codeAny (model P w) callerA (.call (.ref fa) ⟨[.ref a],[]⟩) (fun r s'=>r=.ok (.ret (.bool true))/\OldK s₁.heap s'.heap/\s'.os=s₁.os/\AllBare s'.gens) s₁:=by
 have rv:=l4 hi;have lenV:=hi.length
 -- from an abstract heap in which nothing but the script may be tracked
 have core:∀H:Hp,CC H->SqL K H a (ns.map V.int)->HOk P w H s₁.heap->(∀b,H b≠none->b=a)->(H a≠none->K.lookup a=none) ->
   codeAny (model P w) callerA (.call (.ref fa) ⟨[.ref a],[]⟩) (fun r s'=>r=.ok (.ret (.bool true))/\OldK s₁.heap s'.heap/\s'.os=s₁.os/\AllBare s'.gens) s₁:=by
  intro H hO hS hok hA hK;have base_of:∀{b:Addr}{o:Obj},s₁.heap.get? b=some o->H b=none->(uF s₁.heap H).get? b=some o:=fun e n=>uG e n
  have noA:∀{b:Addr}{o:Obj}{es:Array DictEntry}{ep:Nat},s₁.heap.get? b=some o->o.data=.dict es ep->H b=none:=fun {b o es ep} e d=>by
   cases q:H b with
   | none=>rfl
   | some u =>
    have e':b=a:=hA b (by rw [q];simp);subst e';rw [ha] at e;cases e;have d':Data.seq vs.toArray _=Data.dict es ep:=d;cases d'
  have nsK:∀{b:Addr}{m:Str->Option Value},s₁.heap.Ns b m->(uF s₁.heap H).Ns b m:=fun {b m} ⟨o,es,ep,e,d,r⟩=>⟨o,es,ep,base_of e (noA e d),d,r⟩
  have hKb:K.In (uF s₁.heap H):=fun b o e=>base_of (KX b o e) (by
   cases q:H b with
   | none=>rfl
   | some u =>
    have e':b=a:=hA b (by rw [q];simp);subst e';rw [hK (by rw [q];simp)] at e;cases e)
  have hM:Mod K mg (uF s₁.heap H):=⟨hKb,nsK hns,⟨mb,nsK hb,hbb⟩,let ⟨mc,h1,h2⟩:=hlim;⟨mc,nsK h1,h2⟩⟩
  have e0:xC P w K mg (uF s₁.heap H) callerA [] s₁ H:=⟨rfl,hM,fun b o e=>xq e,le_of_eq (rB _ _),trivial,fun b hb=>absurd (show b∈([]:List Addr) from hb) (by simp),hok,.of_eq hg⟩
  refine codeAny_mono ((F _ hKb (nsK hns)).run callerA [] s₁ H ⟨[.ref a],[]⟩ [.ref a] [.ref a] _ _ hr e0 (hbind s₁ (.ref a)) (.cons rfl .nil) (hsp H hO hS)) fun r s' h=>?_
  cases r with
  | error e=>exact (hCX H e s' h).elim
  | ok fl =>
   cases fl with
   | next=>exact False.elim h
   | brk=>exact False.elim h
   | cont=>exact False.elim h
   | ret u =>
    obtain⟨v,H',os,bare,un,hok',r',q⟩:=h;have q':v=.bl true:=q;subst q';obtain rfl:u=Value.bool true:=r';refine⟨rfl,OldK.of_keep fun b o e=>?_,os,bare⟩
    cases q:H b with
    | none=>exact un.keep b o e q (by intro z;exact absurd (show b∈([]:List Addr) from z) (by simp)) (by simp)
    | some u =>
     rcases hO b with z|⟨ob,xs,z⟩
     .rw [q] at z;cases z
     .have z2:=un.frzs b ob _ z;obtain⟨e1,_⟩:=hok b _ z;obtain⟨e2,_⟩:=hok' b _ z2;rw [e] at e1;cases e1;exact e2
 cases hk:K.lookup a with
 | some o =>
  -- the script is one of the module's own objects
  have e:=KX a o hk;rw [ha] at e;cases e;refine core (fun _=>none) (fun _=>.inl rfl) (.inr ⟨_,vs.toArray,_,hk,rfl,rfl,rfl,by rw [size_toArray,lenV];exact hl,by simpa using rv⟩) (fun b u z=>by have z':(none:Option HO)=some u:=z;cases z') (fun b z=>absurd rfl z) fun z=>absurd rfl z
 | none =>
  refine core (fun b=>if b=a then some (.frz { cls:=.type "list",data:=.seq vs.toArray } (.lst (ns.map V.int))) else none) (fun b=>?_) (.inl (.inr ⟨{ cls:=.type "list",data:=.seq vs.toArray },if_pos rfl⟩)) (fun b u z=>?_) (fun b z=>?_) fun _=>hk
  .by_cases hb:b=a
   .exact .inr ⟨_,_,if_pos hb⟩
   .exact .inl (if_neg hb)
  .by_cases hb:b=a
   .have z':=(if_pos hb).symm.trans z;cases z';subst hb;exact⟨ha,by rw [length_map];exact hl,vs,_,rv,ha⟩
   .have z':=(if_neg hb).symm.trans z;cases z'
  .by_cases hb:b=a
   .exact hb
   .exact absurd (if_neg hb) z
theorem xO{l:PySem.W.OpenLaw}{n k:Nat}{q:Program}{loose:List Str}{XP:(Str->Option Value)->Heap->Prop}{YP:World->Heap->Prop}{d:DefRec}{K:Params->PySem.W.Frag}{CX:World->CXT}{sp:World->Sp}{x:Str}
  (hn:l.most=some n) (hn2:n<=sizeLine) (hdf:d.params.defaults=[]) (hr:dX k callerA)
  (hY:∀(w:World) (h:Heap),YP w h->(K w.params).In h)
  (F:∀(w:World) (mg:Str->Option Value) (fa:Addr) (h:Heap),(K w.params).In h->h.Ns mainGlobals mg->mg d.name=some (.ref fa) ->
   ∃fd:FuncData,(∀(s:Shared) (u:Value),BindsTo s fd ⟨[u],[]⟩ [(x,u)]) /\
    ∀base:Heap,(K w.params).In base->base.Ns mainGlobals mg->jY l.prog w (K w.params) mg base (CX w) k fa fd [x] (sp w))
  (hsp:∀(w:World) (H:Hp) (a:Addr) (ns:List Int),ns.length<=n->CC H->SqL (K w.params) H a (ns.map V.int)->sp w [.ref a] H (fun v _=>v=.bl true) fun _ _ _=>False)
  (hCX:∀(w:World) (H:Hp) (s:Shared) (e:Value) (s':Shared),CX w [] H s (fun _ _ _=>False) e s'->False) :
  PySem.W.WalkO q loose XP YP l.row.toRowW d [] (fun f vs=>PySem.call f vs):=by
 refine Att.attach_call hn hdf fun w s₀ s₁ mg mb fa o pm cd doc a vs ns G Y ho hd hcd hmg hobj hints hlen hg=>?_;have KX:=hY w _ Y;obtain⟨fd,hb,hF⟩:=F w mg fa _ KX G.T.g hmg;exact uT KX G.T.g G.T.b G.T.builtins G.T.nolimit hg hobj hints (Nat.le_trans hlen hn2) hr hF hb (fun H hO hS=>hsp w H a ns hlen hO hS) fun H e s'=>hCX w H s₁ e s'
def nI(s:Stmt)(j:Nat):Stmt:=match s with
 | .ClassDef _ _ _ body _ _ _ _ _ _ _=>body.getD j (.Pass ⟨0,0,0,0⟩)
 | _=>.Pass ⟨0,0,0,0⟩
def bQ(s:Stmt):Arguments:=match s with
 | .FunctionDef _ a _ _ _ _ _ _ _ _=>a
 | _=>{ posonlyargs:=[],args:=[],vararg:=none,kwonlyargs:=[],kw_defaults:=[],kwarg:=none,defaults:=[] }
def bf(s:Stmt):List Stmt:=match s with
 | .FunctionDef _ _ b _ _ _ _ _ _ _=>b
 | _=>[]
def ai(s:Stmt):Scope:=match s with
 | .FunctionDef _ _ _ _ _ _ sc _ _ _=>sc
 | _=>{ kind:=.function,names:=[],isGenerator:=false,isCoroutine:=false }
abbrev CX0:CXT:=fun _ _ _ _ _ _=>False
abbrev E0:XK:=fun _ _ _=>False
theorem uU{X:Cx}:ko CX0 X E0:=fun _ _ _ _ _ _ _ h=>h.elim
structure Fun (K:PySem.W.Frag) (x qual:Str) (st:Stmt) (f:Addr) (fd:FuncData):Prop where
 ex:∃(oc:Value) (od:Option Addr) (kV doc pm:Value) (an:Option Addr) (cdv ct:Value) (osl:Array (Option Value)),
  fd=PySem.W.fnOf x qual (bQ st) (bf st) (ai st) .none kV doc pm an cdv ct/\K.lookup f=some ⟨oc,od,.func fd,osl⟩/\PySem.W.codeIn K cdv qual=true
 kp:PySem.W.keepIn K (.ref f)=true
section
variable {P:Program}{w:World}{K:PySem.W.Frag}{mg:Str->Option Value}{base:Heap}
theorem Fun.ok{x qual:Str}{st:Stmt}{f:Addr}{fd:FuncData}{N ps:List Str}{k:Nat}{sp:Sp}(F:Fun K x qual st f fd)(S:aJ N ps (ai st))(len:∀vs H Q E,sp vs H Q E->vs.length=ps.length)
  (hbody:∀(cdv:Value) (A:Around) (outer:List Env) (s:Shared) (H:Hp) (vs:List V) (Q:VK) (E:XK),dX k (A.deeper (envOfC qual (ai st) s.heap.objs.size f cdv))->sp vs H Q E ->
   ∃t,PSs (nF CX0 P w K mg base N qual (ai st) f cdv A outer s H E).nox (bf st) t/\t { nx:=fun _ H'=>Q .non H',rt:=Q } (start N vs) H):jY P w K mg base CX0 (k+1) f fd ps sp:=by
 obtain⟨oc,od,kV,doc,pm,an,cdv,ct,osl,rfl,lk,hcd⟩:=F.ex;refine xF lk hcd S len fun A outer s H vs Q E hr hsp=>?_;obtain⟨t,h,q⟩:=hbody cdv A outer s H vs Q E hr hsp;exact⟨t,h.nox,q⟩
theorem Fun.binds{x qual:Str}{st:Stmt}{f:Addr}{fd:FuncData}{ps:List Str}(F:Fun K x qual st f fd)
  (h:∀(kV doc pm:Value) (an:Option Addr) (cdv ct:Value) (us:List Value),us.length=ps.length->bindArgs (PySem.W.fnOf x qual (bQ st) (bf st) (ai st) .none kV doc pm an cdv ct) ⟨us,[]⟩=pure (ps.zip us)):gv K fd ps []:=by
 obtain⟨oc,od,kV,doc,pm,an,cdv,ct,osl,rfl,lk,hcd⟩:=F.ex;exact .all (h kV doc pm an cdv ct)
theorem pq{x qual:Str}{st:Stmt}{f:Addr}{oc:Value}{od an:Option Addr}{osl:Array (Option Value)}{kV doc pm cdv ct:Value}(l:K.lookup f=some ⟨oc,od,.func (PySem.W.fnOf x qual (bQ st) (bf st) (ai st) .none kV doc pm an cdv ct),osl⟩)
  (c:PySem.W.codeIn K cdv qual=true) (k:PySem.W.keepIn K (.ref f)=true):Fun K x qual st f (PySem.W.fnOf x qual (bQ st) (bf st) (ai st) .none kV doc pm an cdv ct):=⟨⟨oc,od,kV,doc,pm,an,cdv,ct,osl,rfl,l,c⟩,k⟩
end
section
variable {X:Cx}
theorem pv(i:Nat){x:Str}{pos:Pos}(hN:X.N[i]?=some x:=by rfl)(hv:Vis X.env.scope x:=by first|exact Or.inl rfl|exact Or.inr (Or.inl rfl)|exact Or.inr (Or.inr rfl))(hd:(x == ("__debug__":Str))=false:=by decide)
  (hcd:(x == ("__classdict__":Str))=false:=by decide):PE X (.Name x pos) (aV i):=zS hN hv hd hcd
end
def S(l:List Nat):Str:=⟨l.toArray⟩
theorem fM(l:List Nat):(S l).length=l.length:=by simp [S,Str.length]
theorem CD(a b:List Nat):S a++S b=S (a++b):=by
 show (⟨a.toArray++b.toArray⟩:Str)=⟨(a++b).toArray⟩
 rw [append_toArray]
theorem Av{a b:List Nat}(h:S a=S b):a=b:=by
 have h':=congrArg (fun x:Str=>x.cps.toList) h;simpa [S] using h'
theorem Ei{a b:List Nat}(h:a≠b):S a≠S b:=fun e=>h (Av e)
theorem Aw{a b:List Nat}:V.str (S a)=V.str (S b) ↔ a=b:=⟨fun h=>Av (V.str.inj h),fun h=>by rw [h]⟩
theorem Ax(a b:List Nat):decide (V.str (S a)=V.str (S b))=decide (a=b):=by
 by_cases h:a=b
 .rw [decide_eq_true h,decide_eq_true (Aw.mpr h)]
 .rw [decide_eq_false h,decide_eq_false (fun z=>h (Aw.mp z))]
def eW{α:Type}(xs:List α)(lo hi:Option Int):List α:=(xs.drop (HT.sIx xs.length 0 lo)).take (HT.sIx xs.length xs.length hi - HT.sIx xs.length 0 lo)
theorem j3{α:Type}(xs:List α)(lo hi:Option Int):(eW xs lo hi).length<=xs.length:=by
 unfold eW;rw [length_take,length_drop];omega
theorem sj(xs:List V)(lo hi:Option Int):xG xs lo hi=eW xs lo hi:=rfl
theorem Ay(lo hi:Option Int)(n:Nat):Builtin.Str.strSliceIndices lo hi 1 n=(List.range (HT.sIx n n hi - HT.sIx n 0 lo)).map (fun k=>HT.sIx n 0 lo+k):=by
 have key:∀(o:Option Int) (d:Nat),d<=n->(match o with|none=>(d:Int)|some i=>max 0 (min (if i<0 then i+(n:Int) else i) (n:Int)))=((HT.sIx n d o:Nat):Int):=by
  intro o d hd
  cases o with
  | none=>rfl
  | some i =>
   show max 0 (min (if i<0 then i+(n:Int) else i) (n:Int))=_;rw [<- HT.clip_eq i n d]
   by_cases h:i<0
   .rw [if_pos h,if_pos h];omega
   .rw [if_neg h,if_neg h];omega
 have k1:=key lo 0 (zero_le _);have k2:=key hi n (Nat.le_refl _);unfold Builtin.Str.strSliceIndices;simp only [show (1:Int) > 0 by decide,if_true];refine Eq.trans (congrArg (fun a=>sliceRange a _ 1) k1) (Eq.trans (congrArg (fun b=>sliceRange _ b 1) k2) ?_);unfold sliceRange;simp only [show (1:Int) > 0 by decide,if_true];generalize HT.sIx n 0 lo=a;generalize HT.sIx n n hi=b
 have ec:(if (a:Int)<(b:Int) then ((b:Int) - (a:Int)+1 - 1) / 1 else 0).toNat=b - a:=by
  split <;> omega
 rw [ec];apply map_congr_left;intro k _;omega
theorem sk{α:Type}(l:List α)(a m:Nat):((List.range m).map (fun k=>a+k)).filterMap (fun i=>l[i]?)=(l.drop a).take m:=by
 induction m generalizing a with
 | zero=>simp
 | succ m ih =>
  rw [range_succ_eq_map,map_cons,map_map,filterMap_cons];have e:((fun k=>a+k) ∘ Nat.succ)=fun k=>(a+1)+k:=by funext k;simp;omega
  rw [e,ih (a+1)]
  cases h:l[a+0]? with
  | none =>
   have hl:l.length<=a:=by simpa using List.getElem?_eq_none_iff.mp h
   rw [drop_eq_nil_of_le hl,drop_eq_nil_of_le (by omega)];simp
  | some v =>
   have hl:a<l.length:=by simpa using (List.getElem?_eq_some_iff.mp h).1
   have hv:l[a]=v:=by simpa using (List.getElem?_eq_some_iff.mp h).2
   rw [drop_eq_getElem_cons hl,hv];rfl
theorem xP(l:List Nat)(lo hi:Option Int):Txt.slice (S l) lo hi=S (eW l lo hi):=by
 have e1:(Builtin.Str.strSliceIndices lo hi 1 (S l).length).filterMap ((S l).cps[·]?)=eW l lo hi:=by
  rw [Ay,fM];have e:(fun i:Nat=>(S l).cps[i]?)=fun i:Nat=>l[i]?:=by funext i;simp [S]
  rw [e];exact sk l _ _
 unfold Txt.slice
 split
 .rename_i h;have h2:(Builtin.Str.strSliceIndices lo hi 1 (S l).length).length=(S l).length:=by simpa using h
  rw [Ay,fM,length_map,length_range] at h2;have a0:=HT.sIx_le l.length 0 (zero_le _) lo;have b0:=HT.sIx_le l.length l.length (Nat.le_refl _) hi;unfold eW
  by_cases hz:l.length=0
  .have:l=[]:=length_eq_zero_iff.mp hz;subst this;simp
  .have ha:HT.sIx l.length 0 lo=0:=by omega
   have hb:HT.sIx l.length l.length hi=l.length:=by omega
   rw [ha,hb];simp
 .rw [e1];rfl
theorem gY{α:Type}(l:List α)(k:Nat):eW l none (some (k:Int))=l.take k:=by
 unfold eW;rw [HT.sIx_nat];show (l.drop 0).take (min k l.length - 0)=l.take k;rw [drop_zero,Nat.sub_zero]
 by_cases h:k<=l.length
 .rw [min_eq_left h]
 .rw [min_eq_right (by omega),take_of_length_le (Nat.le_refl _),take_of_length_le (by omega)]
theorem l6{α:Type}(l:List α)(k:Nat):eW l (some (k:Int)) none=l.drop k:=by
 unfold eW;rw [HT.sIx_nat];show (l.drop (min k l.length)).take (l.length - min k l.length)=l.drop k
 by_cases h:k<=l.length
 .rw [min_eq_left h,take_of_length_le (by rw [length_drop];exact Nat.le_refl _)]
 .rw [min_eq_right (by omega),sub_self,take_zero,drop_eq_nil_of_le (by omega)]
theorem sm{α:Type}(l:List α)(i j:Nat):eW l (some (i:Int)) (some (j:Int))=(l.drop i).take (j - i):=by
 unfold eW;rw [HT.sIx_nat,HT.sIx_nat]
 by_cases h:i<=l.length
 .rw [min_eq_left h]
  by_cases h2:j<=l.length
  .rw [min_eq_left h2]
  .rw [min_eq_right (by omega),take_of_length_le (by rw [length_drop];omega),take_of_length_le (by rw [length_drop];omega)]
 .have e:min i l.length=l.length:=min_eq_right (by omega);rw [e,drop_eq_nil_of_le (Nat.le_refl _),drop_eq_nil_of_le (by omega),take_nil,take_nil]
section
variable {X:Cx}
def DW:V->Option Int->Option Int->Hp->VK->Prop:=fun x lo hi H Q=>∃l,x=.str (S l)/\l.length<=sizeLine/\Q (.str (S (eW l lo hi))) H
theorem Az:SlR X DW:=by
 intro pins s σ H x v vl vu lo hi sl Q I rx hs pl pu h;obtain⟨l,rfl,hz,q⟩:=h;obtain⟨t,rfl⟩:=rx;refine⟨"str",_,slot_str_getitem.lookup,typeIs_str s _ t,?_⟩
 obtain⟨l',hl',el⟩:∃l':Option (Int×Tok),vl=partValue l'/\l'.map (·.1)=lo:=by
  cases pl with
  | none=>exact⟨none,rfl,rfl⟩
  | int i t=>exact⟨some (i,t),rfl,rfl⟩
 obtain⟨u',hu',eu⟩:∃l':Option (Int×Tok),vu=partValue l'/\l'.map (·.1)=hi:=by
  cases pu with
  | none=>exact⟨none,rfl,rfl⟩
  | int i t=>exact⟨some (i,t),rfl,rfl⟩
 subst hl' hu';refine wpAny_getItem_str_slice (l:=l') (u:=u') (st:=none) hs rfl ?_;have hm:∀t' k,EP X pins σ Q (.str (Txt.slice (S l) lo hi) t') { s with toks:=k }:=fun t' k=>⟨.str (S (eW l lo hi)),H,I.tok _,⟨t',by rw [xP]⟩,q⟩
 have hlen:(Txt.slice (S l) lo hi).length<=sizeLine:=Nat.le_trans (Txt.slice_le _ _ _) (by rw [fM];exact hz);subst el eu;exact post_val_or_str ⟨hlen,hm⟩
def kZ{α:Type}(l:List α)(n:Int):List α:=(List.replicate n.toNat l).flatten
theorem sr(k:Nat)(l acc:List Nat):(List.replicate k l.toArray).foldl (·++·) acc.toArray=(acc++(List.replicate k l).flatten).toArray:=by
 induction k generalizing acc with
 | zero=>simp
 | succ k ih =>
  rw [replicate_succ,foldl_cons,append_toArray,ih (acc++l),replicate_succ,flatten_cons,append_assoc]
theorem CF(l:List Nat)(n:Int):Txt.mul (S l) n=S (kZ l n):=by
 unfold Txt.mul kZ
 by_cases h:n<1
 .rw [if_pos h];have:n.toNat=0:=by omega
  rw [this];rfl
 .rw [if_neg h]
  split
  .rename_i h2;rw [fM] at h2;simp only [or_eq_true,beq_iff_eq] at h2
   rcases h2 with h2|h2
   .subst h2;simp [S]
   .have:l=[]:=length_eq_zero_iff.mp h2;subst this;simp [S]
  .have e:=sr n.toNat l [];show (⟨_⟩:Str)=_
   have e':(List.replicate n.toNat (S l).cps).foldl (·++·) #[]=((List.replicate n.toNat l).flatten).toArray:=by
    simpa [S] using e
   rw [e'];rfl
theorem dZ{α:Type}(l:List α)(n:Int):(kZ l n).length=n.toNat*l.length:=by
 unfold kZ;rw [length_flatten,map_replicate,sum_replicate_nat]
theorem qv:OpR X (binaryOp .Mult) (fun x y H Q=>∃l n,x=.str (S l)/\y=.int n/\-1000000<=n/\n<=1000000/\n.toNat*l.length<=sizeLine/\Q (.str (S (kZ l n))) H):=by
 intro pins s σ H x y v u Q I rx ry h;obtain⟨l,n,rfl,rfl,h1,h2,hz,q⟩:=h;obtain⟨t,rfl⟩:=rx;obtain⟨t',rfl⟩:=ry;have hs:sizeLine=16777216:=sizeLine_eq;have hz':n.toNat*l.length<=16777216:=by rw [<- hs];exact hz
 refine SB.mul ⟨?_,fun hn hc=>?_,fun hn hc=>?_⟩ fun t' k=>⟨.str (S (kZ l n)),H,I.tok _,⟨t',by rw [CF]⟩,q⟩
 .rw [decide_eq_false (by omega),decide_eq_false (by omega)];rfl
 .rw [fM];intro hgt
  have hl:l.length<=16777216:=by
   have:1*l.length<=n.toNat*l.length:=mul_le_mul_right _ (by omega);omega
  have hdiv:(2^63 - 1:Int) / 1000000<=(2^63 - 1) / n:=by
   apply le_ediv_of_mul_le (by omega);have:=mul_le_mul_of_nonneg_left h2 (show (0:Int)<=(2^63 - 1) / 1000000 by decide);have e2:((2^63 - 1:Int) / 1000000)*1000000<=2^63 - 1:=by decide
   omega
  have e3:(2^63 - 1:Int) / 1000000=9223372036854:=by decide
  omega
 .rw [fM];have:l.length*n.toNat<=16777216:=by rw [mul_comm];exact hz'
  exact decide_eq_false (by omega)
theorem ss:OpR X (compareOp .LtE) (fun x y H Q=>∃i j,x=.str i/\y=.str j/\Q (.bl (!decide (j.cps.toList<i.cps.toList))) H):=by
 intro pins s σ H x y v u Q I rx ry h;obtain⟨i,j,rfl,rfl,q⟩:=h;obtain⟨t,rfl⟩:=rx;obtain⟨t',rfl⟩:=ry;exact PySem.P.le_str ⟨.bl _,H,I,rfl,q⟩
end
def Its(xs:List V):It:=⟨fun i _=>i<xs.length,fun i H x H'=>H'=H/\xs[i]?=some x,fun i _=>xs.length=i⟩
theorem su{M:Model}{A:Around}{E:Value->Shared->Prop}{s:Shared}{tg:Expr}{it:Addr}{u:Value}{Q:Unit->Shared->Prop}(hu:∀a,u≠.ref a)(hQ:Q () s):wpAny M A (letOwnedTupleGo tg (.ref it) u) Q E s:=by
 unfold letOwnedTupleGo
 cases tg <;> first
  | exact wpAny_pure hQ
  | (cases u <;> first
    | exact wpAny_pure hQ
    | exact absurd rfl (hu _))
theorem jk{P:Program}{w:World}{K:PySem.W.Frag}{tg:Expr}{it:Addr}{xs:List V}{n:Nat}{Pt:Nat->Value->Prop}{St:Nat->Heap->Prop}
  (W:∀A:Around,A.handled=none->Walks P w A it [it] [it] n Pt St) (hn:xs.length=n)
  (hv:∀i v,i<n->Pt i v->∃x,xs[i]?=some x/\cJ x v) (hsc:∀i v,Pt i v->∀a,v≠.ref a)
  (hobj:∀i h,St i h->∃o,h.get? it=some o/\∀v,o.data≠.cell v)
  (hfr:∀i h h',St i h->(∀b∈[it],∀o,h.get? b=some o->h'.get? b=some o)->St i h')
  (hself:∀(A:Around) (i:Nat) (s:Shared) (Q:Value->Shared->Prop) (E:Value->Shared->Prop),St i s.heap->Q (.ref it) s->wpAny (model P w) A (pyIter (.ref it)) Q E s) :
  zA P w K tg (Its xs) [it] it St where
 mem:=by simp
 obj:=fun i h st b hb=>by
  have e:b=it:=by simpa using hb
  subst e;exact hobj i h st
 keep:=fun i h h' st k=>hfr i h h' st k
 item:=by
  intro X hP hw hK hc i pins s σ H E I hf st hg;subst hP hw hK;obtain⟨f0,f1,f2,f3,f4,f5⟩:=hf it (by simp);refine (W X.A (I.ok.hd hc)).item i s _ _ (by rw [<- hn];exact hg) st fun v h' tk hp st' kk=>?_;obtain⟨x,hx,rx⟩:=hv i v (by rw [<- hn];exact hg) hp;have I1:Inv X pins σ H { s with heap:=h',toks:=tk }:=I.turned (fun b o hb e=>kk b o (by simpa using hb) e) f0 f1 f3 f4 f5;exact⟨v,rfl,su (s:={ s with heap:=h',toks:=tk }) (hsc i v hp) ⟨x,H,I1,rx,⟨rfl,hx⟩,st',fun b hb=>(hf b hb).1⟩⟩
 done:=by
  intro X hP hw hK hc i pins s σ H E I hf st hg;subst hP hw hK;obtain⟨f0,f1,f2,f3,f4,f5⟩:=hf it (by simp);have e:n=i:=hn.symm.trans hg;subst e;exact (W X.A (I.ok.hd hc)).done s _ _ st fun h' tk kk=>⟨rfl,I.turned (fun b o hb e=>kk b o (by simpa using hb) e) f0 f1 f3 f4 f5⟩
 self:=hself
section
variable {X:Cx}{tg:Expr}
def e6(l:List Nat):List V:=l.map fun c=>V.str (S [c])
theorem qw{l:List Nat}{i:Nat}{x:V}(h:(e6 l)[i]?=some x):∃c,l[i]?=some c/\x=.str (S [c]):=by
 unfold e6 at h;rw [getElem?_map] at h
 cases e:l[i]? with
 | none=>rw [e] at h;cases h
 | some c=>rw [e] at h;exact⟨c,rfl,(Option.some.inj h).symm⟩
theorem gZ(l:List Nat):(e6 l).length=l.length:=length_map _
def k6(i:Int)(n:Nat):List V:=(List.range n).map fun (k:Nat)=>V.int (i - k)
theorem jl(i:Int)(n:Nat):(k6 i n).length=n:=by simp [k6]
theorem sv{i:Int}{n k:Nat}{x:V}(h:(k6 i n)[k]?=some x):k<n/\x=.int (i - k):=by
 unfold k6 at h;rw [getElem?_map] at h
 by_cases hk:k<n
 .rw [getElem?_range hk] at h;exact⟨hk,(Option.some.inj h).symm⟩
 .rw [getElem?_eq_none (by simp;omega)] at h;cases h
def AA(ta:TA):TI:=fun σ H R=>ta σ H fun vs H1=>∃i j:Int,vs=[.int i,.int j,.int (-1)]/\(-(2^60)<=i/\i<2^60/\-(2^60)<=j/\j<2^60)/\R (Its (k6 i (i - j).toNat)) H1
theorem fP(i j:Int):Builtin.Range.rangeSize i j (-1)=(((i - j).toNat:Nat):Int):=by
 unfold Builtin.Range.rangeSize;rw [if_neg (by decide)];simp only [neg_neg,ediv_one];split <;> omega
theorem l7{a b c:Expr}{ta:TA}{p pos:Pos}(hg:Gl X "range")(hm:X.mg "range"=none)(ha:PA X [a,b,c] ta)
  (hs:starEach [a,b,c] X.env=[(false,eval a X.env),(false,eval b X.env),(false,eval c X.env)]:=by rfl) (hs2:starEach [b,c] X.env=[(false,eval b X.env),(false,eval c X.env)]:=by rfl) :
  PI X tg (.Call (.Name "range" p) [a,b,c] [] pos) (AA ta):=by
 intro pins s σ H R I h;refine Call_ (fO I hg hm boot_range (PyProof.Rows.callWith_type1 (thn (ha pos pins s σ H _ I h) fun us s1 ⟨vs,H1,I1,r1,q1⟩=>?_) (by rw [hs,hs2]) (by rw [hs2];rfl)));obtain⟨i,j,e,⟨q1,q2,q3,q4⟩,q⟩:=q1;subst e
 cases r1 with
 | cons r rr =>
  cases rr with
  | cons r' rr =>
   cases rr with
   | cons r'' rr =>
    cases rr;obtain⟨t,rfl⟩:=r;obtain⟨t',rfl⟩:=r';obtain⟨t'',rfl⟩:=r'';refine call_range_3 (by decide) ?_ (.inl (PyProof.noPylong_small (by decide)))
    refine wpAny_pyIter_range (IsRange.new ..) ?_ ?_
    .unfold Builtin.Range.small;rw [fP];simp only [Builtin.Range.rangeFitsLong,and_eq_true,or_eq_true,decide_eq_true_eq,beq_iff_eq,show ¬ (-1:Int) > 0 by decide,if_false];omega
    have I2:Inv X pins σ H1 { s1 with heap:=s1.heap.push { cls:=.type "range",data:=.fields #[.int i t,.int j t',.int (-1) t''] },toks:=s1.toks }:=I1.kept fun b o e=>Heap.get?_push_of_some _ e
    refine⟨_,[(s1.heap.push { cls:=.type "range",data:=.fields #[.int i t,.int j t',.int (-1) t''] }).objs.size],_,Its (k6 i (i - j).toNat),H1,rfl,I2.kept (t':=s1.toks) fun b o e=>Heap.get?_push_of_some _ e,
     jk (fun A hA=>Walks.range hA _ i (-1) (i - j).toNat) (jl _ _) ?_ ?_ ?_ ?_ (fun A i s Q E st q=>wpAny_pyIter_rangeiter st q),?_,fun b hb=>?_,q⟩
    .rintro k v hk ⟨t,rfl⟩
     refine⟨.int (i - k),?_,t,?_⟩
     .unfold k6;rw [getElem?_map,getElem?_range hk];rfl
     .have e:i+(k:Int)*(-1)=i - k:=by omega
      rw [e]
    .rintro k v ⟨t,rfl⟩ a z;cases z
    .exact fun k h st=>⟨_,st,fun v z=>by
      have z':Data.fields _=Data.cell v:=z;cases z'⟩
    .exact fun k h h' st kk=>kk _ (by simp) _ st
    .show IsRangeIter _ _ (i+((0:Nat):Int)*(-1)) ((((i - j).toNat:Nat):Int) - ((0:Nat):Int)) (-1);rw [<- fP];simp only [natCast_zero,zero_mul,add_zero,Int.sub_zero];exact Heap.get?_push_size _ rfl
    .have e:b=(s1.heap.push { cls:=.type "range",data:=.fields #[.int i t,.int j t',.int (-1) t''] }).objs.size:=by simpa using hb
     subst e;exact I2.fpOk (Nat.le_refl _) (I2.hok.fresh (Nat.le_refl _))
end
section
variable {X:Cx}
theorem nJ:bP X (.builtin "isinstance") (fun xs H Q=>∃x n t b,xs=[x,.ty n]/\nE X.K H x t/\PySem.W.kitOne X.K t (.type n)=some b/\Q (.bl b) H):=by
 intro pins s σ H xs us Q I r h;obtain⟨x,n,t,b,rfl,ty,e,q⟩:=h;obtain⟨u,w',rfl,rx,ry⟩:=xx r;cases (show w'=Value.type n from ry);exact rW I rx ty e fun tk=>⟨.bl b,H,I.tok _,rfl,q⟩
mutual
inductive DV (K:PySem.W.Frag) (H:Hp):V->PyData->Prop
 | non:DV K H .non .none
 | bl (b:Bool):DV K H (.bl b) (.bool b)
 | int (i:Int):DV K H (.int i) (.int i)
 | str (x:Str):DV K H (.str x) (.str x)
 | lst {a:Addr}{xs:List V}{ds:List PyData}:SqL K H a xs->DVs K H xs ds->DV K H (.ref a) (.list ds)
 | tup {a:Addr}{xs:List V}{ds:List PyData}:SqT K H a xs->DVs K H xs ds->DV K H (.ref a) (.tuple ds)
inductive DVs (K:PySem.W.Frag) (H:Hp):List V->List PyData->Prop
 | nil:DVs K H [] []
 | cons {x:V}{d:PyData}{xs:List V}{ds:List PyData}:DV K H x d->DVs K H xs ds->DVs K H (x::xs) (d::ds)
end
mutual
theorem DV.reads{pins:List (Addr×Obj)}{σ:St}{H:Hp}{s:Shared}(I:Inv X pins σ H s):∀{x:V}{d:PyData}{u:Value},DV X.K H x d->cJ x u->∃as,Reads s.heap u d as
 | _,_,u,.non,r=>by cases (show u=Value.none from r);exact⟨_,.none⟩
 | _,_,u,.bl b,r=>by cases (show u=Value.bool b from r);exact⟨_,.bool b⟩
 | _,_,u,.int i,r=>by obtain⟨t,e⟩:=(show ∃t,u=Value.int i t from r);subst e;exact⟨_,.int i t⟩
 | _,_,u,.str x,r=>by obtain⟨t,e⟩:=(show ∃t,u=Value.str x t from r);subst e;exact⟨_,.str x t⟩
 | _,_,u,.lst (a:=a) hq hs,r=>by
  cases (show u=Value.ref a from r);obtain⟨its,rv,pl,_⟩:=I.list hq;obtain⟨o,ho,hc,n,hd⟩:=pl.isList;obtain⟨as,ra⟩:=DVs.reads I hs rv;exact⟨_,.list ho hc hd ra⟩
 | _,_,u,.tup (a:=a) hq hs,r=>by
  cases (show u=Value.ref a from r);obtain⟨its,rv,pl,_⟩:=I.tuple hq;obtain⟨o,ho,hc,n,hd⟩:=pl;obtain⟨as,ra⟩:=DVs.reads I hs rv;exact⟨_,.tuple ho hc hd ra⟩
theorem DVs.reads{pins:List (Addr×Obj)}{σ:St}{H:Hp}{s:Shared}(I:Inv X pins σ H s):∀{xs:List V}{ds:List PyData}{us:List Value},DVs X.K H xs ds->bz xs us->∃as,ReadsAll s.heap us ds as
 | _,_,_,.nil,.nil=>⟨_,.nil⟩
 | _,_,_,.cons h hs,.cons r rs=>by
  obtain⟨as,ra⟩:=DV.reads I h r;obtain⟨bs,rb⟩:=DVs.reads I hs rs;exact⟨_,.cons ra rb⟩
end
def CG(K:PySem.W.Frag)(neg:Bool):R2:=fun x y H Q=>∃da db,DV K H x da/\DV K H y db/\SeqAt.shaped da=true/\SeqAt.shaped db=true/\Q (.bl (if neg then !PyData.eqv da db else PyData.eqv da db)) H
theorem AB(hu:X.A.units+64<cLine):OpR X (compareOp .Eq) (CG X.K false):=by
 intro pins s σ H x y v u Q I rx ry h;obtain⟨da,db,ha,hb,sa,sb,q⟩:=h;obtain⟨as,ra⟩:=DV.reads I ha rx;obtain⟨bs,rb⟩:=DV.reads I hb ry;exact eq_dataH ra rb sa sb hu ⟨.bl _,H,I,rfl,q⟩
theorem AC(hu:X.A.units+64<cLine):OpR X (compareOp .NotEq) (CG X.K true):=by
 intro pins s σ H x y v u Q I rx ry h;obtain⟨da,db,ha,hb,sa,sb,q⟩:=h;obtain⟨as,ra⟩:=DV.reads I ha rx;obtain⟨bs,rb⟩:=DV.reads I hb ry;exact ne_dataH ra rb sa sb hu ⟨.bl _,H,I,rfl,q⟩
theorem DVs.ints{K:PySem.W.Frag}{H:Hp}:∀ns:List Int,DVs K H (ns.map V.int) (ns.map PyData.int)
 | []=>.nil
 | n::ns=>.cons (.int n) (DVs.ints ns)
theorem nK:MtR X "str.endswith" (fun x xs H Q=>∃a b,x=.str (S a)/\xs=[.str (S b)]/\Q (.bl (decide (b <:+ a))) H):=by
 intro pins s σ H x xs v us Q I rx rs h;obtain⟨a,b,rfl,rfl,q⟩:=h;obtain⟨t,rfl⟩:=rx;obtain⟨u,rfl,t',rfl⟩:=gu rs
 have e:Txt.endswith (S a) (S b)=decide (b <:+ a):=by
  unfold Txt.endswith Builtin.Str.subAt;rw [fM,fM]
  have e1:((S a).cps.extract (a.length - b.length) (a.length - b.length+b.length))=((a.drop (a.length - b.length)).take b.length).toArray:=by
   show a.toArray.extract _ _=_;rw [extract_toArray,extract_eq_take_drop];have e2:a.length - b.length+b.length - (a.length - b.length)=b.length:=by omega
   rw [e2]
  rw [e1]
  by_cases h:b <:+ a
  .rw [decide_eq_true h];have hl:=h.length_le;have hd:a.drop (a.length - b.length)=b:=(suffix_iff_eq_drop.mp h).symm;rw [hd];simp [S,hl]
  .rw [decide_eq_false h]
   by_cases hl:b.length<=a.length
   .have hne:¬ (a.drop (a.length - b.length)).take b.length=b:=fun z=>h (by
     rw [take_of_length_le (by rw [length_drop];omega)] at z;exact suffix_iff_eq_drop.mpr z.symm)
    simp only [and_eq_false_imp];intro _;show (((a.drop (a.length - b.length)).take b.length).toArray == b.toArray)=false;rw [beq_eq_false_iff_ne];intro z;exact hne (by simpa using congrArg Array.toList z)
   .rw [decide_eq_false (by omega)];rfl
 exact SC.endswith ⟨.bl _,H,I,rfl,by rw [e];exact q⟩
end
section
variable {X:Cx}{a b:Expr}{ta tb:TE}{pos:Pos}
theorem f8{x:Str}{l:List Nat}{j:Nat}(h:x=S l):PE X (.Constant (.str x) j pos) (tC (.str (S l))):=by
 subst h;exact zT
theorem sw:bP X (.builtin "len") (fun xs H Q=>∃l,xs=[.str (S l)]/\l.length<=sizeLine/\Q (.int l.length) H):=by
 intro pins s σ H xs us Q I r h;obtain⟨l,rfl,hz,q⟩:=h;exact lW pins s σ H _ us Q I r ⟨S l,rfl,by rw [fM];exact hz,by rw [fM];exact q⟩
def AD:R2:=fun x y H Q=>∃l i c,x=.str (S l)/\y=.int i/\l.length<=sizeLine/\atI l i=some c/\Q (.str (S [c])) H
theorem xQ:IxR X AD:=by
 intro value slice pins s σ H x y v u Q I rx ry q hs;obtain⟨l,i,c,rfl,rfl,hz,ha,q⟩:=q;exact Aq value slice pins s σ H _ _ v u Q I rx ry ⟨S l,i,c,rfl,rfl,by rw [fM];exact hz,ha,q⟩ hs
theorem xR:OpR X (binaryOp .Add) (fun x y H Q=>∃i j,x=.str (S i)/\y=.str (S j)/\i.length+j.length<=sizeLine/\Q (.str (S (i++j))) H):=by
 intro pins s σ H x y v u Q I rx ry h;obtain⟨i,j,rfl,rfl,hz,q⟩:=h;exact qj pins s σ H _ _ v u Q I rx ry ⟨S i,S j,rfl,rfl,by rw [fM,fM];exact hz,by rw [CD];exact q⟩
theorem AE:OpR X (compareOp .Eq) (fun x y H Q=>∃i j,x=.str (S i)/\y=.str (S j)/\Q (.bl (decide (i=j))) H):=by
 intro pins s σ H x y v u Q I rx ry h;obtain⟨i,j,rfl,rfl,q⟩:=h;exact Ct pins s σ H _ _ v u Q I rx ry ⟨rfl,by rw [Ax];exact q⟩
theorem AF:OpR X (compareOp .NotEq) (fun x y H Q=>∃i j,x=.str (S i)/\y=.str (S j)/\Q (.bl (!decide (i=j))) H):=by
 intro pins s σ H x y v u Q I rx ry h;obtain⟨i,j,rfl,rfl,q⟩:=h;exact Cu pins s σ H _ _ v u Q I rx ry ⟨rfl,by rw [Ax];exact q⟩
theorem AG:OpR X (compareOp .Eq) (rI0 fun i j=>.bl (decide (i=j))):=zB fun _ _ _ _ _ _ _ q=>eq_int (by rw [beq_eq_decide_eq];exact q)
theorem AH:OpR X (compareOp .NotEq) (rI0 fun i j=>.bl (!decide (i=j))):=zB fun _ _ _ _ _ _ _ q=>ne_int (by rw [bne,beq_eq_decide_eq];exact q)
theorem sy:bP X (.builtin "len") (fun xs H Q=>∃p ys,xs=[.ref p]/\SqL X.K H p ys/\Q (.int ys.length) H):=by
 intro pins s σ H xs us Q I r h;obtain⟨p,ys,e,hq,q⟩:=h;exact iz pins s σ H xs us Q I r ⟨p,ys,e,.inl hq,q⟩
theorem sA:bP X (.builtin "len") (fun xs H Q=>∃p ys,xs=[.ref p]/\SqT X.K H p ys/\Q (.int ys.length) H):=by
 intro pins s σ H xs us Q I r h;obtain⟨p,ys,e,hq,q⟩:=h;exact iz pins s σ H xs us Q I r ⟨p,ys,e,.inr hq,q⟩
end
structure Cal (P:Program) (w:World) (K:PySem.W.Frag) (mg:Str->Option Value) (base:Heap) (k:Nat) (x:Str) (ps:List Str) (sp:Sp):Prop where
 ex:∃(f:Addr) (fd:FuncData),jY P w K mg base CX0 k f fd ps sp/\gv K fd ps []/\PySem.W.keepIn K (.ref f)=true/\mg x=some (.ref f)/\∃oc od osl,K.lookup f=some ⟨oc,od,.func fd,osl⟩
structure b9 (K:PySem.W.Frag) (mg:Str->Option Value) (x:Str) (st:Stmt):Prop where
 ex:∃(f:Addr) (fd:FuncData),Fun K x x st f fd/\mg x=some (.ref f)
section
variable {P:Program}{w:World}{K:PySem.W.Frag}{mg:Str->Option Value}{base:Heap}{x:Str}{st:Stmt}{N ps:List Str}{k:Nat}{sp:Sp}
theorem b9.ok(D:b9 K mg x st)(S:aJ N ps (ai st))
  (hb:∀(kV doc pm:Value) (an:Option Addr) (cdv ct:Value) (us:List Value),us.length=ps.length->bindArgs (PySem.W.fnOf x x (bQ st) (bf st) (ai st) .none kV doc pm an cdv ct) ⟨us,[]⟩=pure (ps.zip us))
  (len:∀vs H Q E,sp vs H Q E->vs.length=ps.length)
  (hbody:∀(f:Addr) (cdv:Value) (A:Around) (outer:List Env) (s:Shared) (H:Hp) (vs:List V) (Q:VK) (E:XK),dX k (A.deeper (envOfC x (ai st) s.heap.objs.size f cdv))->sp vs H Q E ->
   ∃t,PSs (nF CX0 P w K mg base N x (ai st) f cdv A outer s H E).nox (bf st) t/\t { nx:=fun _ H'=>Q .non H',rt:=Q } (start N vs) H):Cal P w K mg base (k+1) x ps sp:=by
 obtain⟨f,fd,F,hm⟩:=D.ex
 have lk:∃oc od osl,K.lookup f=some ⟨oc,od,.func fd,osl⟩:=by
  obtain⟨oc,od,kV,doc,pm,an,cdv,ct,osl,rfl,lk,hcd⟩:=F.ex;exact⟨oc,od,osl,lk⟩
 exact⟨f,fd,F.ok S len fun cdv A outer s H vs Q E hr h=>hbody f cdv A outer s H vs Q E hr h,F.binds hb,F.kp,hm,lk⟩
theorem b9.mk'{K:PySem.W.Frag}{h:Heap}{mg:Str->Option Value}{x:Str}{st:Stmt}{f:Addr}{oc:Value}{od an:Option Addr}{osl:Array (Option Value)}{kV doc pm cdv ct:Value}(X:K.In h)(G:h.Ns mainGlobals mg)
  (a:PySem.W.nsIn K mainGlobals x=some (some (.ref f))) (l:K.lookup f=some ⟨oc,od,.func (PySem.W.fnOf x x (bQ st) (bf st) (ai st) .none kV doc pm an cdv ct),osl⟩)
  (c:PySem.W.codeIn K cdv x=true) (k:PySem.W.keepIn K (.ref f)=true):b9 K mg x st:=⟨f,_,pq (st:=st) l c k,PySem.W.mg_of X G a⟩
end
section
variable {X:Cx}{k:Nat}{x:Str}{ps:List Str}{sp:Sp}{p pos:Pos}{e:Expr}{es:List Expr}{t:TA}
theorem AI(C:Cal X.prog X.w X.K X.mg X.base k x ps sp)(hr:dX k X.A)(ha:PA X (e::es) t)(hg:Gl X x:=by rfl)(hdb:(x == ("__debug__":Str))=false:=by decide)(he:starEach (e::es) X.env=(false,eval e X.env)::starEach es X.env:=by rfl)
  (hpl:(backTo pos (starEach es X.env)).any (·.1)=false:=by rfl):PE X (.Call (.Name x p) (e::es) [] pos) (dY sp [] E0 t):=by
 obtain⟨f,fd,F,hb,hk,hm,_⟩:=C.ex;exact rY F hr hg hm hk hb .nil uU ha hdb he hpl
end
def qx(K:PySem.W.Frag):Sp:=fun vs H Q _=>∃(a:Addr) (ns:List Int),vs=[.ref a]/\SqL K H a (ns.map V.int)/\ns.length<=63/\∀H',Q (.bl true) H'
theorem AJ{P:Program}{w:World}{K:PySem.W.Frag}{mg:Str->Option Value}{fa:Addr}{st:Stmt}{k:Nat}{x:Str}(hfa:mg "law"=some (.ref fa))(D:b9 K mg "law" st)
  (hbind:∀(kV doc pm:Value) (an:Option Addr) (cdv ct:Value) (s:Shared) (v:Value),BindsTo s (PySem.W.fnOf "law" "law" (bQ st) (bf st) (ai st) .none kV doc pm an cdv ct) ⟨[v],[]⟩ [(x,v)])
  (h:∀base:Heap,Cal P w K mg base k "law" [x] (qx K)) :
  ∃fd:FuncData,(∀(s:Shared) (v:Value),BindsTo s fd ⟨[v],[]⟩ [(x,v)])/\∀base:Heap,K.In base->base.Ns mainGlobals mg->jY P w K mg base CX0 k fa fd [x] (qx K):=by
 obtain⟨f,fd,F,hm⟩:=D.ex;have e:=hfa.symm.trans hm;cases e;obtain⟨oc,od,kV,doc,pm,an,cdv,ct,osl,rfl,lk,hcd⟩:=F.ex;refine⟨_,fun s v=>hbind kV doc pm an cdv ct s v,fun base kb nb=>?_⟩;obtain⟨f',fd',F',_,_,hm',oc',od',osl',lk'⟩:=(h base).ex;have e:=hfa.symm.trans hm';cases e;rw [lk] at lk';cases lk';exact F'
theorem AK{l:PySem.W.OpenLaw}{q:Program}{loose:List Str}{XP:(Str->Option Value)->Heap->Prop}{YP:World->Heap->Prop}{d:DefRec}{K:Params->PySem.W.Frag}{k:Nat}{x:Str}(hn:l.most=some 63)(hdf:d.params.defaults=[])(hr:dX k callerA)
  (hY:∀(w:World) (h:Heap),YP w h->(K w.params).In h)
  (F:∀(w:World) (mg:Str->Option Value) (fa:Addr) (h:Heap),(K w.params).In h->h.Ns mainGlobals mg->mg d.name=some (.ref fa) ->
   ∃fd:FuncData,(∀(s:Shared) (u:Value),BindsTo s fd ⟨[u],[]⟩ [(x,u)])/\∀base:Heap,(K w.params).In base->base.Ns mainGlobals mg->jY l.prog w (K w.params) mg base CX0 k fa fd [x] (qx (K w.params))) :
  PySem.W.WalkO q loose XP YP l.row.toRowW d [] (fun f vs=>PySem.call f vs) :=
 xO (n:=63) (k:=k) (x:=x) (CX:=fun _=>CX0) (sp:=fun w=>qx (K w.params)) hn (by decide) hdf hr hY F (fun _ _ a ns hl _ hS=>⟨a,ns,rfl,hS,hl,fun _=>rfl⟩) fun _ _ _ _ _ z=>z
theorem xS{α β:Type}{f:α->β}{xs:List α}{i:Int}{v:α}(h:atI xs i=some v):atI (xs.map f) i=some (f v):=by
 unfold atI at h ⊢;rw [length_map]
 cases e:ixN xs.length i with
 | none=>rw [e] at h;cases h
 | some j =>
  rw [e] at h;show (xs.map f)[j]?=some (f v);have h':xs[j]?=some v:=h;rw [getElem?_map,h'];rfl
theorem gy{α:Type}{xs:List α}{i:Int}{j:Nat}{v:α}(h:xs[j]?=some v)(e:i=(j:Int)):atI xs i=some v:=by subst e;exact xI h
theorem sz(n:Nat)(h:n<=1000000):n<=sizeLine:=by rw [sizeLine_eq];omega
theorem uV{ns:List Int}{i:Nat}{x:V}(h:(ns.map V.int)[i]?=some x):∃z,ns[i]?=some z/\x=.int z:=by
 rw [getElem?_map] at h
 cases e:ns[i]? with
 | none=>rw [e] at h;cases h
 | some z=>rw [e] at h;exact⟨z,rfl,(Option.some.inj h).symm⟩
section
variable {X:Cx}{st:Stmt}{t:TS}
def AL(t:TS):TS:=fun D σ H=>∃J:St->Hp->Prop,t { D with nx:=J } σ H/\∀σ' H',J σ' H'->D.nx σ' H'
theorem k7(h:PS X st t):PS X st (AL t):=by
 intro pins s σ H D I q;obtain⟨J,q1,q2⟩:=q;refine thn (h pins s σ H _ I q1) fun f s' r=>?_
 cases f with
 | next=>obtain⟨σ',H',I',r'⟩:=r;exact⟨σ',H',I',q2 σ' H' r'⟩
 | brk=>exact r
 | cont=>exact r
 | ret u=>exact r
end
theorem uW{α β:Type}(f:α->β)(xs:List α)(lo hi:Option Int):eW (xs.map f) lo hi=(eW xs lo hi).map f:=by
 unfold eW;rw [length_map,map_take,map_drop]
theorem c9{x:Str}{c:Addr}:∀(names:List (Str×NameKind)) (n:Nat) (acc:List (Str×Addr)),(cellsFrom n names acc).lookup x=some c->(n<=c/\(x,NameKind.cell)∈names)\/acc.lookup x=some c
 | [],n,acc,h=>.inr h
 | (y,k)::r,n,acc,h=>by
  unfold cellsFrom at h
  split at h
  .rename_i hk;have hk':k=.cell:=by simpa using hk
   subst hk'
   rcases c9 r (n+1) ((y,n)::acc) h with ⟨h1,h2⟩|h1
   .exact .inl ⟨by omega,mem_cons_of_mem _ h2⟩
   .rw [lookup_cons] at h1
    cases e:x == y with
    | true =>
     rw [e] at h1;have:n=c:=Option.some.inj h1;have ex:x=y:=by simpa using e
     subst ex;exact .inl ⟨by omega,mem_cons_self⟩
    | false=>rw [e] at h1;exact .inr h1
  .rcases c9 r n acc h with ⟨h1,h2⟩|h1
   .exact .inl ⟨h1,mem_cons_of_mem _ h2⟩
   .exact .inr h1
theorem d5{x:Str}:∀(names:List (Str×NameKind)) (n:Nat) (acc:List (Str×Addr)),(x,NameKind.cell)∉names->(cellsFrom n names acc).lookup x=acc.lookup x
 | [],_,_,_=>rfl
 | (y,k)::r,n,acc,h=>by
  unfold cellsFrom
  split
  .rename_i hk;have hk':k=.cell:=by simpa using hk
   subst hk';rw [d5 r (n+1) _ (fun z=>h (mem_cons_of_mem _ z)),lookup_cons]
   have:(x == y)=false:=by
    rw [beq_eq_false_iff_ne];intro e;subst e;exact h mem_cons_self
   rw [this]
  .exact d5 r n acc (fun z=>h (mem_cons_of_mem _ z))
theorem ef{x y:Str}{c:Addr}:∀(names:List (Str×NameKind)) (n:Nat) (acc:List (Str×Addr)),(∀z d,acc.lookup z=some d->d<n) ->
  (cellsFrom n names acc).lookup x=some c->(cellsFrom n names acc).lookup y=some c->n<=c->x=y
 | [],n,acc,ha,h1,h2,hc=>absurd (ha x c h1) (not_lt.mpr hc)
 | (z,k)::r,n,acc,ha,h1,h2,hc=>by
  unfold cellsFrom at h1 h2
  split at h1
  .rename_i hk;rw [if_pos hk] at h2
   have ha':∀w d,((z,n)::acc).lookup w=some d->d<n+1:=fun w d e=>by
    rw [lookup_cons] at e
    cases q:w == z with
    | true=>rw [q] at e;cases e;exact lt_succ_self _
    | false=>rw [q] at e;exact lt_succ_of_lt (ha w d e)
   by_cases hcn:n+1<=c
   .exact ef r (n+1) _ ha' h1 h2 hcn
   .have e:c=n:=le_antisymm (not_lt.mp hcn) hc;subst e
    have key:∀w:Str,(cellsFrom (c+1) r ((z,c)::acc)).lookup w=some c->w=z:=fun w hw=>by
     rcases c9 r (c+1) _ hw with ⟨q,_⟩|q
     .exact absurd q (not_succ_le_self _)
     .rw [lookup_cons] at q
      cases q2:w == z with
      | true=>simpa using q2
      | false=>rw [q2] at q;exact absurd (ha w c q) (Nat.lt_irrefl _)
    rw [key x h1,key y h2]
  .rename_i hk;rw [if_neg hk] at h2;exact ef r n acc ha h1 h2 hc
def gz(env:Env):List (Str×NameKind)->List (Str×Addr)->List (Str×Addr)
 | [],acc=>acc
 | (n,k)::r,acc=>if (k == .free)=true then gz env r ((n,(env.cells.lookup n).getD 0)::acc) else gz env r acc
theorem eh{env:Env}{x:Str}{c:Addr}:∀(names:List (Str×NameKind)) (acc:List (Str×Addr)),(gz env names acc).lookup x=some c->((x,NameKind.free)∈names/\c=(env.cells.lookup x).getD 0)\/acc.lookup x=some c
 | [],acc,h=>.inr h
 | (y,k)::r,acc,h=>by
  unfold gz at h
  split at h
  .rename_i hk;have hk':k=.free:=by simpa using hk
   subst hk'
   rcases eh r _ h with ⟨h1,h2⟩|h1
   .exact .inl ⟨mem_cons_of_mem _ h1,h2⟩
   .rw [lookup_cons] at h1
    cases e:x == y with
    | true =>
     rw [e] at h1;have ex:x=y:=by simpa using e
     subst ex;exact .inl ⟨mem_cons_self,(Option.some.inj h1).symm⟩
    | false=>rw [e] at h1;exact .inr h1
  .rcases eh r acc h with ⟨h1,h2⟩|h1
   .exact .inl ⟨mem_cons_of_mem _ h1,h2⟩
   .exact .inr h1
theorem gA{env:Env}{x:Str}:∀(names:List (Str×NameKind)) (acc:List (Str×Addr)),((x,NameKind.free)∈names\/(acc.lookup x).isSome=true)->((gz env names acc).lookup x).isSome=true
 | [],acc,h=>h.elim (fun z=>nomatch z) id
 | (y,k)::r,acc,h=>by
  unfold gz
  split
  .rename_i hk;refine gA r _ ?_
   by_cases e:(x == y)=true
   .exact .inr (by rw [lookup_cons,e];rfl)
   .rcases h with h|h
    .rcases mem_cons.mp h with z|z
     .cases z;exact absurd (by simp) e
     .exact .inl z
    .exact .inr (by rw [lookup_cons];rw [not_eq_true] at e;rw [e];exact h)
  .rename_i hk;refine gA r acc ?_
   rcases h with h|h
   .rcases mem_cons.mp h with z|z
    .cases z;exact absurd rfl hk
    .exact .inl z
   .exact .inr h
theorem iR{scope:Scope}{env:Env}(h:∀x∈scope.names,x.2=.free->∃c,env.cells.lookup x.1=some c):closureFor scope env=pure (gz env scope.names []):=by
 unfold closureFor
 have key:∀(names:List (Str×NameKind)) (acc:List (Str×Addr)),(∀x∈names,x.2=.free->∃c,env.cells.lookup x.1=some c) ->
   (forIn names acc fun (x:Str×NameKind) (r:List (Str×Addr))=>(if (x.2 == NameKind.free)=true then do let y <- cellOf env x.1;pure (ForInStep.yield ((x.1,y)::r)) else pure (ForInStep.yield r):Sem _))=pure (gz env names acc):=by
  intro names
  induction names with
  | nil=>intro acc _;rfl
  | cons p r ih =>
   intro acc hp;obtain⟨n,k⟩:=p;rw [forIn_cons];have hr:∀x∈r,x.2=.free->∃c,env.cells.lookup x.1=some c:=fun x hx=>hp x (mem_cons_of_mem _ hx);unfold gz
   by_cases hk:(k == NameKind.free)=true
   .obtain⟨c,hc⟩:=hp (n,k) mem_cons_self (by simpa using hk);have hc':env.cells.lookup n=some c:=hc;have e1:cellOf env n=pure c:=by unfold cellOf;rw [hc']
    simp only [hk,if_true];rw [e1,hc'];simp only [pure_bind];exact ih _ hr
   .rw [if_neg hk,if_neg hk];simp only [pure_bind];exact ih _ hr
 have e:=key scope.names [] h;have e2:∀(m:Sem (List (Str×Addr))),(m >>= fun r=>pure r)=m:=fun m=>bind_pure m;rw [<- e]
 first
  | rfl
  | exact (e2 _)
def sB(scope:Scope)(C:Addr)(env:Env):Env :=
 { scope:=relabel scope env,locals:=C,globals:=env.globals,cells:=cellsFrom (C+1) scope.names (gz env scope.names []),qual:=env.qual,func:=none,code:=env.code,frame:=env.frame,builtins:=env.builtins }
def cm(X:Cx)(N':List Str)(scope:Scope)(s:Shared)(H:Hp)(fp:List Addr)(pins:List (Addr×Obj)):Cx :=
 { X with N:=N',s₀:=s,H₀:=H,env:=sB scope s.heap.objs.size X.env,outer:=X.stack,stack:=X.stack,ex:=fp,fn:=fun x=>decide ((x,NameKind.cell)∈scope.names),pn:=X.pn++pins,xe:=fun _ _=>False }
def k8(sc0:Scope)(N:List Str)(scope:Scope)(N':List Str)(ix:List (Option Nat)):Bool :=
 decide (scope.kind=.function) && scope.names.all (fun y=>(!decide (y.2=.local) || decide (scope.names.lookup y.1=some .local)) &&
  (!decide (y.2=.free) || ((decide (sc0.names.lookup y.1=some .cell) || decide (sc0.names.lookup y.1=some .free)) && !decide ((y.1,NameKind.cell)∈scope.names)))) &&
 decide (N'.length=ix.length) && (N'.zip ix).all (fun p=>match p.2 with|none=>true|some j=>decide (N[j]?=some p.1) && decide (scope.names.lookup p.1=some .free))
structure sC (env:Env) (N:List Str) (scope:Scope) (N':List Str) (ix:List (Option Nat)):Prop where
 kind:scope.kind=.function
 loc:∀y∈scope.names,y.2=.local->scope.names.lookup y.1=some .local
 free:∀y∈scope.names,y.2=.free->(env.kindOf y.1=some .cell\/env.kindOf y.1=some .free)/\(y.1,NameKind.cell)∉scope.names
 len:N'.length=ix.length
 slot:∀(i:Nat) (x:Str) (j:Nat),N'[i]?=some x->ix[i]?=some (some j)->N[j]?=some x/\scope.names.lookup x=some .free
theorem l8{env:Env}{N:List Str}{scope:Scope}{N':List Str}{ix:List (Option Nat)}(h:k8 env.scope N scope N' ix=true):sC env N scope N' ix:=by
 unfold k8 at h;simp only [and_eq_true,decide_eq_true_eq,all_eq_true] at h;obtain⟨⟨⟨h1,h2⟩,h3⟩,h4⟩:=h
 refine⟨h1,fun y hy e=>?_,fun y hy e=>?_,h3,fun i x j e1 e2=>?_⟩
 .have:=(h2 y hy).1;rw [e] at this;simpa using this
 .have:=(h2 y hy).2;rw [e] at this;simpa [Env.kindOf] using this
 .have hm:(x,some j)∈N'.zip ix:=by
   refine mem_of_getElem? (i:=i) ?_;rw [getElem?_zip_eq_some];exact⟨e1,e2⟩
  have:=h4 _ hm;simpa using this
def rlf(env:Env)(p:Str×NameKind):Str×NameKind:=match p with|(n,k)=>if (k == NameKind.free && env.scope.kind == .function && env.kindOf n == some .cell) then (n,.cell) else (n,k)
theorem sD(env:Env)(n:Str)(k:NameKind):∃k',rlf env (n,k)=(n,k')/\(k'=k\/(k=.free/\k'=.cell)):=by
 unfold rlf
 by_cases c:(k == NameKind.free && env.scope.kind == .function && env.kindOf n == some .cell)=true
 .refine⟨.cell,if_pos c,.inr ⟨?_,rfl⟩⟩;simp only [and_eq_true,beq_iff_eq] at c;exact c.1.1
 .exact⟨k,if_neg c,.inl rfl⟩
theorem pz{env:Env}:∀{names:List (Str×NameKind)}{x:Str},names.lookup x=some .free->(names.map (rlf env)).lookup x=some .cell\/(names.map (rlf env)).lookup x=some .free
 | [],_,h=>by simp at h
 | (n,k)::r,x,h=>by
  have ih:=@pz env r x;obtain⟨k',e,hk'⟩:=sD env n k;rw [map_cons,e]
  cases hx:x == n with
  | true =>
   simp only [lookup_cons,hx] at h ⊢;have hk:k=.free:=Option.some.inj h
   rcases hk' with z|z
   .right;rw [z,hk]
   .left;rw [z.2]
  | false =>
   simp only [lookup_cons,hx] at h ⊢;exact ih h
theorem k9{env:Env}:∀{names:List (Str×NameKind)}{x:Str}{k':NameKind},(names.map (rlf env)).lookup x=some k'->k'=.cell\/k'=.free->names.lookup x=some .cell\/names.lookup x=some .free
 | [],_,_,h,_=>by simp at h
 | (n,k)::r,x,k',h,hk'=>by
  have ih:=@k9 env r x k';obtain⟨k2,e,hk2⟩:=sD env n k;rw [map_cons,e] at h
  cases hx:x == n with
  | true =>
   simp only [lookup_cons,hx] at h ⊢;have:k2=k':=Option.some.inj h;subst this
   rcases hk2 with z|z
   .rw [<- z]
    rcases hk' with q|q
    .left;rw [q]
    .right;rw [q]
   .right;rw [z.1]
  | false =>
   simp only [lookup_cons,hx] at h ⊢;exact ih h hk'
theorem l9{x:Str}{c:Addr}:∀(names:List (Str×NameKind)) (n:Nat) (acc:List (Str×Addr)),(cellsFrom n names acc).lookup x=some c->(x,c)∈cellsFrom n names []\/acc.lookup x=some c:=by
 have app:∀(names:List (Str×NameKind)) (n:Nat) (acc:List (Str×Addr)),cellsFrom n names acc=cellsFrom n names []++acc:=by
  intro names
  induction names with
  | nil=>intro n acc;rfl
  | cons p r ih =>
   intro n acc;obtain⟨y,k⟩:=p;unfold cellsFrom
   split
   .rw [ih (n+1) ((y,n)::acc),ih (n+1) [(y,n)],append_assoc];rfl
   .exact ih n acc
 intro names n acc h;rw [app] at h;rw [lookup_append] at h
 cases e:(cellsFrom n names []).lookup x with
 | some d =>
  rw [e] at h;have:d=c:=by simpa using h
  subst this;exact .inl (mem_of_lookup e)
 | none=>rw [e] at h;exact .inr (by simpa using h)
def rm(ix:List (Option Nat))(σ:St):St:=ix.map fun o=>match o with
 | none=>none
 | some j=>match σ[j]? with
  | some v=>v
  | none=>none
section
variable {X:Cx}{pins:List (Addr×Obj)}{σ:St}{H:Hp}{s:Shared}
theorem uX{N':List Str}{ix:List (Option Nat)}{scope:Scope}{fp:List Addr}(ok:sC X.env X.N scope N' ix)(I:Inv X pins σ H s)(hf:∀b∈fp,rl X pins H b)(hfl:∀b∈fp,b<s.heap.objs.size) :
  Inv (cm X N' scope s H fp pins) [] (rm ix σ) H { s with heap:=pushCells (s.heap.push { cls:=.type "dict",data:=.dict #[] }) scope.names }:=by
 have hk4:∀b o,s.heap.get? b=some o->(pushCells (s.heap.push { cls:=.type "dict",data:=.dict #[] }) scope.names).get? b=some o:=fun b o e=>pushCells_keeps _ _ b o (Heap.get?_push_of_some _ e)
 have hclo:∀x c,(gz X.env scope.names []).lookup x=some c->X.env.cells.lookup x=some c:=fun x c e=>by
  rcases eh scope.names [] e with ⟨h1,h2⟩|h1
  .obtain⟨d,hd⟩:=I.ok.has x (ok.free _ h1 rfl).1;rw [hd] at h2 ⊢;rw [h2];rfl
  .cases h1
 have hcl:∀x c,X.env.cells.lookup x=some c->c<s.heap.objs.size:=fun x c e=>by
  obtain⟨v,q⟩:=I.cell x c e;exact q.lt
 have own:=cellsFrom_ok scope.names (s.heap.push { cls:=.type "dict",data:=.dict #[] }) (s.heap.objs.size+1) [] ⟨fun _ _ hm=>(nomatch hm),List.Pairwise.nil⟩ (by rw [Heap.size_push];exact Nat.le_refl _);rw [Heap.size_push] at own
 have cases:∀x c,(cellsFrom (s.heap.objs.size+1) scope.names (gz X.env scope.names [])).lookup x=some c ->
   ((pushCells (s.heap.push { cls:=.type "dict",data:=.dict #[] }) scope.names).IsCell c none/\s.heap.objs.size+1<=c)\/X.env.cells.lookup x=some c:=fun x c e=>by
  rcases l9 _ _ _ e with h|h
  .exact .inl (own.empty x c h)
  .exact .inr (hclo x c h)
 have fs':∀b,b∈frs X.stack->b<s.heap.objs.size:=fun b hb=>by
  rcases mem_cons.mp (I.stkSub b hb) with z|z
  .rw [z];exact I.lt
  .by_cases q:b<s.heap.objs.size
   .exact q
   .exact absurd z (I.nofs (not_lt.mp q))
 have cix:(cm X N' scope s H fp pins).Ok:=by
  refine⟨I.ok.mod,ok.kind,I.ok.glob,I.ok.blt,Nat.le_refl _,fun x y c h1 h2=>?_,fun x hx=>?_,fun x c hx e=>?_,I.ok.hd,I.ok.frames,.inl rfl,fun b hb=>⟨ne_of_lt (hfl b hb),fun x c e=>?_⟩,fun b o e=>I.bs b o e,Nat.le_trans I.ok.bsz I.sz,fun b o e hb=>?_,fun b hb=>?_,I.stack,I.stkFree⟩
  .rcases cases x c h1 with ⟨_,z⟩|z
   .exact ef scope.names _ _ (fun w d e=>lt_succ_of_lt (hcl w d (hclo w d e))) h1 h2 z
   .rcases cases y c h2 with ⟨_,z2⟩|z2
    .exact absurd (hcl x c z) (not_lt.mpr (le_of_succ_le z2))
    .exact I.ok.inj x y c z z2
  .have hx':scope.names.lookup x=some .cell\/scope.names.lookup x=some .free:=by
    rcases hx with z|z
    .exact k9 (env:=X.env) z (.inl rfl)
    .exact k9 (env:=X.env) z (.inr rfl)
   rcases hx' with z|z
   .exact Option.isSome_iff_exists.mp (PySem.W.cellsFrom_some scope.names _ _ (.inl z))
   .exact Option.isSome_iff_exists.mp (PySem.W.cellsFrom_some scope.names _ _ (.inr (gA _ _ (.inl (mem_of_lookup z)))))
  .have hx':(x,NameKind.cell)∈scope.names:=of_decide_eq_true hx
   rcases cases x c e with ⟨_,z⟩|z
   .exact le_of_succ_le z
   .rcases l9 _ _ _ e with h|h
    .exact le_of_succ_le (own.empty x c h).2
    .rcases eh scope.names [] h with ⟨h1,_⟩|h1
     .exact absurd hx' (ok.free _ h1 rfl).2
     .cases h1
  .intro z
   rcases cases x c e with ⟨_,z2⟩|z2
   .rw [z] at z2;exact absurd (hfl b hb) (not_lt.mpr (le_of_succ_le z2))
   .exact (hf b hb).2.2.2.2.1 x c z2 z
  .rcases (hf b hb).2.2.2.1 with z|z
   .exact I.ok.noex b o e z
   .exact absurd (Heap.lt_size (I.ok.bs b o e).1) (not_lt.mpr z)
  .intro z
   rcases mem_cons.mp (I.stkSub b z) with q|q
   .exact (hf b hb).2.1 q
   .exact (hf b hb).2.2.1 q
 refine⟨cix,rfl,I.bare,Un.kept hk4,⟨fun _=>none,?_,fun i x v e1 e2 e3=>?_⟩,fun x c e=>?_,I.hok.fresh (Nat.le_refl _),fun x c e=>?_,fun p hp=>?_,I.hok.kept hk4,?_⟩
 .exact (Heap.Ns.new s.heap (.type "dict")).keeps (pushCells_keeps _ _)
 .have e2':∃j,ix[i]?=some (some j)/\σ[j]?=some (some v):=by
   unfold rm at e2;rw [getElem?_map] at e2
   cases q:ix[i]? with
   | none=>rw [q] at e2;cases e2
   | some o =>
    rw [q] at e2
    cases o with
    | none=>cases (Option.some.inj e2)
    | some j =>
     refine⟨j,rfl,?_⟩;have e2'':(match σ[j]? with|some v=>v|none=>none)=some v:=Option.some.inj e2
     cases r:σ[j]? with
     | none=>rw [r] at e2'';cases e2''
     | some w=>rw [r] at e2'';exact congrArg some e2''
  obtain⟨j,hj,hv⟩:=e2';obtain⟨hN,hfr⟩:=ok.slot i x j e1 hj;have hk:=(ok.free _ (mem_of_lookup hfr) rfl).1
  have hvis:Vis X.env.scope x:=by
   rcases hk with z|z
   .exact .inr (.inl z)
   .exact .inr (.inr z)
  obtain⟨m,hn,hl⟩:=I.loc;obtain⟨u,ru,lk⟩:=hl j x v hN hv hvis
  refine⟨u,ru,.inr ⟨?_,?_⟩⟩
  .exact pz (env:=X.env) hfr
  .rcases lk with ⟨z,_⟩|⟨_,c,hc,hcell⟩
   .rcases hk with q|q
    .rw [z] at q;cases q
    .rw [z] at q;cases q
   .refine⟨c,?_,hcell.keeps hk4⟩;show (cellsFrom (s.heap.objs.size+1) scope.names (gz X.env scope.names [])).lookup x=some c;rw [d5 scope.names _ _ (ok.free _ (mem_of_lookup hfr) rfl).2];obtain⟨d,hd⟩:=Option.isSome_iff_exists.mp (gA (env:=X.env) scope.names [] (.inl (mem_of_lookup hfr)));rw [hd,<- hclo x d hd,hc]
 .rcases cases x c e with ⟨z,_⟩|z
  .exact⟨none,z⟩
  .obtain⟨v,q⟩:=I.cell x c z;exact⟨v,q.keeps hk4⟩
 .rcases cases x c e with ⟨_,z⟩|z
  .exact I.hok.fresh (le_of_succ_le z)
  .exact I.freeC x c z
 .have hp':p∈X.pn++pins:=by simpa [cm] using hp
  obtain⟨q1,q2,q3,q4,q5⟩:=I.pin p hp';refine⟨hk4 _ _ q1,q2,ne_of_lt (Heap.lt_size q1),fun z=>?_,q5⟩
  rcases mem_cons.mp (I.stkSub p.1 z) with q|q
  .exact q3 q
  .exact q4 q
 .unfold rm;rw [length_map];exact ok.len.symm
end
section
variable {M:Model}{A:Around}{E:Value->Shared->Prop}{s:Shared}
theorem f9{scope:Scope}{globals:Addr}{cl:List (Str×Addr)}{qual:Str}{func:Option Addr}{code:Value}{env:Env}{Q:Env->Shared->Prop}
  (hQ:Q { scope:=scope,locals:=s.heap.objs.size,globals:=globals,cells:=cellsFrom (s.heap.objs.size+1) scope.names cl,qual:=qual,func:=func,code:=env.code,frame:=env.frame,builtins:=env.builtins }
   { s with heap:=pushCells (s.heap.push { cls:=.type "dict",data:=.dict #[] }) scope.names }) :
  wpAny M A (newFunctionEnv scope globals cl [] qual func code (some env)) Q E s:=by
 simp only [newFunctionEnv,Option.isSome_some,if_true];refine wpAny_bind (wpAny_alloc ?_);refine wpAny_bind (wpAny_layCells _ (fun name kind cells=>by cases hkc:kind == NameKind.cell <;> simp [hkc]) _ _ _ _ ?_);rw [show ({ s with heap:=s.heap.push { cls:=.type "dict",data:=.dict #[] } }:Shared).heap.objs.size=s.heap.objs.size+1 from Heap.size_push ..];simp only [forIn_nil];exact wpAny_bind (wpAny_pure (wpAny_pure hQ))
end
section
variable {prog:Program}{w:World}{A:Around}{R:Result->Shared->Prop}{s:Shared}
theorem ma{elt target iter:Expr}{ifs:List Expr}{scope:Scope}{pos:Pos}{it acc:Value}{env:Env}(I:Nat->Shared->Prop)
  (turn:∀n s,I n s->wpAny (model prog w) A (pyNext it) (fun r s₁=>match r with
   | none=>R (.ok .next) s₁
   | some v=>wpAny (model prog w) A (letOwnedTupleGo target it v) (fun _ s₂=>wpAny (model prog w) A (assign target env v) (fun _ s₃ =>
     wpAny (model prog w) A (forIn ifs true fun c r=>if r=true then do let ok <- isTrue c env (eval c env);pure (ForInStep.yield ok) else pure (ForInStep.yield r)) (fun ok s₄ =>
      if ok=true then wpAny (model prog w) A (eval elt env) (fun x s₅ =>
       wpAny (model prog w) A (call (.builtin "list.append") [acc,x]) (fun _ s₆=>∃m,m<n/\I m s₆) (fun _ _=>False) s₅) (fun _ _=>False) s₄
      else ∃m,m<n/\I m s₄) (fun _ _=>False) s₃) (fun _ _=>False) s₂) (fun _ _=>False) s₁) (fun _ _=>False) s)
  (n:Nat) (h:I n s) :
  codeAny (model prog w) A (.compLoop (.ListComp elt [⟨target,iter,ifs,0⟩] scope pos) 0 it acc env) R s:=by
 refine codeAny_loop rfl I (fun n s hI=>?_) n h;show wpAny _ A ((compTurn (.ListComp elt [⟨target,iter,ifs,0⟩] scope pos) 0 it acc env).onRaise (fun x=>do noteFrame x env;theTreesLotGoes x)) _ _ s;refine wpAny_noted ?_;rw [compTurn_list];refine wpAny_bind (wpAny_standAt (wpAny_bind (wpAny_mono (turn n s hI) (fun r s₁ h₁=>?_) fun _ _ h'=>h'.elim)))
 cases r with
 | none=>exact wpAny_pure h₁
 | some v =>
  refine wpAny_bind (wpAny_mono h₁ (fun _ s₂ h₂=>?_) fun _ _ h'=>h'.elim);refine wpAny_bind (wpAny_mono h₂ (fun _ s₃ h₃=>wpAny_bind (wpAny_mono h₃ (fun ok s₄ h₄=>?_) fun _ _ h'=>h'.elim)) fun _ _ h'=>h'.elim)
  cases ok with
  | false=>exact wpAny_pure ⟨rfl,h₄⟩
  | true =>
   exact wpAny_bind (wpAny_bind (wpAny_mono h₄ (fun x s₅ h₅=>wpAny_bind (wpAny_mono h₅ (fun _ s₆ h₆=>wpAny_pure (wpAny_pure ⟨rfl,h₆⟩)) fun _ _ h'=>h'.elim)) fun _ _ h'=>h'.elim))
end
def PIf(X:Cx)(ifs:List Expr)(t:TT):Prop :=
 ∀(pins:List (Addr×Obj)) (s:Shared) (σ:St) (H:Hp) (Q:Bool->Hp->Prop),Inv X pins σ H s->t σ H Q ->
  wpAny (model X.prog X.w) X.A (forIn ifs true fun c r=>if r=true then do let ok <- isTrue c X.env (eval c X.env);pure (ForInStep.yield ok) else pure (ForInStep.yield r)) (TP X pins σ Q) X.xe s
def i7:TT:=fun _ H Q=>Q true H
section
variable {X:Cx}
theorem bR:PIf X [] i7:=fun _ _ _ H _ I h=>wpAny_tests_nil ⟨H,I,h⟩
theorem ei{c:Expr}{t:TT}(h:PT X c t):PIf X [c] t:=fun pins s σ H Q I q=>wpAny_tests_one (h pins s σ H Q I q)
end
def nL(ix:List (Option Nat))(wi:TI)(g:TG)(tts:TT)(te:TE):TE:=fun σ H Q=>wi σ H fun J H1=>∀D,H1 D=none->∃W:Nat->Nat->St->Hp->Prop,(∃m,W 0 m (rm ix σ) (upd H1 D (.lst [])))/\∀i m τ H2,W i m τ H2 ->
 (J.stop i H2/\Q (.ref D) H2)\/(J.go i H2/\∀x H3,J.yld i H2 x H3->g x τ H3 fun τ2 H4=>tts τ2 H4 fun ok H5=>if ok=true then te τ2 H5 fun v H6=>∃ys,H6 D=some (.lst ys)/\ys.length<sizeLine/\∃m',m'<m/\W (i+1) m' τ2 (upd H6 D (.lst (ys++[v])))
  else ∃m',m'<m/\W (i+1) m' τ2 H5)
section
variable {X:Cx}{tg iter elt:Expr}{ifs:List Expr}{scope:Scope}{N':List Str}{ix:List (Option Nat)}{wi:TI}{g:TG}{tts:TT}{te:TE}
theorem md{use:Option (Value->Sem Unit)}{Qf:Value->Shared->Prop}{pos p':Pos}{pins:List (Addr×Obj)}{σ:St}{H:Hp}{s:Shared}{Q:VK}(hc:X.calm=true)(ok:sC X.env X.N scope N' ix)(hi:PI X tg iter wi)
  (blk:∀s H fp pn,PG (cm X N' scope s H fp pn) tg g/\PIf (cm X N' scope s H fp pn) ifs tts/\PE (cm X N' scope s H fp pn) elt te)
  (hs:∀x,foldedSetIterable iter X.env x=pure x) (I:Inv X pins σ H s) (hw:nL ix wi g tts te σ H Q)
  (fin:∀D C H' s',Inv X pins σ H' s'->Q (.ref D) H'->(∃m,s'.heap.Ns C m)->H' C=none->X.s₀.heap.objs.size<=C->C≠X.env.locals->(∀x c,X.env.cells.lookup x=some c->c≠C)->C∉X.fs->(∀p∈X.pn++pins,p.1≠C) ->
   compPost (model X.prog X.w) X.A X.xe use Qf (.ref D) C (.ok .next) s') :
  wpAny (model X.prog X.w) X.A (comprehension (.ListComp elt [⟨tg,iter,ifs,0⟩] scope pos) scope X.env p' (newList []) false (eval iter X.env) use) Qf X.xe s:=by
 have hclos:closureFor scope X.env=pure (gz X.env scope.names []):=iR fun y hy e=>I.ok.has y.1 (ok.free y hy e).1;refine wpAny_comprehension_free (use:=use) rfl hs hclos ok.kind ok.loc (thn (hi pins s σ H _ I hw) fun v s1 h1=>thn h1 fun itv s2 h2=>?_);obtain⟨it,fp,tn,J,H2,e,I2,T,st2,f2,hW⟩:=h2;subst e;obtain⟨W,⟨m0,w0⟩,turn⟩:=hW s2.heap.objs.size (I2.hok.fresh (Nat.le_refl _))
 have hfl:∀b∈fp,b<s2.heap.objs.size:=fun b hb=>by
  obtain⟨o,e,_⟩:=T.obj 0 _ st2 b hb;exact Heap.lt_size e
 refine wpAny_newObj_type ?_
 have I3:Inv X pins σ (upd H2 s2.heap.objs.size (.lst [])) { s2 with heap:=s2.heap.push { cls:=.type "list",dict:=none,data:=.seq ([]:List Value).toArray } } :=
  I2.laid (t':=s2.toks) (fun b o e=>Heap.get?_push_of_some _ e) (Nat.le_refl _) (show bL X.prog X.w _ _ _ (.lst []) from ⟨zero_le _,[],0,.nil,Heap.get?_push_size _ rfl⟩)
 have st3:tn 0 (s2.heap.push { cls:=.type "list",dict:=none,data:=.seq ([]:List Value).toArray }):=T.keep 0 _ _ st2 fun b _ o e=>Heap.get?_push_of_some _ e;have f3:∀b∈fp,rl X pins (upd H2 s2.heap.objs.size (.lst [])) b:=fun b hb=>⟨by rw [aj (ne_of_lt (hfl b hb))];exact (f2 b hb).1,(f2 b hb).2⟩
 have hfl3:∀b∈fp,b<(s2.heap.push { cls:=.type "list",dict:=none,data:=.seq ([]:List Value).toArray }).objs.size:=fun b hb=>by rw [Heap.size_push];exact lt_succ_of_lt (hfl b hb)
 generalize hs3:({ s2 with heap:=s2.heap.push { cls:=.type "list",dict:=none,data:=.seq ([]:List Value).toArray } }:Shared)=s3 at I3 ⊢;have eh3:s3.heap=s2.heap.push { cls:=.type "list",dict:=none,data:=.seq ([]:List Value).toArray }:=by rw [<- hs3]
 rw [<- eh3] at st3 hfl3;generalize hH3:upd H2 s2.heap.objs.size (.lst [])=H3 at I3 f3 w0;generalize hD:s2.heap.objs.size=D at *;refine f9 ?_;have I4:=uX ok I3 f3 hfl3;obtain⟨hg,ht,he⟩:=blk s3 H3 fp pins;have st4:tn 0 (pushCells (s3.heap.push { cls:=.type "dict",data:=.dict #[] }) scope.names):=T.keep 0 _ _ st3 fun b _ o e=>pushCells_keeps _ _ b o (Heap.get?_push_of_some _ e)
 have stat:∀{H':Hp},(∀b∈fp,H' b=none)->∀b∈fp,rl (cm X N' scope s3 H3 fp pins) [] H' b:=fun hn b hb=>by
  refine⟨hn b hb,ne_of_lt (hfl3 b hb),I4.ok.exfs b hb,.inl hb,(I4.ok.exf b hb).2,fun p hp=>?_⟩;have hp':p∈X.pn++pins:=by simpa [cm] using hp
  exact (f2 b hb).2.2.2.2.2 p hp'
 have loop:∀(s4:Shared),Inv (cm X N' scope s3 H3 fp pins) [] (rm ix σ) H3 s4->tn 0 s4.heap ->
   codeAny (model X.prog X.w) X.A (.compLoop (.ListComp elt [⟨tg,iter,ifs,0⟩] scope pos) 0 (.ref it) (.ref D) (sB scope s3.heap.objs.size X.env)) (compPost (model X.prog X.w) X.A X.xe use Qf (.ref D) s3.heap.objs.size) s4:=by
  intro s4 I4 st4;refine ma (fun n s'=>∃i τ H',Inv (cm X N' scope s3 H3 fp pins) [] τ H' s'/\tn i s'.heap/\(∀b∈fp,H' b=none)/\W i n τ H') ?_ m0 ⟨0,_,H3,I4,st4,fun b hb=>(f3 b hb).1,w0⟩;rintro n s5 ⟨i,τ,H5,I5,st5,fr5,w5⟩
  rcases turn i n τ H5 w5 with ⟨stop,qn⟩|⟨go,step⟩
  .refine thn (T.done (cm X N' scope s3 H3 fp pins) rfl rfl rfl hc i [] s5 τ H5 (fun _ _=>False) I5 (stat fr5) st5 stop) fun r s6 ⟨hr,I6⟩=>?_;subst hr;have I7:Inv X pins σ H5 s6:=I3.call' (ch:=fp) I6.os I6.base I6.hok I6.bare fun b hb=>⟨(f2 b hb).2.2.2.1,(f2 b hb).2.1,(f2 b hb).2.2.2.2.1,(f2 b hb).2.2.2.2.2⟩
   obtain⟨m6,hn6,_⟩:=I6.loc
   refine fin D s3.heap.objs.size H5 s6 I7 qn ⟨m6,hn6⟩ I6.free ?_ ?_ ?_ ?_ ?_
   .exact I3.sz
   .exact ne_of_gt I3.lt
   .intro x c e z;obtain⟨v,q⟩:=I3.cell x c e;have:=q.lt;rw [z] at this;exact Nat.lt_irrefl _ this
   .exact I3.nofs (Nat.le_refl _)
   .intro p hp z;have:=Heap.lt_size (I3.pin p hp).1;rw [z] at this;exact Nat.lt_irrefl _ this
  .refine thn (T.item (cm X N' scope s3 H3 fp pins) rfl rfl rfl hc i [] s5 τ H5 (fun _ _=>False) I5 (stat fr5) st5 go) fun r s6 ⟨u,hr,h6⟩=>?_;subst hr;refine thn h6 fun _ s7 ⟨x,H7,I7,r7,y7,st7,fr7⟩=>?_;have I7':=I7.pinned (stat fr7) (T.obj _ _ st7)
   have again:∀{s8:Shared}{τ8:St}{H8:Hp},Inv (cm X N' scope s3 H3 fp pins) ([]++lO fp s7.heap) τ8 H8 s8->(∃m',m'<n/\W (i+1) m' τ8 H8) ->
     ∃m,m<n/\∃i τ H',Inv (cm X N' scope s3 H3 fp pins) [] τ H' s8/\tn i s8.heap/\(∀b∈fp,H' b=none)/\W i m τ H':=fun {s8 τ8 H8} I8 ⟨m',hm,w8⟩=>by
    refine⟨m',hm,i+1,τ8,H8,I8.unpinned,T.keep _ _ _ st7 fun b hb o e=>(I8.pin (b,o) (mem_append_right _ (mem_append_right _ (fu hb e)))).1,fun b hb=>?_,w8⟩;obtain⟨o,e,d⟩:=T.obj _ _ st7 b hb;exact (I8.pin (b,o) (mem_append_right _ (mem_append_right _ (fu hb e)))).2.1
   refine thn (hg _ s7 τ H7 x u _ I7' r7 (step x H7 y7)) fun _ s8 ⟨τ8,H8,I8,q8⟩=>?_;refine thn (ht _ s8 τ8 H8 _ I8 q8) fun okb s9 ⟨H9,I9,q9⟩=>?_
   cases okb with
   | false =>
    rw [if_neg Bool.false_ne_true] at q9;rw [if_neg Bool.false_ne_true];exact again I9 q9
   | true =>
    rw [if_pos rfl] at q9;rw [if_pos rfl];refine thn (he _ s9 τ8 H9 _ I9 q9) fun v10 s10 ⟨x10,H10,I10,r10,q10⟩=>?_;obtain⟨ys,hD10,hz,m',hm,w10⟩:=q10;refine thn (cS (X:=cm X N' scope s3 H3 fp pins) _ s10 τ8 H10 (.ref D) [x10] (.ref D) [v10] (fun _ H'=>∃m',m'<n/\W (i+1) m' τ8 H') I10 rfl (.cons r10 .nil) ⟨D,ys,x10,rfl,rfl,hD10,hz,m',hm,w10⟩) fun _ s11 ⟨_,H11,I11,_,q11⟩=>?_;exact again I11 q11
 exact codeAny_compStart_list (loop _ I4 st4) (T.self X.A 0 _ _ _ st4 (loop _ I4 st4))
theorem bJ{pos:Pos}(N':List Str)(ix:List (Option Nat))(hc:X.calm=true)(hi:PI X tg iter wi)
  (blk:∀s H fp pn,PG (cm X N' scope s H fp pn) tg g/\PIf (cm X N' scope s H fp pn) ifs tts/\PE (cm X N' scope s H fp pn) elt te)
  (chk:k8 X.env.scope X.N scope N' ix=true) (hs:∀x,foldedSetIterable iter X.env x=pure x:=by intro _;rfl) :
  PE X (.ListComp elt [⟨tg,iter,ifs,0⟩] scope pos) (nL ix wi g tts te):=by
 intro pins s σ H Q I hw;rw [eval_ListComp];refine md (use:=none) hc (l8 chk) hi blk hs I hw fun D C H' s' I' q hm hn h1 h2 h3 h4 h5=>?_;obtain⟨m,hm⟩:=hm;refine⟨m,hm,fun h' sb=>⟨.ref D,H',?_,rfl,q⟩⟩;exact I'.turned (t':=s'.toks) (fun b o hb e=>(sb.2 b hb).trans e) hn h2 (.inr h1) h3 h5
end
section
variable {X:Cx}{tg iter elt:Expr}{ifs:List Expr}{scope:Scope}{N':List Str}{ix:List (Option Nat)}{wi:TI}{g:TG}{tts:TT}{te:TE}
theorem e7{i:Nat}{x:Str}{pos pos' cpos:Pos}(N':List Str)(ix:List (Option Nat))(hN:X.N.Nodup)(hi:X.N[i]?=some x)(hx:Loc X.env.scope x)(hc:X.calm=true)(hit:PI X tg iter wi)
  (blk:∀s H fp pn,PG (cm X N' scope s H fp pn) tg g/\PIf (cm X N' scope s H fp pn) ifs tts/\PE (cm X N' scope s H fp pn) elt te)
  (chk:k8 X.env.scope X.N scope N' ix=true) (hsw:swapsWith (.ListComp elt [⟨tg,iter,ifs,0⟩] scope cpos) (some (.Name x pos')) pos.line X.env=pure true:=by rfl)
  (hs:∀x,foldedSetIterable iter X.env x=pure x:=by intro _;rfl) (hf:X.fn x=true\/X.env.scope.names.lookup x=some .local:=by first|exact .inl rfl|exact .inr rfl|assumption) :
  PS X (.Assign [.Name x pos'] (.ListComp elt [⟨tg,iter,ifs,0⟩] scope cpos) pos) (wv (nL ix wi g tts te) (b3 i)):=by
 intro pins s σ H D I hw;rw [exec_Assign_Name_used _ _ _ _ hsw];refine wpAny_bind (wpAny_standAt (wpAny_bind ?_));show wpAny _ X.A (do let _ <- comprehension (.ListComp elt [⟨tg,iter,ifs,0⟩] scope cpos) scope X.env _ (newList []) false (eval iter X.env) (some (assign (.Name x pos') X.env))) _ _ s;refine wpAny_bind (thn (md (use:=some (assign (.Name x pos') X.env)) (Qf:=fun _ s'=>SP X pins D .next s') hc (l8 chk) hit blk hs I hw fun D' C H' s' I' q hm hn h1 h2 h3 h4 h5=>?_) fun _ s' q=>wpAny_pure (wpAny_pure q))
 obtain⟨m,oC,es,ep,hoC,hdC,hrC⟩:=hm
 have Ip:Inv X (pins++[(C,oC)]) σ H' s':=I'.pins_of fun p hp=>(mem_append.mp hp).elim (fun z=>I'.pin p (mem_append_right _ z)) fun z=>by
  have e:p=(C,oC):=by simpa using z
  subst e;exact⟨hoC,hn,h2,h4,fun v z=>by rw [hdC] at z;cases z⟩
 refine wpAny_assign_Name (gq (v:=.ref D') Ip hN hi hx rfl (fun s2 I2=>?_) hf);have hC2:s2.heap.get? C=some oC:=(I2.pin (C,oC) (by simp)).1;have I2':Inv X pins (σ.set i (some (.ref D'))) H' s2:=I2.pins_of fun p hp=>I2.pin p (mem_append_right _ (mem_append_left _ hp));refine⟨m,⟨oC,es,ep,hC2,hdC,hrC⟩,fun h' sb=>⟨_,H',?_,q⟩⟩;exact I2'.turned (t':=s2.toks) (fun b o hb e=>(sb.2 b hb).trans e) hn h2 (.inr h1) h3 h5
end
abbrev pA(J:It)(D:Addr)(g:TG)(tts:TT)(te:TE)(τ0:St)(H0:Hp)(Q:Hp->Prop):Prop :=
  ∃W:Nat->Nat->St->Hp->Prop,(∃m,W 0 m τ0 (upd H0 D (.lst [])))/\∀i m τ H2,W i m τ H2 ->
   (J.stop i H2/\Q H2)\/(J.go i H2/\∀x H3,J.yld i H2 x H3->g x τ H3 fun τ2 H4=>tts τ2 H4 fun ok H5=>if ok=true then te τ2 H5 fun v H6=>∃ys,H6 D=some (.lst ys)/\ys.length<sizeLine/\∃m',m'<m/\W (i+1) m' τ2 (upd H6 D (.lst (ys++[v])))
    else ∃m',m'<m/\W (i+1) m' τ2 H5)
theorem xT{J:It}{n:Nat}{xs:Nat->V}{D:Addr}{g:TG}{tts:TT}{te:TE}{τ0:St}{H0:Hp}{Q:Hp->Prop}(Pv:Nat->List V->St->Hp->Prop)(h0:Pv 0 [] τ0 (upd H0 D (.lst [])))
  (hgo:∀i ys τ H,i<n->Pv i ys τ H->J.go i H) (hy:∀i ys τ H x H',i<n->Pv i ys τ H->J.yld i H x H'->H'=H/\x=xs i) (hst:∀ys τ H,Pv n ys τ H->J.stop n H)
  (hs:∀i ys τ H,i<n->Pv i ys τ H->∀(K1:St->V->Hp->Prop) (K2:St->Hp->Prop),(∀τ2 v H6,H6 D=some (.lst ys)->ys.length<sizeLine->Pv (i+1) (ys++[v]) τ2 (upd H6 D (.lst (ys++[v])))->K1 τ2 v H6) ->
   (∀τ2 H5,Pv (i+1) ys τ2 H5->K2 τ2 H5)->g (xs i) τ H fun τ2 H4=>tts τ2 H4 fun ok H5=>if ok=true then te τ2 H5 (fun v H6=>K1 τ2 v H6) else K2 τ2 H5)
  (hd:∀ys τ H,Pv n ys τ H->Q H) :
  pA J D g tts te τ0 H0 Q:=by
 refine⟨fun i m τ H=>m=n - i/\i<=n/\∃ys,Pv i ys τ H,⟨n,by simp,zero_le _,[],h0⟩,?_⟩;rintro i m τ H ⟨rfl,hi,ys,p⟩
 by_cases hlt:i<n
 .refine .inr ⟨hgo i ys τ H hlt p,fun x H3 y=>?_⟩;obtain⟨e1,e2⟩:=hy i ys τ H x H3 hlt p y;subst e1 e2;exact hs i ys τ _ hlt p _ _ (fun τ2 v H6 a b c=>⟨ys,a,b,n - (i+1),by omega,rfl,hlt,_,c⟩) (fun τ2 H5 q=>⟨n - (i+1),by omega,rfl,hlt,ys,q⟩)
 .have e:i=n:=by omega
  subst e;exact .inl ⟨hst ys τ H p,hd ys τ H p⟩
theorem qy{lo:Int}{n:Nat}{D:Addr}{g:TG}{tts:TT}{te:TE}{τ0:St}{H0:Hp}{Q:Hp->Prop}(Pv:Nat->List V->St->Hp->Prop)(h0:Pv 0 [] τ0 (upd H0 D (.lst [])))
  (hs:∀i ys τ H,i<n->Pv i ys τ H->∀(K1:St->V->Hp->Prop) (K2:St->Hp->Prop),(∀τ2 v H6,H6 D=some (.lst ys)->ys.length<sizeLine->Pv (i+1) (ys++[v]) τ2 (upd H6 D (.lst (ys++[v])))->K1 τ2 v H6) ->
   (∀τ2 H5,Pv (i+1) ys τ2 H5->K2 τ2 H5)->g (.int (lo+i)) τ H fun τ2 H4=>tts τ2 H4 fun ok H5=>if ok=true then te τ2 H5 (fun v H6=>K1 τ2 v H6) else K2 τ2 H5)
  (hd:∀ys τ H,Pv n ys τ H->Q H):pA (Itr lo n) D g tts te τ0 H0 Q :=
 xT (J:=Itr lo n) (n:=n) (xs:=fun i=>.int (lo+i)) (D:=D) (g:=g) (tts:=tts) (te:=te) (τ0:=τ0) (H0:=H0) (Q:=Q) Pv h0 (fun i ys τ H hi _=>hi) (fun i ys τ H x H' _ _ y=>y) (fun ys τ H _=>Nat.le_refl n) hs hd
def wC(p:Addr)(a b c:Int):HO:=.ext fun h=>∃t u v,IsRange h p a b c t u v
def nM(a c:Int)(n:Nat):List V:=(List.range n).map fun (k:Nat)=>V.int (a+k*c)
theorem qz{a c:Int}{n:Nat}{acc:Array Value}(h:ItemsOf (fun i v=>∃t,v=.int (a+i*c) t) acc n):bz (nM a c n) acc.toList:=by
 obtain⟨hn,hi⟩:=h
 have key:∀(m:Nat) (us:List Value) (f:Nat->Int),us.length=m->(∀i u,us[i]?=some u->∃t,u=Value.int (f i) t)->bz ((List.range m).map fun k=>V.int (f k)) us:=by
  intro m
  induction m with
  | zero=>intro us f hl _;rw [length_eq_zero_iff] at hl;subst hl;exact .nil
  | succ m ih =>
   intro us f hl hu
   cases us with
   | nil=>simp at hl
   | cons u r =>
    rw [range_succ_eq_map,map_cons,map_map];refine .cons (hu 0 u rfl) (ih r (fun k=>f (k+1)) (by simpa using hl) fun i v e=>hu (i+1) v (by simpa using e))
 refine key n acc.toList (fun k=>a+k*c) (by simpa using hn) fun i u e=>?_;exact hi i u (by simpa using e)
theorem sE(a c:Int)(n:Nat):(nM a c n).length=n:=by simp [nM]
section
variable {X:Cx}
theorem uY{pins:List (Addr×Obj)}{σ:St}{H:Hp}{s:Shared}{a b c:Int}{t u v:Tok}{tk:Nat}(I:Inv X pins σ H s) :
  Inv X pins σ (upd H s.heap.objs.size (wC s.heap.objs.size a b c)) { s with heap:=s.heap.push { cls:=.type "range",data:=.fields #[.int a t,.int b u,.int c v] },toks:=tk }:=by
 refine I.laid (fun b o e=>Heap.get?_push_of_some _ e) (Nat.le_refl _) ⟨⟨t,u,v,IsRange.new ..⟩,⟨_,Heap.get?_push_size _ rfl⟩,fun h1 h2 ⟨t,u,v,z⟩ k=>⟨t,u,v,k _ z⟩⟩
theorem sF{a:Expr}{ta:TA}{p pos:Pos}(hg:Gl X "range")(hm:X.mg "range"=none)(ha:PA X [a] ta)(hs:starEach [a] X.env=[(false,eval a X.env)]:=by rfl) :
  PE X (.Call (.Name "range" p) [a] [] pos) (fun σ H Q=>ta σ H fun vs H1=>∃j:Int,vs=[.int j]/\∀p,H1 p=none->Q (.ref p) (upd H1 p (wC p 0 j 1))):=by
 intro pins s σ H Q I h;refine Call_ (fO I hg hm boot_range (PyProof.Rows.callWith_type1 (thn (ha pos pins s σ H _ I h) fun us s1 ⟨vs,H1,I1,r1,q1⟩=>?_) hs rfl));obtain⟨j,e,q⟩:=q1;subst e
 cases r1 with
 | cons r rr =>
  cases rr;obtain⟨t,rfl⟩:=r;exact call_range_1 ⟨.ref s1.heap.objs.size,_,uY I1,rfl,q _ (I1.hok.fresh (Nat.le_refl _))⟩
def CH(K:PySem.W.Frag)(mk:List V->HO):List V->Hp->VK->Prop:=fun xs H Q=>∃p a b c n,xs=[.ref p]/\H p=some (wC p a b c)/\Builtin.Range.small a b c=true/\Builtin.Range.rangeSize a b c=((n:Nat):Int)/\n<=1000000/\∀l,H l=none->Q (.ref l) (upd H l (mk (nM a c n)))
theorem qA(hc:X.calm=true):bP X (.type "list") (CH X.K .lst):=by
 intro pins s σ H xs us Q I r h;obtain⟨p,a,b,c,n,rfl,hp,hsm,hsz,hn,q⟩:=h;obtain⟨u,rfl,rx⟩:=gu r;cases rx;obtain⟨⟨t,u,v,hr⟩,_,_⟩:=(show bL X.prog X.w H s.heap p (wC p a b c) from I.hok p _ hp)
 have hs:sizeLine=16777216:=sizeLine_eq;refine call_list_range (I.ok.hd hc) hr hsm hsz (by omega) fun h' tk acc c' hk e hacc=>?_;exact⟨.ref s.heap.objs.size,_,I.laid (t':=tk) hk (Nat.le_refl _) (show bL X.prog X.w _ h' _ (.lst (nM a c n)) from ⟨by rw [sE];omega,acc.toList,c',qz hacc,by simpa using e⟩),rfl,q _ (I.hok.fresh (Nat.le_refl _))⟩
end
theorem sG:typeLookup (.type "list_reverseiterator") "__len__"=pure none:=by rw [typeLookup_type,builtinLookup_eq_fast];kernel_rfl
theorem uZ:typeLookup (.type "list_reverseiterator") "__length_hint__"=pure (some (.builtin "list_reverseiterator.__length_hint__")):=by rw [typeLookup_type,builtinLookup_eq_fast];kernel_rfl
section
variable {prog:Program}{w:World}{A:Around}{E:Value->Shared->Prop}{s:Shared}{I l:Addr}{items:Array Value}
theorem u0{Q:Bool->Shared->Prop}{i:Int}(hit:s.heap.IsRevIter I l i)(h:Q false s):wpAny (model prog w) A (Builtin.List.listLengthHint (.ref I)) Q E s:=by
 unfold Builtin.List.listLengthHint;refine wpAny_bind (wpAny_specialOf hit.typeIs sG ?_);show wpAny _ A (specialOf (Value.ref I) (Str.ofString "__length_hint__") >>= _) _ _ _;refine wpAny_bind (wpAny_specialOf hit.typeIs uZ ?_)
 (generalize hid:("list_reverseiterator.__length_hint__":String)=id0;(fail_if_success (clear hid id0));wp_delta;rw [show splitId id0=some ("list_reverseiterator","__length_hint__") from by subst hid;decide +kernel];subst hid)
 refine wpAny_bind (wpAny_isInstance (b:=true) hit.typeIs (by rw [isSubtype_type];kernel_rfl) ?_);exact wpAny_pure h
theorem qB{R:Result->Shared->Prop}(hh:A.handled=none)(hit:s.heap.IsRevIter I l ((items.size:Int) - 1))(hl:s.heap.IsList l items)(hlI:l≠I)(hsz:items.size<=sizeLine)(Sx:Addr)(res:Value)(c₀:Nat)
  (hS:s.heap.get? Sx=some { cls:=.type "list",data:=.seq #[] c₀ }) (hSI:Sx≠I) (hSl:Sx≠l)
  (hR:∀h' tk acc' c',(∀b o,b≠Sx->b≠I->s.heap.get? b=some o->h'.get? b=some o)->h'.get? Sx=some { cls:=.type "list",dict:=none,data:=.seq acc' c',slots:=#[] } ->
   ItemsOf (fun i v=>items[items.size - 1 - i]?=some v) acc' items.size->R (.ok (.ret res)) { s with heap:=h',toks:=tk }) :
  wpAny (model prog w) A.in1 (Builtin.List.listExtendWith (.ref Sx) (.ref I) res)
   (fun fin s'=>match fin with|.done f=>R (.ok f) s'|.again c'=>c'.quiet=true/\codeAny (model prog w) A c' R s') (fun e s'=>R (.error e) s') s:=by
 have hSf:Sx∉[I,l]:=fun hm=>by
  rcases mem_cons.mp hm with e|e
  .exact hSI e
  .exact hSl (mem_singleton.mp e)
 have W:=(Walks.listRev (prog:=prog) (w:=w) (A:=A.in1) hh I l hlI items).toS;unfold Builtin.List.listExtendWith;refine wpAny_bind (wpAny_typeOf (T:="list_reverseiterator") hit.typeIs ?_);have h1:Builtin.List.listSameRef (.ref Sx) (.ref I)=false:=by simp [Builtin.List.listSameRef,hSI]
 have h2:(Value.type "list_reverseiterator" == Value.type "list")=false:=by decide
 have h3:(Value.type "list_reverseiterator" == Value.type "tuple")=false:=by decide
 simp only [h1,h2,h3,Bool.or_false,false_eq_true,if_false];refine wpAny_bind (wpAny_pyIter_revIter hit ?_);refine wpAny_bind (wpAny_holding (u0 hit ?_));refine wpAny_ite_split (fun hab=>absurd hab (by decide)) (fun _=>?_);refine wpAny_pure ⟨plainId_quiet F.plain_extend_loop _,codeAny_extend_loopS W hsz Sx hSf res items.size 0 _ #[] c₀ rfl (zero_le _) ⟨zero_le _,by simpa using hit,hl⟩ hS (ItemsOf.nil _) fun s' acc' c' hm hS' hacc=>?_⟩
 rw [Moved.eq_with hm];refine hR s'.heap s'.toks acc' c' (fun b o hb hbI e=>hm.heap b o (fun hmem=>?_) e) hS' hacc
 rcases mem_cons.mp hmem with e'|hmem
 .exact hb e'
 .exact hbI (mem_singleton.mp hmem)
theorem la{R:Result->Shared->Prop}(hh:A.handled=none)(hit:s.heap.IsRevIter I l ((items.size:Int) - 1))(hl:s.heap.IsList l items)(hlI:l≠I)(hsz:items.size<=sizeLine)(Sx:Addr)
  (hS:s.heap.get? Sx=some { cls:=.type "list",data:=.seq #[] }) (hSI:Sx≠I) (hSl:Sx≠l)
  (hR:∀h' tk acc' c',(∀b o,b≠Sx->b≠I->s.heap.get? b=some o->h'.get? b=some o)->h'.get? Sx=some { cls:=.type "list",dict:=none,data:=.seq acc' c',slots:=#[] } ->
   ItemsOf (fun i v=>items[items.size - 1 - i]?=some v) acc' items.size->R (.ok (.ret .none)) { s with heap:=h',toks:=tk }) :
  wpAny (model prog w) A.in1 (Builtin.«list.__init__» ⟨[.ref Sx,.ref I],[]⟩)
   (fun fin s'=>match fin with|.done f=>R (.ok f) s'|.again c'=>c'.quiet=true/\codeAny (model prog w) A c' R s') (fun e s'=>R (.error e) s') s:=by
 show wpAny _ _ (do let old <- Builtin.List.listItems (.ref Sx);Builtin.List.listUpdate (.ref Sx) (fun _=>#[]);letGo old.toList.reverse;Builtin.List.listExtendWith (.ref Sx) (.ref I) .none) _ _ s;refine wpAny_bind ?_;unfold Builtin.List.listItems;refine wpAny_bind (wpAny_seqItems hS rfl (wpAny_pure ?_));show wpAny _ _ (updateSeq Sx (fun _=>#[]) >>= fun _=>letGo (#[]:Array Value).toList.reverse >>= fun _=>Builtin.List.listExtendWith (.ref Sx) (.ref I) .none) _ _ s
 refine wpAny_bind (wpAny_updateSeq hS rfl ?_);have hS₂:=Heap.get?_update_self (Obj.mapSeq (fun _=>(#[]:Array Value))) hS rfl
 have oth:∀b o,b≠Sx->s.heap.get? b=some o->(s.heap.update Sx (Obj.mapSeq (fun _=>(#[]:Array Value)))).get? b=some o :=
  fun b o hb e=>(Heap.get?_update_other _ _ (Ne.symm hb)).trans e
 refine wpAny_bind (wpAny_letGo ?_);refine qB hh (hit.at fun o e=>oth I o (Ne.symm hSI) e) (hl.at fun o e=>oth l o (Ne.symm hSl) e) hlI hsz Sx .none _ hS₂ hSI hSl fun h' tk acc' c' hk hS' hacc=>?_;exact hR h' tk acc' c' (fun b o hb hbI e=>hk b o hb hbI (oth b o hb e)) hS' hacc
theorem lb{Q:Value->Shared->Prop}(hh:A.handled=none)(hit:s.heap.IsRevIter I l ((items.size:Int) - 1))(hl:s.heap.IsList l items)(hlI:l≠I)(hsz:items.size<=sizeLine)
  (hQ:∀h' tk acc' c',(∀b o,b≠I->s.heap.get? b=some o->h'.get? b=some o) ->
   h'.get? s.heap.objs.size=some { cls:=.type "list",dict:=none,data:=.seq acc' c',slots:=#[] }->ItemsOf (fun i v=>items[items.size - 1 - i]?=some v) acc' items.size->Q (.ref s.heap.objs.size) { s with heap:=h',toks:=tk }) :
  wpAny (model prog w) A (call (.type "list") [.ref I]) Q E s:=by
 refine callType_codes (Q₁:=fun obj s₁=>obj=.ref s.heap.objs.size/\s₁={ s with heap:=s.heap.push { cls:=.type "list",data:=.seq #[] } }) F.called_list (F.typeCall_list_1 _) F.entry_list_init
  (code_list_new _ ⟨rfl,rfl⟩) fun obj s₁ h₁=>?_
 obtain⟨rfl,rfl⟩:=h₁;have hS:(s.heap.push { cls:=.type "list",data:=.seq #[] }).get? s.heap.objs.size=some { cls:=.type "list",data:=.seq #[] }:=Heap.get?_push_size _ rfl
 have hSI:s.heap.objs.size≠I:=by
  obtain⟨o,ho,_⟩:=hit;exact ne_of_gt (Heap.lt_size ho)
 have hSl:s.heap.objs.size≠l:=by
  obtain⟨o,ho,_⟩:=hl;exact ne_of_gt (Heap.lt_size ho)
 refine⟨⟨_,hS,rfl⟩,F.args_list_init_2 _ _,la (A:=A.in1) hh (hit.at fun o e=>Heap.get?_push_of_some _ e) (hl.push _) hlI hsz _ hS hSI hSl fun h' tk acc' c' hk hS' hacc=>?_⟩;exact⟨rfl,hQ h' tk acc' c' (fun b o hb e=>hk b o (ne_of_lt (Heap.lt_size e)) hb (Heap.get?_push_of_some _ e)) hS' hacc⟩
end
theorem u4{xs:List V}{its:List Value}(r:bz xs its){acc:Array Value}(h:ItemsOf (fun i v=>its.toArray[its.toArray.size - 1 - i]?=some v) acc its.toArray.size):bz xs.reverse acc.toList:=by
 have e:acc.toList=its.reverse:=by
  obtain⟨hn,hi⟩:=h;apply ext_getElem?;intro i
  by_cases hil:i<its.length
  .have hia:i<acc.size:=by rw [hn];simpa using hil
   have:=hi i acc[i] (by simp);rw [getElem?_reverse hil];have e1:acc.toList[i]?=some acc[i]:=by simp
   rw [e1,<- this];simp
  .have hna:acc.toList.length=its.length:=by simpa using hn
   rw [getElem?_eq_none (by omega),getElem?_eq_none (by rw [length_reverse];omega)]
 rw [e];exact r.reverse
section
variable {X:Cx}{e:Expr}{te:TE}{p p1 p2 pos:Pos}
theorem qC(hc:X.calm=true)(he:PE X e te)(hg1:Gl X "list")(hm1:X.mg "list"=none)(hg2:Gl X "reversed")(hm2:X.mg "reversed"=none)
  (hs:starEach [.Call (.Name "reversed" p1) [e] [] p2] X.env=[(false,eval (.Call (.Name "reversed" p1) [e] [] p2) X.env)]:=by rfl) (hs2:starEach [e] X.env=[(false,eval e X.env)]:=by rfl) :
  PE X (.Call (.Name "list" p) [.Call (.Name "reversed" p1) [e] [] p2] [] pos) (fun σ H Q=>te σ H fun x H1=>∃a xs,x=.ref a/\SqL X.K H1 a xs/\∀l,H1 l=none->Q (.ref l) (upd H1 l (.lst xs.reverse))):=by
 intro pins s σ H Q I h;refine Call_ (fO I hg1 hm1 boot_list (PyProof.Rows.callWith_type1 ?_ hs rfl));rw [hs];show wpAny _ _ (spliced ((false,eval (.Call (.Name "reversed" p1) [e] [] p2) X.env)::backTo pos [])) _ _ s;refine Calls.spliced_cons ?_;refine Call_ (fO I hg2 hm2 boot_reversed (PyProof.Rows.callWith_type1 ?_ hs2 rfl));rw [hs2];show wpAny _ _ (spliced ((false,eval e X.env)::backTo p2 [])) _ _ s
 refine Calls.spliced_cons (thn (he pins s σ H _ I h) fun u s1 ⟨x,H1,I1,r1,q1⟩=>Calls.spliced_nil ?_);obtain⟨a,xs,rfl,hS,q⟩:=q1;cases r1;obtain⟨its,rv,pl,hz⟩:=I1.list hS;have hlen:=rv.length;refine call_reversed_list pl.isList ?_;refine Calls.spliced_nil ?_
 have hal:a<s1.heap.objs.size:=by
  obtain⟨o,ho,_⟩:=pl.isList;exact Heap.lt_size ho
 have I2:Inv X pins σ H1 { s1 with heap:=s1.heap.push (revObj a ((its.toArray.size:Int) - 1)) }:=I1.kept (t':=s1.toks) fun b o e=>Heap.get?_push_of_some _ e;refine lb (I1.ok.hd hc) (I:=s1.heap.objs.size) (l:=a) (items:=its.toArray) ⟨_,Heap.get?_push_size _ rfl,rfl,rfl⟩ (pl.isList.push _) (ne_of_lt hal) (by rw [size_toArray];omega) fun h' tk acc' c' hk eL hacc=>?_;have hfI:=I1.fpOk (H':=H1) (Nat.le_refl s1.heap.objs.size) (I1.hok.fresh (Nat.le_refl _))
 obtain⟨f0,f1,f2,f3,f4,f5⟩:=hfI;have hLn:H1 (s1.heap.push (revObj a ((its.toArray.size:Int) - 1))).objs.size=none:=I2.hok.fresh (Nat.le_refl _);have hLlt:∀b o,(s1.heap.push (revObj a ((its.toArray.size:Int) - 1))).get? b=some o->b≠(s1.heap.push (revObj a ((its.toArray.size:Int) - 1))).objs.size:=fun b o e=>ne_of_lt (Heap.lt_size e);have nit:∀b u,H1 b=some u->b≠s1.heap.objs.size:=fun b u e z=>by rw [z,f0] at e;cases e
 have neL:∀b u,H1 b=some u->b≠(s1.heap.push (revObj a ((its.toArray.size:Int) - 1))).objs.size:=fun b u e z=>by rw [z,hLn] at e;cases e
 have hokT:HOk X.prog X.w H1 h':=fun b u e=>by
  refine (I2.hok b u e).stay (fun c v hc q=>hk c v ?_ q) (fun _ q=>q) fun _ _ q=>q
  rcases hc with z|z
  .rw [z];exact nit b u e
  .exact nit c _ z
 refine⟨.ref _,upd H1 (s1.heap.push (revObj a ((its.toArray.size:Int) - 1))).objs.size (.lst xs.reverse),?_,rfl,q _ hLn⟩
 refine I2.step (g':=s1.gens) (d':=s1.drawn) (t':=tk) (ch:=[s1.heap.objs.size]) (fun b hb=>?_) (fun b o _ _ hc e _=>hk b o (fun z=>hc (by simp [z])) e) (fun b o _ _ hc e _=>⟨o.slots,hk b o (fun z=>hc (by simp [z])) e⟩)
  (fun b o _ e n=>by rw [aj (hLlt b o e)];exact n) (fun b o hc e=>⟨o,hk b o (fun z=>hc (by simp [z])) e⟩) (fun b ys e=>by rw [aj (neL b _ e)];exact e) (fun b o u e=>by rw [aj (neL b _ e)];exact e)
  (fun b ps e=>⟨#[],by rw [aj (neL b _ e),e];simp⟩) (fun m hm=>?_) ?_ I2.bare
 .have e:b=s1.heap.objs.size:=by simpa using hb
  subst e;exact⟨f3,f1,f4,f5⟩
 .obtain⟨o,es,ep,ho,r⟩:=hm;exact⟨o,es,ep,hk _ o (Ne.symm f1) ho,r⟩
 .intro b u e
  by_cases hb:b=(s1.heap.push (revObj a ((its.toArray.size:Int) - 1))).objs.size
  .subst hb;rw [aA] at e;cases e;exact⟨by rw [length_reverse];exact hz,acc'.toList,c',u4 rv hacc,by simpa using eL⟩
  .rw [aj hb] at e
   refine (hokT b u e).stay (fun c v _ q=>q) (fun c q=>?_) fun c ys q=>?_
   .rw [aj (neL c _ q)];exact q
   .rw [aj (neL c _ q)];exact q
end
def jm(k:Bool)(h:Heap)(a:Addr)(its:Array Value):Prop:=∃o,h.get? a=some o/\o.cls=.type (cond k "tuple" "list")/\∃n,o.data=.seq its n
def gB(k:Bool)(h:Heap)(it a:Addr)(i:Nat):Prop:=∃o,h.get? it=some o/\o.cls=.type (cond k "tuple_iterator" "list_iterator")/\o.data=.fields #[.ref a,.int i 0]
theorem jm.mv{k:Bool}{h h':Heap}{a:Addr}{its:Array Value}(r:jm k h a its)(f:∀o,h.get? a=some o->h'.get? a=some o):jm k h' a its:=let ⟨o,e,q⟩:=r;⟨o,f o e,q⟩
theorem gB.mv{k:Bool}{h h':Heap}{it a:Addr}{i:Nat}(r:gB k h it a i)(f:∀o,h.get? it=some o->h'.get? it=some o):gB k h' it a i:=let ⟨o,e,q⟩:=r;⟨o,f o e,q⟩
section
variable {P:Program}{w:World}{A:Around}{E:Value->Shared->Prop}{s:Shared}{k:Bool}{it a:Addr}{i:Nat}{its:Array Value}
theorem me{x:Value}{Q:Value->Shared->Prop}(W:s.heap.IsTupleIter it a i)(R:s.heap.IsTuple a its)(hx:its[i]?=some x)
  (hQ:∀h',h'.IsTupleIter it a (i+1)->Heap.SameBut it s.heap h'->Q x { s with heap:=h' }):wpAny (model P w) A (Builtin.SmallTypes.nextOf (.ref it)) Q E s:=by
 have hT:=W.typeIs;obtain⟨o,ho,c,d⟩:=W;obtain⟨ol,hol,_,nl,dl⟩:=R;unfold Builtin.SmallTypes.nextOf;refine wpAny_bind (wpAny_callSpecial?_slot (name:=Str.ofString "__next__") hT F.slot_tuple_iterator_next (wpAny_call_entry F.slot_tuple_iterator_next hT F.entry_tuple_iterator_next ?_ (F.args_tuple_iterator_next_1 _)));refine wpAny_bind (m:=field (.ref it) 0) (wpAny_field ho d (x:=.ref a) rfl ?_);have nn:¬ ((Value.ref a == Value.none)=true):=Bool.false_ne_true
 show wpAny _ _ (if (Value.ref a == Value.none)=true then _ else _) _ _ s;rw [if_neg nn];refine wpAny_bind (m:=field (.ref it) 1) (wpAny_field ho d (x:=.int i 0) rfl ?_);refine wpAny_bind (m:=seqItems? (.ref a)) (wpAny_seqItems hol dl ?_);simp only [toNat_natCast,hx];exact wpAny_bind (wpAny_setField ho d (by simp) (wpAny_pure ⟨x,rfl,wpAny_pure (hQ _ ⟨_,Heap.get?_update_self _ ho (Obj.isFreed_of_fields (Obj.data_mapFields d _)),(Obj.cls_mapFields ..).trans c,by rw [Obj.data_mapFields d];simp [rawInt]⟩ (Heap.SameBut.update ..))⟩))
theorem nN{Q:Value->Shared->Prop}(hh:A.handled=none)(W:s.heap.IsTupleIter it a i)(R:s.heap.IsTuple a its)(hx:its[i]?=none)
  (hE:∀h' e,Heap.ExtBut it s.heap h'->(∃o,h'.get? e=some o/\o.cls=.type "StopIteration")->E (.ref e) { s with heap:=h' }):wpAny (model P w) A (Builtin.SmallTypes.nextOf (.ref it)) Q E s:=by
 have hT:=W.typeIs;obtain⟨o,ho,c,d⟩:=W;obtain⟨ol,hol,_,nl,dl⟩:=R;unfold Builtin.SmallTypes.nextOf;refine wpAny_bind (wpAny_callSpecial?_slot (name:=Str.ofString "__next__") hT F.slot_tuple_iterator_next (wpAny_call_entry F.slot_tuple_iterator_next hT F.entry_tuple_iterator_next ?_ (F.args_tuple_iterator_next_1 _)));refine wpAny_bind (m:=field (.ref it) 0) (wpAny_field ho d (x:=.ref a) rfl ?_);have nn:¬ ((Value.ref a == Value.none)=true):=Bool.false_ne_true
 show wpAny _ _ (if (Value.ref a == Value.none)=true then _ else _) _ _ s;rw [if_neg nn];refine wpAny_bind (m:=field (.ref it) 1) (wpAny_field ho d (x:=.int i 0) rfl ?_);refine wpAny_bind (m:=seqItems? (.ref a)) (wpAny_seqItems hol dl ?_);simp only [toNat_natCast,hx];refine wpAny_bind (wpAny_rule (wpAny_bind (wpAny_setField ho d (by simp) (wpAny_bind (m:=newExc (.type "StopIteration") []) ?_))));simp only [newExc,newTuple]
 refine wpAny_bind (wpAny_newObj_type (wpAny_bind (m:=firstArgMember _ _) (wpAny_of_eq (a:=Value.none) (by first|rfl|(simp only [firstArgMember];rfl)) (wpAny_newObj_type ?_ (by size_fits)))) (by size_fits));simp only [raiseNew];refine wpAny_bind (wpAny_handled ?_)
 first|rw [show A.in1.handled=none from hh]|rw [hh]
 exact wpAny_bind (wpAny_pure (wpAny_throw (hE _ _ (((Heap.SameBut.update ..).extBut.push _).push _) ⟨_,Heap.get?_push_size _ rfl,rfl⟩)))
theorem mf{x:Value}{Q:Value->Shared->Prop}(W:gB k s.heap it a i)(R:jm k s.heap a its)(hx:its[i]?=some x)
  (hQ:∀h',gB k h' it a (i+1)->Heap.SameBut it s.heap h'->Q x { s with heap:=h' }):wpAny (model P w) A (Builtin.SmallTypes.nextOf (.ref it)) Q E s:=by
 cases k with
 | false=>exact wpAny_nextOf_list_item W R hx hQ
 | true=>exact me W R hx hQ
theorem jn{Q:Value->Shared->Prop}(hh:A.handled=none)(W:gB k s.heap it a i)(R:jm k s.heap a its)(hx:its[i]?=none)
  (hE:∀h' e,Heap.ExtBut it s.heap h'->(∃o,h'.get? e=some o/\o.cls=.type "StopIteration")->E (.ref e) { s with heap:=h' }):wpAny (model P w) A (Builtin.SmallTypes.nextOf (.ref it)) Q E s:=by
 cases k with
 | false=>exact wpAny_nextOf_list_end hh W R hx hE
 | true=>exact nN hh W R hx hE
end
def Sq(k:Bool)(K:PySem.W.Frag)(H:Hp)(a:Addr)(xs:List V):Prop:=cond k (SqT K H a xs) (SqL K H a xs)
section
variable {X:Cx}{pins:List (Addr×Obj)}{σ:St}{H:Hp}{s:Shared}{k l:Bool}{a b c:Addr}{xs ys:List V}
theorem Inv.row(I:Inv X pins σ H s)(h:Sq k X.K H a xs):∃its:List Value,bz xs its/\jm k s.heap a its.toArray/\xs.length<=sizeLine:=by
 cases k with
 | false=>obtain⟨its,r,p,z⟩:=I.list h;exact⟨its,r,p.isList,z⟩
 | true=>obtain⟨its,r,p,z⟩:=I.tuple h;exact⟨its,r,p,z⟩
theorem Inv.row_inj(I:Inv X pins σ H s)(h:Sq k X.K H a xs)(h':Sq k X.K H a ys):xs=ys:=by
 cases k with
 | false=>exact I.list_inj h h'
 | true=>exact I.tuple_inj h h'
theorem sH{u:HO}(r:Rd H a u):∃v,H a=some v:=by
 rcases r with r|⟨o,r⟩ <;> exact⟨_,r⟩
theorem Inv.row_ne(I:Inv X pins σ H s)(h:Sq k X.K H a xs)(f:rl X pins H b):a≠b:=by
 have kk:∀o,X.K.lookup a=some o->a≠b:=fun o e z=>by
  have e1:=I.ok.mod.kin a o e
  rcases f.2.2.2.1 with q|q
  .exact I.ok.noex a o e1 (z ▸ q)
  .exact absurd (lt_of_lt_of_le (Heap.lt_size (I.ok.bs a o e1).1) (z ▸ q)) (Nat.lt_irrefl _)
 have hh:∀u,H a=some u->a≠b:=fun u e z=>by rw [z,f.1] at e;cases e
 cases k with
 | false =>
  rcases h with r|⟨o,its,n,e,_⟩
  .obtain⟨v,e⟩:=sH r;exact hh v e
  .exact kk o e
 | true =>
  rcases h with r|⟨o,its,n,e,_⟩
  .obtain⟨v,e⟩:=sH r;exact hh v e
  .exact kk o e
theorem Inv.yielded{h':Heap}{T:Addr}{zs:List V}{t':Nat}{ch:List Addr}(I:Inv X pins σ H s)(hf:∀b∈ch,rl X pins H b)(hT:s.heap.objs.size<=T)
  (kp:∀b o,b∉ch->s.heap.get? b=some o->h'.get? b=some o) (new:bL X.prog X.w (upd H T (.tup zs)) h' T (.tup zs)):Inv X pins σ (upd H T (.tup zs)) { s with heap:=h',toks:=t' }:=by
 have hn:H T=none:=I.hok.fresh hT;have nT:∀b u,H b=some u->b≠T:=fun b u e z=>by rw [z,hn] at e;cases e
 have oT:∀b o,s.heap.get? b=some o->b≠T:=fun b o e z=>absurd (lt_of_lt_of_le (Heap.lt_size e) (z ▸ hT)) (Nat.lt_irrefl _);have nc:∀b u,H b=some u->b∉ch:=fun b u e z=>by rw [(hf b z).1] at e;cases e
 refine I.step (g':=s.gens) (d':=s.drawn) (ch:=ch) (fun b hb=>⟨(hf b hb).2.2.2.1,(hf b hb).2.1,(hf b hb).2.2.2.2.1,(hf b hb).2.2.2.2.2⟩) (fun b o _ _ hc e _=>kp b o hc e) (fun b o _ _ hc e _=>⟨o.slots,kp b o hc e⟩)
  (fun b o _ e n=>by rw [aj (oT b o e)];exact n) (fun b o hc e=>⟨o,kp b o hc e⟩) (fun b xs e=>by rw [aj (nT b _ e)];exact e) (fun b o u e=>by rw [aj (nT b _ e)];exact e)
  (fun b ps e=>⟨#[],by rw [aj (nT b _ e),e];simp⟩) (fun m hm=>?_) (fun b u e=>?_) I.bare
 .obtain⟨o,es,ep,ho,r⟩:=hm;exact⟨o,es,ep,kp _ o (fun z=>(hf _ z).2.1 rfl) ho,r⟩
 .by_cases hb:b=T
  .subst hb;rw [aA] at e;cases e;exact new
  .rw [aj hb] at e;refine (I.hok b u e).stay (fun c v hc q=>kp c v ?_ q) (fun c q=>by rw [aj (nT c _ q)];exact q) fun c xs q=>by rw [aj (nT c _ q)];exact q
   rcases hc with z|z
   .rw [z];exact nc b u e
   .exact nc c _ z
end
section
variable {P:Program}{w:World}{A:Around}{E:Value->Shared->Prop}{s:Shared}{k l:Bool}
abbrev nO(k:Bool)(a:Addr):Obj:={ cls:=.type (cond k "tuple_iterator" "list_iterator"),data:=.fields #[.ref a,.int 0 0] }
theorem hU{a:Addr}{its:Array Value}{Q:Value->Shared->Prop}(R:jm k s.heap a its)(hQ:Q (.ref s.heap.objs.size) { s with heap:=s.heap.push (nO k a) }):wpAny (model P w) A (pyIter (.ref a)) Q E s:=by
 cases k with
 | false=>exact wpAny_pyIter_list R hQ
 | true=>exact wpAny_pyIter_tuple R hQ
end
def stA(a b:List Nat)(i:Nat):Bool:=decide (i+b.length<=a.length/\(a.drop i).take b.length=b)
def fnd(a b:List Nat)(lo:Nat):Int:=match (List.range' lo (a.length+1 - lo)).find? (stA a b) with|some k=>(k:Int)|none=>-1
theorem mh(s sub:Str)(hi:Nat):∀(l:List Nat) (st:Array Nat×Nat),st.fst.size=1->(forIn l st (StrLaws.occBody s sub hi 1)).run.fst=st.fst
 | [],_,_=>rfl
 | x::l,st,h=>by
  rw [forIn_cons];unfold StrLaws.occBody;rw [if_neg (fun z=>by have:=z.1.1.1;omega)];exact mh s sub hi l (st.fst,st.snd) h
theorem mj(s sub:Str)(hi:Nat)(p:Nat->Bool)(hp:∀i,p i=true ↔ (i+sub.length<=hi/\Builtin.Str.subAt s sub i=true)):∀(l:List Nat) (free:Nat),(∀i∈l,free<=i) ->
  (forIn l ((#[]:Array Nat),free) (StrLaws.occBody s sub hi 1)).run.fst=(match l.find? p with|some k=>#[k]|none=>#[])
 | [],_,_=>rfl
 | x::l,free,hf=>by
  rw [forIn_cons,find?_cons];unfold StrLaws.occBody;have hx:free<=x:=hf x (mem_cons_self ..)
  cases c:p x with
  | true =>
   have hc:=(hp x).mp c;rw [if_pos ⟨⟨⟨by simp,hx⟩,hc.1⟩,hc.2⟩];exact mh s sub hi l (#[x],x+sub.length) rfl
  | false =>
   rw [if_neg (fun z=>by
    have:=(hp x).mpr ⟨z.1.2,z.2⟩;rw [c] at this;cases this)]
   exact mj s sub hi p hp l free fun i h=>hf i (mem_cons_of_mem _ h)
theorem xU(a b:List Nat)(i:Nat):Builtin.Str.subAt (S a) (S b) i=decide ((a.drop i).take b.length=b):=by
 unfold Builtin.Str.subAt;rw [fM]
 have e1:((S a).cps.extract i (i+b.length))=((a.drop i).take b.length).toArray:=by
  show a.toArray.extract _ _=_;rw [extract_toArray,extract_eq_take_drop];congr 2;omega
 rw [e1];show (((a.drop i).take b.length).toArray == b.toArray)=_
 by_cases h:(a.drop i).take b.length=b
 .rw [decide_eq_true h,h];simp
 .rw [decide_eq_false h,beq_eq_false_iff_ne];intro z;exact h (by simpa using congrArg Array.toList z)
theorem sI(a b:List Nat)(lo:Nat):(match Builtin.Str.occurrences (S a) (S b) lo (S a).length 1 with|k::_=>(k:Int)|[]=>-1)=fnd a b lo:=by
 rw [StrLaws.occ_eq,fM,mj (S a) (S b) a.length (stA a b) (fun i=>?_) _ lo (fun i hi=>(mem_range'_1.mp hi).1)]
 .unfold fnd;cases (List.range' lo (a.length+1 - lo)).find? (stA a b) <;> rfl
 .unfold stA;rw [xU,fM];simp
section
variable {X:Cx}
theorem u5:MtR X "str.find" (fun x xs H Q=>∃a b,x=.str (S a)/\xs=[.str (S b)]/\Q (.int (fnd a b 0)) H):=by
 intro pins s σ H x xs v us Q I rx rs h;obtain⟨a,b,rfl,rfl,q⟩:=h;obtain⟨t,rfl⟩:=rx;obtain⟨u,rfl,t',rfl⟩:=gu rs;have e:Txt.find (S a) (S b)=fnd a b 0:=sI a b 0;exact SC.find ⟨.int _,H,I.tok _,⟨_,rfl⟩,by rw [e];exact q⟩
end
theorem pD{a b:List Nat}{lo:Nat}(h:fnd a b lo≠-1):∃k:Nat,fnd a b lo=(k:Int)/\lo<=k/\stA a b k=true/\∀j,lo<=j->j<k->stA a b j=false:=by
 unfold fnd at h ⊢
 cases e:(List.range' lo (a.length+1 - lo)).find? (stA a b) with
 | none=>rw [e] at h;exact absurd rfl h
 | some k =>
  obtain⟨h1,h2⟩:=find?_eq_some_iff_append.mp e;obtain⟨as,bs,hl,hn⟩:=h2;have hk:k∈List.range' lo (a.length+1 - lo):=by rw [hl];simp
  refine⟨k,rfl,(mem_range'_1.mp hk).1,h1,fun j hj1 hj2=>?_⟩;have hj:j∈List.range' lo (a.length+1 - lo):=mem_range'_1.mpr ⟨hj1,by have:=(mem_range'_1.mp hk).2;omega⟩;have hs:(List.range' lo (a.length+1 - lo)).Pairwise (·<·):=List.pairwise_lt_range';rw [hl] at hj hs
  rcases mem_append.mp hj with z|z
  .have:=hn j z;simpa using this
  .rcases mem_cons.mp z with z|z
   .omega
   .have:=(pairwise_cons.mp (pairwise_append.mp hs).2.1).1 j z;omega
theorem u6{a b:List Nat}{lo:Nat}(h:fnd a b lo=-1):∀j,lo<=j->stA a b j=false:=by
 unfold fnd at h
 cases e:(List.range' lo (a.length+1 - lo)).find? (stA a b) with
 | some k=>rw [e] at h;simp only at h;omega
 | none =>
  intro j hj
  by_cases hlt:j<a.length+1
  .have:=find?_eq_none.mp e j (mem_range'_1.mpr ⟨hj,by omega⟩);simpa using this
  .unfold stA;rw [decide_eq_false (fun z=>by have:=z.1;omega)]
section
variable {X:Cx}{tg:Expr}
def Itk(k:Bool)(K:PySem.W.Frag)(a:Addr):It:=cond k (Itt K a) (Itl K a)
def AM(K:PySem.W.Frag):R2:=fun x y H Q=>∃l b xs zs,x=.ref l/\y=.ref b/\SqL K H l xs/\SqL K H b zs/\xs.length+zs.length<=sizeLine/\∀p,H p=none->Q (.ref p) (upd H p (.lst (xs++zs)))
theorem xV:OpR X (binaryOp .Add) (AM X.K):=by
 intro pins s σ H x y v u Q I rx ry h;obtain⟨l,b,xs,zs,rfl,rfl,hH,hB,hz,q⟩:=h;cases rx;cases ry;obtain⟨its,r,pl,hl⟩:=I.list hH;obtain⟨its2,r2,pl2,hl2⟩:=I.list hB;obtain⟨⟨cls,dd,data,sl⟩,ho,hc,n,hd⟩:=pl.isList;obtain⟨⟨cls2,dd2,data2,sl2⟩,ho2,hc2,n2,hd2⟩:=pl2.isList;simp only at hc hd hc2 hd2;subst hc hd hc2 hd2;have n1:=r.length;have n2':=r2.length;have ea:its.toArray++its2.toArray=(its++its2).toArray:=by simp
 have fin:EP X pins σ Q (.ref s.heap.objs.size) { s with heap:=s.heap.push { cls:=.type "list",data:=.seq (its.toArray++its2.toArray) } }:=by
  rw [ea];exact⟨.ref _,_,I.lnew (t':=s.toks) (r.append r2) (by rw [length_append];omega),rfl,q _ I.fresh⟩
 exact concat_meets ⟨_,ho,rfl⟩ ⟨_,ho2,rfl⟩ noFill_list_add seq_list_add PySem.F.slot_list_add PySem.F.entry_list_add (PySem.F.args_list_add_2 _ _) (list_addW l b its.toArray its2.toArray n n2 dd dd2 sl sl2 (by simp;omega)) ⟨ho,ho2,fin⟩
end
def iS(n:Nat)(d:PyData):Prop:=d.canLay0=true/\d.depth<=n
theorem iS.shaped{n:Nat}{d:PyData}(h:iS n d)(hn:n<=64):SeqAt.shaped d=true:=by
 unfold SeqAt.shaped;rw [h.1,decide_eq_true (Nat.le_trans h.2 hn)];rfl
theorem nP{n:Nat}:∀{ds:List PyData},(∀d∈ds,iS n d)->PyData.canLayAll0 ds=true/\PyData.depthAll ds<=n
 | [],_=>⟨rfl,zero_le _⟩
 | d::ds,h=>by
  obtain⟨a,b⟩:=nP (ds:=ds) fun x hx=>h x (mem_cons_of_mem _ hx);obtain⟨c,e⟩:=h d mem_cons_self;simp only [PyData.canLayAll0,PyData.depthAll,a,c];exact⟨rfl,max_le.mpr ⟨e,b⟩⟩
theorem iS.list{n:Nat}{ds:List PyData}(h:∀d∈ds,iS n d):iS (n+1) (.list ds):=by
 obtain⟨a,b⟩:=nP h;exact⟨by simp only [PyData.canLay0];exact a,by simp only [PyData.depth];omega⟩
theorem iS.tuple{n:Nat}{ds:List PyData}(h:∀d∈ds,iS n d):iS (n+1) (.tuple ds):=by
 obtain⟨a,b⟩:=nP h;exact⟨by simp only [PyData.canLay0];exact a,by simp only [PyData.depth];omega⟩
theorem iS.int(i:Int):iS 0 (.int i):=⟨by simp [PyData.canLay0],by simp [PyData.depth]⟩
def Lts(l:List Nat):Prop:=∀c∈l,97<=c/\c<=122
theorem Lts.nil:Lts []:=fun c h=>nomatch h
theorem Lts.app{a b:List Nat}(x:Lts a)(y:Lts b):Lts (a++b):=fun c h=>(mem_append.mp h).elim (x c) (y c)
theorem Lts.one{c:Nat}(h:97<=c/\c<=122):Lts [c]:=fun d hd=>by
 have:d=c:=by simpa using hd
 subst this;exact h
theorem Lts.take{a:List Nat}(x:Lts a)(n:Nat):Lts (a.take n):=fun c h=>x c (mem_of_mem_take h)
theorem Lts.drop{a:List Nat}(x:Lts a)(n:Nat):Lts (a.drop n):=fun c h=>x c (mem_of_mem_drop h)
theorem Lts.rep{a:List Nat}(x:Lts a)(n:Int):Lts (kZ a n):=fun c h=>by
 unfold kZ at h;obtain⟨l,h1,h2⟩:=mem_flatten.mp h;rw [eq_of_mem_replicate h1] at h2;exact x c h2
theorem iS.str{l:List Nat}(h:Lts l):iS 0 (.str (S l)):=by
 refine⟨?_,by simp [PyData.depth]⟩;simp only [PyData.canLay0,PyData.strOk,S];rw [Array.all_eq_true];intro i hi;have:=h l[i] (getElem_mem _);simp only [getElem_toArray,decide_eq_true_eq];omega
theorem sJ(ns:List Int):∀d∈ns.map PyData.int,iS 0 d:=fun d hd=>by
 obtain⟨i,_,rfl⟩:=mem_map.mp hd;exact iS.int i
theorem qD{ws:List (List Nat)}(h:∀w∈ws,Lts w):∀d∈ws.map (fun w=>PyData.str (S w)),iS 0 d:=fun d hd=>by
 obtain⟨i,hi,rfl⟩:=mem_map.mp hd;exact iS.str (h i hi)
theorem ml{ws:List (List Nat)}(h:∀w∈ws,Lts w):SeqAt.shaped (.list (ws.map fun w=>PyData.str (S w)))=true:=(iS.list (qD h)).shaped (by decide)
theorem u7{d:PyData}(h:SeqAt.shaped d=true):PyData.eqv d d=true:=SeqAt.eqv_refl d (SeqAt.canLay_of_shaped h)
theorem jo(p:Nat->Prop)(h0:p 0):∀n,0<n->∃k,k<n/\p k/\∀j,j<n->p j->j<=k
 | 0,h=>absurd h (by decide)
 | 1,_=>⟨0,by decide,h0,fun j hj _=>by omega⟩
 | n+2,_=>by
  obtain⟨k,h1,h2,h3⟩:=jo p h0 (n+1) (by omega)
  by_cases c:p (n+1)
  .exact⟨n+1,by omega,c,fun j hj _=>by omega⟩
  .refine⟨k,by omega,h2,fun j hj hp=>?_⟩
   by_cases e:j=n+1
   .subst e;exact absurd hp c
   .exact h3 j (by omega) hp
section
variable {κ:Type} [DecidableEq κ]
theorem KV.length{kvs:List (κ×V)}{vs:List (κ×Value)}(r:KV kvs vs):kvs.length=vs.length:=Paired.length r
end
section
variable {P:Program}{w:World}{H:Hp}{h:Heap}{a:Addr}
theorem CI{u:HO}(ok:HOk P w H h)(e:Rd H a u):bL P w H h a u:=e.ok ok
theorem CJ{kvs:List (Key×V)}(ok:HOk P w H h)(e:Rd H a (.dK kvs)):kvs.length<=sizeLine/\(a == sysModules)=false/\∃vs,KV kvs vs/\h.DictOf (nz P w) a vs :=
 show bL P w H h a (.dK kvs) from CI ok e
end
section
variable {X:Cx}{pins:List (Addr×Obj)}{σ:St}{H:Hp}{s:Shared}{a:Addr}{kvs:List (Key×V)}{k:Key}{u:Value}{A:Around}{E:Value->Shared->Prop}
theorem CK{Q:Value->Shared->Prop}(I:Inv X pins σ H s)(e:Rd H a (.dK kvs))(h:∀t s',Inv X pins σ H s'->Q (.int kvs.length t) s'):wpAny (model X.prog X.w) A (call (.builtin "len") [.ref a]) Q E s:=by
 obtain⟨z,hd,vs,rel,dd⟩:=CJ I.hok e;refine call_len_dict hd dd (by rw [<- rel.length];rw [sizeLine_eq] at z;omega) ?_;rw [<- rel.length];exact h _ _ (I.tok _)
end
section
variable {X:Cx}
theorem i8{x:Str}{i:Int}{pos:Pos}(hg:Gl X x)(h:∃t,X.mg x=some (.int i t))(hd:(x == ("__debug__":Str))=false:=by decide):PE X (.Name x pos) (tC (.int i)):=by
 obtain⟨t,e⟩:=h;exact xr (u:=.int i t) hg e ⟨t,rfl⟩ hd
end
structure AN (P:Program) (w:World) (K:PySem.W.Frag) (mg:Str->Option Value) (base:Heap) (k:Nat) (x:Str) (ps:List Str) (dvs:List V) (sp:Sp):Prop where
 ex:∃(f:Addr) (fd:FuncData),jY P w K mg base CX0 k f fd ps sp/\(∀n,n<=dvs.length->∃ds,bz (dvs.drop n) ds/\gv K fd ps ds)/\PySem.W.keepIn K (.ref f)=true/\mg x=some (.ref f)
structure pE (K:PySem.W.Frag) (mg:Str->Option Value) (x:Str) (st:Stmt) (dvs:List V):Prop where
 ex:∃(f dT:Addr) (oc:Value) (od an dd:Option Addr) (kV doc pm cdv ct:Value) (osl sl:Array (Option Value)) (items:List Value) (n:Nat),
  K.lookup f=some ⟨oc,od,.func (PySem.W.fnOf x x (bQ st) (bf st) (ai st) (.ref dT) kV doc pm an cdv ct),osl⟩/\PySem.W.codeIn K cdv x=true/\PySem.W.keepIn K (.ref f)=true/\mg x=some (.ref f) /\
  K.lookup dT=some ⟨.type "tuple",dd,.seq items.toArray n,sl⟩/\bz dvs items
section
variable {P:Program}{w:World}{K:PySem.W.Frag}{mg:Str->Option Value}{base:Heap}{x:Str}{st:Stmt}{N ps:List Str}{k:Nat}{sp:Sp}{dvs:List V}
theorem pE.ok(D:pE K mg x st dvs)(S:aJ N ps (ai st))
  (hb:∀(dT:Addr) (kV doc pm:Value) (an:Option Addr) (cdv ct:Value) (items:List Value) (us:List Value) (n:Nat),items.length=dvs.length->n<=dvs.length->(us++items.drop n).length=ps.length ->
   ∃k,bindArgs (PySem.W.fnOf x x (bQ st) (bf st) (ai st) (.ref dT) kV doc pm an cdv ct) ⟨us,[]⟩=seqItems? (.ref dT) >>= k/\k (some items.toArray)=pure (ps.zip (us++items.drop n)))
  (len:∀vs H Q E,sp vs H Q E->vs.length=ps.length)
  (hbody:∀(f:Addr) (cdv:Value) (A:Around) (outer:List Env) (s:Shared) (H:Hp) (vs:List V) (Q:VK) (E:XK),dX k (A.deeper (envOfC x (ai st) s.heap.objs.size f cdv))->sp vs H Q E ->
   ∃t,PSs (nF CX0 P w K mg base N x (ai st) f cdv A outer s H E).nox (bf st) t/\t { nx:=fun _ H'=>Q .non H',rt:=Q } (start N vs) H):AN P w K mg base (k+1) x ps dvs sp:=by
 obtain⟨f,dT,oc,od,an,dd,kV,doc,pm,cdv,ct,osl,sl,items,n,lk,hcd,kp,hm,lt,rv⟩:=D.ex;have hl:=rv.length
 refine⟨f,_,xF lk hcd S len fun A outer s H vs Q E hr hsp=>?_,fun j hj=>⟨items.drop j,rv.drop j,fun s us X hlen=>?_⟩,kp,hm⟩
 .obtain⟨t,h,q⟩:=hbody f cdv A outer s H vs Q E hr hsp;exact⟨t,h.nox,q⟩
 .obtain⟨k,h1,h2⟩:=hb dT kV doc pm an cdv ct items us j hl.symm hj hlen;exact BindsTo.of_defaults rfl (X dT _ lt) rfl h1 h2
end
section
variable {X:Cx}{k:Nat}{x:Str}{ps:List Str}{sp:Sp}{p pos:Pos}{e:Expr}{es:List Expr}{t:TA}{dvs:List V}
theorem xW(j:Nat)(C:AN X.prog X.w X.K X.mg X.base k x ps dvs sp)(hr:dX k X.A)(hj:j<=dvs.length)(ha:PA X (e::es) t)(hg:Gl X x:=by rfl)(hdb:(x == ("__debug__":Str))=false:=by decide)(he:starEach (e::es) X.env=(false,eval e X.env)::starEach es X.env:=by rfl)
  (hpl:(backTo pos (starEach es X.env)).any (·.1)=false:=by rfl):PE X (.Call (.Name x p) (e::es) [] pos) (dY sp (dvs.drop j) E0 t):=by
 obtain⟨f,fd,F,hb,hk,hm⟩:=C.ex;obtain⟨ds,rv,hb⟩:=hb j hj;exact rY F hr hg hm hk hb rv uU ha hdb he hpl
theorem lc(bs:List Bool):(List.range bs.length).all (fun i=>bs.getD i false)=bs.all id:=by
 induction bs with
 | nil=>rfl
 | cons b bs ih=>rw [length_cons,range_succ_eq_map,all_cons,all_map,all_cons,<- ih];rfl
theorem lf(bs:List Bool):(List.range bs.length).any (fun i=>bs.getD i false)=bs.any id:=by
 induction bs with
 | nil=>rfl
 | cons b bs ih=>rw [length_cons,range_succ_eq_map,any_cons,any_map,any_cons,<- ih];rfl
theorem sK{bs:List Bool}{its:List Value}(r:bz (bs.map V.bl) its){i:Nat}{v:Value}(h:its.toArray[i]?=some v):v=.bool (bs.getD i false):=by
 have h':its[i]?=some v:=by simpa using h
 have hl:=r.length;rw [length_map] at hl;have hi:i<bs.length:=by have:=(List.getElem?_eq_some_iff.mp h').1;omega
 obtain⟨u,e1,e2⟩:=r.get (i:=i) (x:=V.bl bs[i]) (by rw [getElem?_map,getElem?_eq_getElem hi];rfl);rw [h'] at e1;cases e1;rw [show v=Value.bool bs[i] from e2,getD_eq_getElem?_getD,getElem?_eq_getElem hi];rfl
theorem u8(hc:X.calm=true):bP X (.builtin "all") (fun xs H Q=>∃(p:Addr) (bs:List Bool),xs=[.ref p]/\SqL X.K H p (bs.map V.bl)/\Q (.bl (bs.all id)) H):=by
 intro pins s σ H xs us Q I r h;obtain⟨p,bs,rfl,hS,q⟩:=h;obtain⟨u,rfl,ru⟩:=gu r;cases (show u=Value.ref p from ru);obtain⟨its,rv,pl,hz⟩:=I.list hS;have hl:=rv.length;rw [length_map] at hl;have hps:p<s.heap.objs.size:=let ⟨o,ho,_⟩:=pl.isList;Heap.lt_size ho
 obtain⟨f0,f1,f2,f3,f4,f5⟩:=I.fpOk (H':=H) (Nat.le_refl s.heap.objs.size) (I.hok.fresh (Nat.le_refl _))
 refine call_all_walk (wpAny_pyIter_list pl.isList ⟨s.heap.objs.size,_,_,its.toArray.size,_,_,fun i=>bs.getD i false,rfl,Walks.list (by exact I.ok.hd hc) s.heap.objs.size p (ne_of_lt hps) its.toArray,⟨⟨_,Heap.get?_push_size _ rfl,rfl,rfl⟩,pl.isList.push _⟩,fun i v s Q E hP hQ=>?_,fun h' tk hk=>?_⟩)
 .rw [sK rv hP];exact wpAny_truthy_bool hQ
 .have I1:Inv X pins σ H { s with heap:=s.heap.push { cls:=.type "list_iterator",data:=.fields #[.ref p,.int 0 0] } }:=I.kept (t':=s.toks) fun b o e=>Heap.get?_push_of_some _ e;have I2:=I1.turned (h':=h') (t':=tk) (it:=s.heap.objs.size) (fun b o hb e=>hk b o (by simpa using hb) e) f0 f1 f3 f4 f5;refine⟨.bl (bs.all id),H,I2,?_,q⟩;show Value.bool _=Value.bool _;rw [size_toArray,<- hl,lc]
theorem va(hc:X.calm=true):bP X (.builtin "any") (fun xs H Q=>∃(p:Addr) (bs:List Bool),xs=[.ref p]/\SqL X.K H p (bs.map V.bl)/\Q (.bl (bs.any id)) H):=by
 intro pins s σ H xs us Q I r h;obtain⟨p,bs,rfl,hS,q⟩:=h;obtain⟨u,rfl,ru⟩:=gu r;cases (show u=Value.ref p from ru);obtain⟨its,rv,pl,hz⟩:=I.list hS;have hl:=rv.length;rw [length_map] at hl;have hps:p<s.heap.objs.size:=let ⟨o,ho,_⟩:=pl.isList;Heap.lt_size ho
 obtain⟨f0,f1,f2,f3,f4,f5⟩:=I.fpOk (H':=H) (Nat.le_refl s.heap.objs.size) (I.hok.fresh (Nat.le_refl _))
 refine call_any_walk (wpAny_pyIter_list pl.isList ⟨s.heap.objs.size,_,_,its.toArray.size,_,_,fun i=>bs.getD i false,rfl,Walks.list (by exact I.ok.hd hc) s.heap.objs.size p (ne_of_lt hps) its.toArray,⟨⟨_,Heap.get?_push_size _ rfl,rfl,rfl⟩,pl.isList.push _⟩,fun i v s Q E hP hQ=>?_,fun h' tk hk=>?_⟩)
 .rw [sK rv hP];exact wpAny_truthy_bool hQ
 .have I1:Inv X pins σ H { s with heap:=s.heap.push { cls:=.type "list_iterator",data:=.fields #[.ref p,.int 0 0] } }:=I.kept (t':=s.toks) fun b o e=>Heap.get?_push_of_some _ e;have I2:=I1.turned (h':=h') (t':=tk) (it:=s.heap.objs.size) (fun b o hb e=>hk b o (by simpa using hb) e) f0 f1 f3 f4 f5;refine⟨.bl (bs.any id),H,I2,?_,q⟩;show Value.bool _=Value.bool _;rw [size_toArray,<- hl,lf]
end
section
variable {X:Cx}{o e f:Expr}{apos cpos:Pos}{td ty tx:TE}
theorem sL:bP X (.builtin "len") (fun xs H Q=>∃p kvs,xs=[.ref p]/\Rd H p (.dK kvs)/\Q (.int kvs.length) H):=by
 intro pins s σ H xs us Q I r h;obtain⟨p,kvs,rfl,hd,q⟩:=h;obtain⟨u,rfl,ru⟩:=gu r;cases (show u=Value.ref p from ru);exact CK I hd fun t s' I'=>⟨.int kvs.length,H,I',⟨t,rfl⟩,q⟩
end
def aQ(K:PySem.W.Frag)(x:Str):Addr:=match PySem.W.nsIn K mainGlobals x with
 | some (some (.ref C))=>C
 | _=>0
theorem lg{K:PySem.W.Frag}{x:Str}{C:Addr}(h:PySem.W.nsIn K mainGlobals x=some (some (.ref C))):aQ K x=C:=by unfold aQ;rw [h]
structure Cb (P:Program) (w:World) (K:PySem.W.Frag) (mg:Str->Option Value) (base:Heap) (k:Nat) (C:Addr) (m:Str) (ps:List Str) (sp:Sp):Prop where
 ex:∃(f:Addr) (fd:FuncData),jY P w K mg base CX0 k f fd ps sp/\gv K fd ps []/\Ca K C m f
structure AO (P:Program) (w:World) (K:PySem.W.Frag) (mg:Str->Option Value) (base:Heap) (k:Nat) (C:Addr) (x:Str) (ps:List Str) (sp:Sp):Prop where
 ex:∃(f:Addr) (fd:FuncData),jY P w K mg base CX0 k f fd ps sp/\gv K fd ps []/\Mk K C f/\mg x=some (.ref C)
structure pF (K:PySem.W.Frag) (C:Addr) (m qual:Str) (st:Stmt):Prop where
 ex:∃(f:Addr) (fd:FuncData),Fun K m qual st f fd/\Ca K C m f
structure pG (K:PySem.W.Frag) (mg:Str->Option Value) (C:Addr) (x qual:Str) (st:Stmt):Prop where
 ex:∃(f:Addr) (fd:FuncData),Fun K "__init__" qual st f fd/\Mk K C f/\mg x=some (.ref C)
section
variable {P:Program}{w:World}{K:PySem.W.Frag}{mg:Str->Option Value}{base:Heap}{x m qual:Str}{C:Addr}{st:Stmt}{N ps:List Str}{k:Nat}{sp:Sp}
theorem pF.ok(D:pF K C m qual st)(S:aJ N ps (ai st))
  (hb:∀(kV doc pm:Value) (an:Option Addr) (cdv ct:Value) (us:List Value),us.length=ps.length->bindArgs (PySem.W.fnOf m qual (bQ st) (bf st) (ai st) .none kV doc pm an cdv ct) ⟨us,[]⟩=pure (ps.zip us))
  (len:∀vs H Q E,sp vs H Q E->vs.length=ps.length)
  (hbody:∀(f:Addr) (cdv:Value) (A:Around) (outer:List Env) (s:Shared) (H:Hp) (vs:List V) (Q:VK) (E:XK),dX k (A.deeper (envOfC qual (ai st) s.heap.objs.size f cdv))->sp vs H Q E ->
   ∃t,PSs (nF CX0 P w K mg base N qual (ai st) f cdv A outer s H E).nox (bf st) t/\t { nx:=fun _ H'=>Q .non H',rt:=Q } (start N vs) H):Cb P w K mg base (k+1) C m ps sp:=by
 obtain⟨f,fd,F,hm⟩:=D.ex;exact⟨f,fd,F.ok S len fun cdv A outer s H vs Q E hr h=>hbody f cdv A outer s H vs Q E hr h,F.binds hb,hm⟩
theorem pG.ok(D:pG K mg C x qual st)(S:aJ N ps (ai st))
  (hb:∀(kV doc pm:Value) (an:Option Addr) (cdv ct:Value) (us:List Value),us.length=ps.length->bindArgs (PySem.W.fnOf "__init__" qual (bQ st) (bf st) (ai st) .none kV doc pm an cdv ct) ⟨us,[]⟩=pure (ps.zip us))
  (len:∀vs H Q E,sp vs H Q E->vs.length=ps.length)
  (hbody:∀(f:Addr) (cdv:Value) (A:Around) (outer:List Env) (s:Shared) (H:Hp) (vs:List V) (Q:VK) (E:XK),dX k (A.deeper (envOfC qual (ai st) s.heap.objs.size f cdv))->sp vs H Q E ->
   ∃t,PSs (nF CX0 P w K mg base N qual (ai st) f cdv A outer s H E).nox (bf st) t/\t { nx:=fun _ H'=>Q .non H',rt:=Q } (start N vs) H):AO P w K mg base (k+1) C x ps sp:=by
 obtain⟨f,fd,F,hm,e⟩:=D.ex;exact⟨f,fd,F.ok S len fun cdv A outer s H vs Q E hr h=>hbody f cdv A outer s H vs Q E hr h,F.binds hb,hm,e⟩
end
section
variable {X:Cx}{k:Nat}{x m:Str}{C:Addr}{ps:List Str}{sp:Sp}{p pos apos:Pos}{o e:Expr}{es:List Expr}{ta:TE}{t:TA}
theorem xX(M:AO X.prog X.w X.K X.mg X.base k C x ps sp)(hr:dX (k+1) X.A)(ha:PA X (e::es) t)(hg:Gl X x:=by rfl)(hdb:(x == ("__debug__":Str))=false:=by decide)(he:starEach (e::es) X.env=(false,eval e X.env)::starEach es X.env:=by rfl)
  (hpl:(backTo pos (starEach es X.env)).any (·.1)=false:=by rfl):PE X (.Call (.Name x p) (e::es) [] pos) (uN C sp [] E0 t):=by
 obtain⟨f,fd,F,hb,hk,hm⟩:=M.ex;exact xE hk F hr hg hm hb .nil uU ha hdb he hpl
theorem vc{pl:Sem Bool}(he:PE X o ta)(c:Cls X.K C)(M:Cb X.prog X.w X.K X.mg X.base k C m ps sp)(hr:dX k X.A)
  (ht:eval (.Call (.Attribute o m apos) [] [] pos) X.env=(do
   let ov <- eval o X.env
   standAt apos.atName
   let (f,first) <- holding [ov] (getMethod ov m pl)
   callWith pos f first (backTo pos (starEach [] X.env)) (backToKw pos (keywordEach [] X.env))):=by rfl) :
  PE X (.Call (.Attribute o m apos) [] [] pos) (xD C m sp [] E0 ta dN):=by
 obtain⟨f,fd,F,hb,hm⟩:=M.ex;exact uO (pl:=pl) he c hm F hr hb .nil uU ht
end
theorem sM{prog:Program}{w:World}{A:Around}(k:Bool)(hh:A.handled=none)(it a:Addr)(hne:a≠it)(its:Array Value) :
  Draws prog w A it [it,a] its.size (fun i v=>its[i]?=some v) (fun i h=>gB k h it a i/\jm k h a its) where
 live:=fun _ _ st=>let ⟨o,ho,_⟩:=st.1;⟨o,ho⟩
 frame:=fun _ _ _ st hk=>⟨st.1.mv fun o e=>hk it (by simp) o e,st.2.mv fun o e=>hk a (by simp) o e⟩
 item:=fun i s Q E hi st hQ=>by
  refine mf st.1 st.2 (x:=its[i]) (by simp [hi]) fun h' hit' hs'=>?_;exact hQ _ h' s.toks (by simp [hi]) ⟨hit',st.2.mv fun o e=>hs'.extBut _ o hne e⟩ hs'
 done:=fun s Q E st hE=>jn hh st.1 st.2 (by simp) hE
def Ite(k:Bool)(K:PySem.W.Frag)(a:Addr):It :=
  ⟨fun i H=>∃xs x,Sq k K H a xs/\xs[i]?=some x,
   fun i H p H'=>∃T x,H T=none/\p=.ref T/\(∀xs,Sq k K H a xs->xs[i]?=some x)/\H'=upd H T (.tup [.int (i:Int),x]),
   fun i H=>∃xs,Sq k K H a xs/\xs.length<=i⟩
theorem sN{P:Program}{w:World}{K:PySem.W.Frag}{es:List Expr}{ct:Nat}{tp:Pos}{k:Bool}{a e it:Addr}(hei:e≠it) :
  zA P w K (.Tuple es ct tp) (Ite k K a) [e,it] e (fun n h=>(∃old,IsEnum h e it ((n:Nat):Int) old)/\gB k h it a n) where
 mem:=by simp
 obj:=fun n h st b hb=>by
  obtain⟨⟨old,he⟩,o1,g1,c1,d1⟩:=st;simp only [mem_cons,not_mem_nil,or_false] at hb
  rcases hb with rfl|rfl
  .exact⟨_,he,fun v q=>by cases q⟩
  .exact⟨_,g1,fun v q=>by rw [d1] at q;cases q⟩
 keep:=fun n h h' st kk=>by
  obtain⟨⟨old,he⟩,w1⟩:=st;exact⟨⟨old,kk e (by simp) _ he⟩,w1.mv fun o q=>kk it (by simp) o q⟩
 item:=by
  intro X hP hw hK hc n pins s σ H E I hf st hg;subst hP hw hK;obtain⟨xs,x,q1,hx⟩:=hg;obtain⟨⟨old,he⟩,w1⟩:=st;obtain⟨its,rv,p,_⟩:=I.row q1;obtain⟨ux,hux,rx⟩:=rv.get hx;have ne:=I.row_ne q1 (hf e (by simp));have ni:=I.row_ne q1 (hf it (by simp))
  have hlt:n<its.toArray.size:=by
   have:=(List.getElem?_eq_some_iff.mp hux).1;simpa using this
  have hhd:X.A.in1.handled=none:=by exact I.ok.hd hc
  refine wpAny_pyNext_enum_itemD (sM k hhd it a ni its.toArray) he ⟨w1,p⟩ hlt hei (by simp [hei,Ne.symm ne]) fun y h' tk hP ho hst ht hsz hk=>?_
  have hy:y=ux:=by
   have h1:its[n]?=some y:=by simpa using hP
   rw [hux] at h1;exact (Option.some.inj h1).symm
  subst hy;refine⟨_,rfl,wpAny_letOwnedTupleGo_enum ho fun g ge gs=>?_⟩;have lt:∀{b o},s.heap.get? b=some o->s.heap.objs.size≠b:=fun q=>ne_of_gt (Heap.lt_size q)
  have kp:∀b o,b∉[e,it]->s.heap.get? b=some o->g.get? b=some o:=fun b o hb q=>by
   simp only [mem_cons,not_mem_nil,or_false,not_or] at hb;exact gs.extBut _ _ hb.1 (hk b o hb.1 hb.2 q)
  have I2:Inv X pins σ (upd H s.heap.objs.size (.tup [.int (n:Int),x])) { s with heap:=g,toks:=tk+1 }:=I.yielded (ch:=[e,it]) (fun b hb=>hf b hb) (Nat.le_refl _) kp
   ⟨by show 2<=sizeLine;decide,[.int (n:Int) tk,y],.cons ⟨tk,rfl⟩ (.cons rx .nil),_,gs.extBut _ _ (lt he) ht,rfl,_,rfl⟩
  refine⟨.ref s.heap.objs.size,_,I2,rfl,⟨_,x,I.hok.fresh (Nat.le_refl _),rfl,fun xs' q=>by rw [I.row_inj q q1];exact hx,rfl⟩,⟨⟨y,by simpa using ge⟩,hst.1.mv fun o q=>gs.extBut _ o (Ne.symm hei) q⟩,fun b hb=>?_⟩
  rw [aj ?_]
  .exact (hf b hb).1
  .intro q;subst q;simp only [mem_cons,not_mem_nil,or_false] at hb;obtain⟨o1,g1,_⟩:=w1
   rcases hb with q|q
   .exact lt he q
   .exact lt g1 q
 done:=by
  intro X hP hw hK hc n pins s σ H E I hf st hg;subst hP hw hK;obtain⟨xs,q1,hend⟩:=hg;obtain⟨⟨old,he⟩,w1⟩:=st;obtain⟨its,rv,p,_⟩:=I.row q1;have e1:=rv.length;have ni:=I.row_ne q1 (hf it (by simp));have hhd:X.A.in1.handled=none:=by exact I.ok.hd hc
  obtain⟨f0,f1,f2,f3,f4,f5⟩:=hf it (by simp)
  -- the walk's end is wherever the row has no item
  have hT:s.TypeIs (.ref e) "enumerate":=⟨_,he,rfl⟩
  unfold pyNext
  refine wpAny_bind (wpAny_attempt (wpAny_callSpecial?_slot (name:=Str.ofString "__next__") hT F.slot_enumerate_next
   (wpAny_call_entry F.slot_enumerate_next hT F.entry_enumerate_next ?_ (F.args_enumerate_next_1 _))))
  show wpAny _ _ (field (.ref e) 2 >>= _) _ _ _;refine wpAny_bind (wpAny_field he rfl (x:=.ref it) rfl ?_);refine wpAny_bind (jn hhd w1 p (by simp;omega) fun h' x he' hx'=>?_);obtain⟨o,ho,hcl⟩:=hx';refine wpAny_bind (wpAny_isInstance (T:="StopIteration") (b:=true) ⟨o,ho,hcl⟩ isSubtype_stop ?_);exact wpAny_pure ⟨rfl,I.turned (t':=s.toks) (fun b o hb q=>he' b o hb q) f0 f1 f3 f4 f5⟩
 self:=fun _ _ _ _ _ st h=>let ⟨⟨_,he⟩,_⟩:=st;wpAny_pyIter_enum he h
section
variable {P:Program}{w:World}{A:Around}{E:Value->Shared->Prop}{s:Shared}{k:Bool}
theorem vd(k:Bool)(a:Addr)(xs:Array Value):Meets (Builtin.«enumerate.__new__» ⟨[.type "enumerate",.ref a],[]⟩) (fun _ R s=>jm k s.heap a xs /\
   R (.ok (.ret (.ref (s.heap.push (nO k a)).objs.size))) { s with heap:=(s.heap.push (nO k a)).push { cls:=.type "enumerate",data:=.fields #[.none,.bool false,.ref s.heap.objs.size,rawInt 0,.none,.none] } }) :=
 .of_wp fun prog w A R s h=>by
  obtain⟨hp,g,d,tk,os⟩:=s;obtain⟨r1,h⟩:=h;have hsub:=sub_enumerate;have R1:jm k (Shared.heap ⟨hp,g,d,tk,os⟩) a xs:=r1;obtain⟨⟨cls,dd,data,sl⟩,ho,hc,n,hd⟩:=id r1;simp only at hc hd;subst hc hd
  wp_walk using AutoSeq1.wpAny_loadPart' ho
  refine wpAny_stack_any fun st=>wpAny_pure ?_
  split
  .rename_i c _ _ _ _ _
   cases (c == Value.type "enumerate")
   .wp_walk using AutoSeq1.wpAny_loadPart' ho,hU R1
    exact⟨_,rfl,h⟩
   .wp_walk using AutoSeq1.wpAny_loadPart' ho,hU R1
    exact⟨_,rfl,h⟩
  .wp_walk using AutoSeq1.wpAny_loadPart' ho,hU R1
   exact⟨_,rfl,h⟩
theorem ve{a:Addr}{xs:Array Value}{Q:Value->Shared->Prop}(r1:jm k s.heap a xs)
  (h:∀h',IsEnum h' (s.heap.objs.size+1) s.heap.objs.size 0 .none->gB k h' s.heap.objs.size a 0->(∀b o,s.heap.get? b=some o->h'.get? b=some o)->Q (.ref (s.heap.objs.size+1)) { s with heap:=h' }) :
  wpAny (model P w) A (call (.type "enumerate") [.ref a]) Q E s:=by
 refine callType_new F.called_enumerate (by decide) (F.typeCall_enumerate_1 _) (F.newCall_enumerate_1 _) (fun obj=>F.args_object_init_2 obj _) F.entry_enumerate_new (vd k a xs) ⟨r1,?_⟩;have z1:(s.heap.push (nO k a)).objs.size=s.heap.objs.size+1:=Heap.size_push ..;have g2:((s.heap.push (nO k a)).push { cls:=.type "enumerate",data:=.fields #[.none,.bool false,.ref s.heap.objs.size,rawInt 0,.none,.none] }).get? (s.heap.push (nO k a)).objs.size=some _:=Heap.get?_push_size _ rfl
 have g1:=Heap.get?_push_of_some { cls:=.type "enumerate",data:=.fields #[.none,.bool false,.ref s.heap.objs.size,rawInt 0,.none,.none] } (Heap.get?_push_size s.heap (o:=nO k a) rfl);show _/\_;rw [z1] at g2 ⊢;exact⟨⟨_,g2,rfl⟩,h _ g2 ⟨_,g1,rfl,rfl⟩ fun b o q=>Heap.get?_push_of_some _ (Heap.get?_push_of_some _ q)⟩
end
section
variable {X:Cx}{es:List Expr}{ct:Nat}{tp:Pos}
def xY(K:PySem.W.Frag)(ta:TA):TI:=fun σ H R=>ta σ H fun vs H1=>∃k a,vs=[.ref a]/\(∃xs,Sq k K H1 a xs)/\R (Ite k K a) H1
theorem xZ{a:Expr}{ta:TA}{p pos:Pos}(hg:Gl X "enumerate")(hm:X.mg "enumerate"=none)(ha:PA X [a] ta)(hs:starEach [a] X.env=[(false,eval a X.env)]:=by rfl) :
  PI X (.Tuple es ct tp) (.Call (.Name "enumerate" p) [a] [] pos) (xY X.K ta):=by
 intro pins s σ H R I h;refine Call_ (fO I hg hm boot_enumerate (PyProof.Rows.callWith_type1 (thn (ha pos pins s σ H _ I h) fun us s1 ⟨vs,H1,I1,r1,q1⟩=>?_) hs rfl));obtain⟨k,a,e,⟨xs,q1⟩,q⟩:=q1;subst e
 cases r1 with
 | cons r rr =>
  cases rr;cases r;obtain⟨its,rv,p,_⟩:=I1.row q1;refine ve p fun h' g1 g2 kk=>wpAny_pyIter_enum g1 ?_;have I2:Inv X pins σ H1 { s1 with heap:=h',toks:=s1.toks }:=I1.kept kk;refine⟨s1.heap.objs.size+1,[s1.heap.objs.size+1,s1.heap.objs.size],_,_,H1,rfl,I2,sN (k:=k) (a:=a) (it:=s1.heap.objs.size) (ne_of_gt (lt_succ_self _)),⟨⟨_,g1⟩,g2⟩,fun b hb=>?_,q⟩
  have hle:s1.heap.objs.size<=b:=by
   simp only [mem_cons,not_mem_nil,or_false] at hb
   rcases hb with e|e
   .rw [e];exact le_add_right _ _
   .rw [e];exact Nat.le_refl _
  exact I1.fpOk hle (I1.hok.fresh hle)
end
section
variable {X:Cx}
theorem sO(hc:X.calm=true):bP X (.builtin "min") (fun xs H Q=>∃(p:Addr) (ns:List Int),xs=[.ref p]/\SqL X.K H p (ns.map V.int)/\0<ns.length/\∀m:Int,m∈ns->(∀a∈ns,m<=a)->Q (.int m) H):=by
 intro pins s σ H xs us Q I r h;obtain⟨p,ns,rfl,hS,hne,q⟩:=h;obtain⟨u,rfl,ru⟩:=gu r;cases (show u=Value.ref p from ru);obtain⟨its,rv,pl,hz⟩:=I.list hS;have hi:=fA rv;have hl:=pl.isList;obtain⟨ys,e⟩:=hi.allInts.items;have hns:ns=ys.toList.map (·.1):=by rw [<- hi.numsOf,<- nums_intItems,<- e]
 have hsz:0<ys.size:=by
  have h3:=hne;rw [hns,length_map,Array.length_toList] at h3;exact h3
 rw [e] at hl;refine min_intList (by exact I.ok.hd hc) hl hsz fun v h' tk hv hk=>?_;obtain⟨t,rfl⟩:=intItems_at hv;obtain⟨h1,h2⟩:=argBest_lt (numAt ys) (ys.size - 1)
 refine⟨.int _,H,I.kept (t':=tk) hk,⟨t,rfl⟩,q _ ?_ fun a ha=>?_⟩
 .rw [hns,numAt_eq];exact getD_mem (by rw [length_map,Array.length_toList];omega)
 .rw [hns] at ha;obtain⟨j,hj,rfl⟩:=mem_getD ha;rw [length_map,Array.length_toList] at hj;rw [<- numAt_eq];exact h2 j (by omega)
theorem kr(ns:List Int):∀k,k<=ns.length->preSum (fun i=>ns.getD i 0) k=(ns.take k).sum
 | 0,_=>rfl
 | k+1,h=>by
  rw [preSum,kr ns k (by omega),take_add_one,getElem?_eq_getElem (by omega),sum_append,getD_eq_getElem?_getD,getElem?_eq_getElem (by omega)];simp
theorem sP(hc:X.calm=true):bP X (.builtin "sum") (fun xs H Q=>∃(p:Addr) (ns:List Int),xs=[.ref p]/\SqL X.K H p (ns.map V.int)/\Q (.int ns.sum) H):=by
 intro pins s σ H xs us Q I r h;obtain⟨p,ns,rfl,hS,q⟩:=h;obtain⟨u,rfl,ru⟩:=gu r;cases (show u=Value.ref p from ru);obtain⟨its,rv,pl,hz⟩:=I.list hS;have hi:=fA rv;have hl:=pl.isList;obtain⟨ys,e⟩:=hi.allInts.items;have hns:ns=ys.toList.map (·.1):=by rw [<- hi.numsOf,<- nums_intItems,<- e]
 rw [e] at hl;refine sum_intListG (by exact I.ok.hd hc) hl fun h' tk t' hk=>⟨.int ns.sum,H,I.kept (t':=tk) hk,⟨t',?_⟩,q⟩
 have hlen:ys.size=ns.length:=by rw [hns,length_map,Array.length_toList]
 have hnum:numAt ys=fun i=>ns.getD i 0:=by
  funext i;rw [numAt_eq,hns]
 rw [hnum,hlen,kr ns ns.length (Nat.le_refl _),take_length]
end
section
variable {X:Cx}{e:Expr}{ta:TE}{f:Str}{pos:Pos}
theorem de(K:PySem.W.Frag)(eK:X.K=K)(he:PE X e ta)(hb:attributeBase e f X.env (eval e X.env)=eval e X.env):PE X (.Attribute e f pos) (rV K ta f):=eK ▸ Ak he hb
def CL(K:PySem.W.Frag):List V->Hp->VK->Prop:=fun xs H Q=>∃p ys,xs=[.ref p]/\SqL K H p ys/\Q (.int ys.length) H
def CM(K:PySem.W.Frag):List V->Hp->VK->Prop:=fun xs H Q=>∃p ys,xs=[.ref p]/\SqT K H p ys/\Q (.int ys.length) H
def DX(K:PySem.W.Frag):List V->Hp->VK->Prop:=fun xs H Q=>∃x n t b,xs=[x,.ty n]/\nE K H x t/\PySem.W.kitOne K t (.type n)=some b/\Q (.bl b) H
def sQ(K:PySem.W.Frag):List V->Hp->VK->Prop:=fun xs H Q=>∃p ys,xs=[.ref p]/\(SqL K H p ys\/SqT K H p ys)/\∀l,H l=none->Q (.ref l) (upd H l (.lst ys))
end
section
variable {X:Cx}{o e:Expr}{es:List Expr}{to:TE}{t:TA}{name:Str}{apos cpos:Pos}{T id:String}{r:V->List V->Hp->VK->Prop}
theorem e8(K:PySem.W.Frag)(eK:X.K=K)(pa:PlainAttrs T)(slot:Slot T name id)(hty:typeOf (.builtin id)=pure (.type "method_descriptor"))(hm:MtR X id r)(ho:PE X o to)(ha:PA X (e::es) t)
  (hbase:attributeBase o name X.env (eval o X.env)=eval o X.env:=by rfl)
  (hfew:((backTo cpos (starEach (e::es) X.env)).all (fun x=>!x.1) && (backToKw cpos (keywordEach [] X.env)).all (fun x=>x.1.isSome)
   && decide ((e::es).length+([]:List Keyword).length+(if ([]:List Keyword).isEmpty then 0 else 1)<30))=true:=by rfl)
  (hline:(apos.endLine == cpos.line)=true:=by rfl) (hs:starEach (e::es) X.env=(false,eval e X.env)::starEach es X.env:=by rfl) (hplain:(backTo cpos (starEach es X.env)).any (·.1)=false:=by rfl) :
  PE X (.Call (.Attribute o name apos) (e::es) [] cpos) (tBM K T r to t):=eK ▸ CB pa slot hty hm ho ha hbase hfew hline hs hplain
end
def fN(c:Bool)(A B:Prop):Prop:=match c with|true=>A|false=>B
theorem zC{c:Bool}{A B:Prop}(h1:c=true->A)(h2:c=false->B):fN c A B:=by
 cases c with
 | true=>exact h1 rfl
 | false=>exact h2 rfl
theorem ej{p:Prop}[Decidable p]{A B:Prop}(h1:p->A)(h2:¬ p->B):fN (decide p) A B:=zC (fun h=>h1 (of_decide_eq_true h)) (fun h=>h2 (of_decide_eq_false h))
theorem qE{p:Prop}[Decidable p]{A B:Prop}(h1:¬ p->A)(h2:p->B):fN (!decide p) A B:=zC (fun h=>h1 fun z=>by rw [decide_eq_true z] at h;cases h) (fun h=>h2 (by
 by_cases z:p
 .exact z
 .rw [decide_eq_false z] at h;cases h))
theorem CN{p:Prop}[Decidable p]{A B:Prop}(h:p)(hA:A):fN (decide p) A B:=ej (fun _=>hA) (fun z=>absurd h z)
theorem CO{p:Prop}[Decidable p]{A B:Prop}(h:¬ p)(hB:B):fN (decide p) A B:=ej (fun z=>absurd z h) (fun _=>hB)
theorem AQ{p:Prop}[Decidable p]{A B:Prop}(h:¬ p)(hA:A):fN (!decide p) A B:=qE (fun _=>hA) (fun z=>absurd z h)
theorem AR{p:Prop}[Decidable p]{A B:Prop}(h:p)(hB:B):fN (!decide p) A B:=qE (fun z=>absurd h z) (fun _=>hB)
theorem lh{c:Bool}{A B:Prop}(h:fN c B A):fN (!c) A B:=by
 cases c <;> exact h
theorem Ej{c:Bool}{A B:Prop}(h:c=true)(hA:A):fN c A B:=by subst h;exact hA
theorem Ek{c:Bool}{A B:Prop}(h:c=false)(hB:B):fN c A B:=by subst h;exact hB
theorem CP{c:Bool}{A B:Prop}(h:c=false)(hA:A):fN (!c) A B:=by subst h;exact hA
theorem x0{c:Bool}{A B:Prop}(h:c=true)(hB:B):fN (!c) A B:=by subst h;exact hB
inductive D where
 | non|bl (b:Bool)|int (i:Int)|str (l:List Nat)|ty (n:String)
 | lst (ds:List D)|tup (ds:List D)|scr (ns:List Int)|dic (ks:List Key) (ds:List D)|obj (c:Str) (ns:List Str) (ds:List D)|exc (c:Str) (ns:List Str) (ds:List D)
def XAt(x C:Addr)(dd:Option Addr)(new:Bool)(h:Heap):Prop:=∃o vs,h.get? x=some o/\o.cls=.ref C/\o.dict=dd/\o.data=.fields vs/\1<vs.size/\(new=true->vs[1]?=some .none)
def eo(A:Addr->Prop)(a:Addr):Addr->Prop:=fun b=>A b\/b=a
def zD(K:PySem.W.Frag)(O:Addr->Prop)(H:Hp)(a:Addr)(xs:List V):Prop :=
 (¬ O a/\Rd H a (.lst xs))\/∃(o:Obj) (its:Array Value) (n:Nat),K.lookup a=some o/\o.cls=.type "list"/\o.dict=none/\o.data=.seq its n/\its.size<=sizeLine/\bz xs its.toList
theorem zD.sq{K:PySem.W.Frag}{O:Addr->Prop}{H:Hp}{a:Addr}{xs:List V}(h:zD K O H a xs):SqL K H a xs:=h.elim (fun z=>.inl z.2) .inr
def aK(O:Addr->Prop)(H:Hp)(O':Addr->Prop)(H':Hp):Prop:=∀b o,¬ O b->H b=some o->¬ O' b/\H' b=some o
theorem Rd.keeps{O O':Addr->Prop}{H H':Hp}{a:Addr}{u:HO}(k:aK O H O' H')(n:¬ O a)(r:Rd H a u):¬ O' a/\Rd H' a u:=by
 rcases r with e|⟨o,e⟩
 .exact⟨(k _ _ n e).1,.inl (k _ _ n e).2⟩
 .exact⟨(k _ _ n e).1,.inr ⟨o,(k _ _ n e).2⟩⟩
theorem zD.keeps{K:PySem.W.Frag}{O O':Addr->Prop}{H H':Hp}{a:Addr}{xs:List V}(k:aK O H O' H')(h:zD K O H a xs):zD K O' H' a xs:=by
 rcases h with ⟨n,r⟩|r
 .exact .inl (r.keeps k n)
 .exact .inr r
mutual
inductive FV (K:PySem.W.Frag) (O:Addr->Prop) (H:Hp):V->D->Prop
 | non:FV K O H .non .non
 | bl (b:Bool):FV K O H (.bl b) (.bl b)
 | int (i:Int):FV K O H (.int i) (.int i)
 | str (l:List Nat):l.length<=1000000->FV K O H (.str (S l)) (.str l)
 | ty (n:String):FV K O H (.ty n) (.ty n)
 | scr {a:Addr}{ns:List Int}:zD K O H a (ns.map V.int)->FV K O H (.ref a) (.scr ns)
 | lst {a:Addr}{xs:List V}{ds:List D}:¬ O a->H a=some (.lst xs)->FVs K O H xs ds->FV K O H (.ref a) (.lst ds)
 | tup {a:Addr}{xs:List V}{ds:List D}:¬ O a->H a=some (.tup xs)->FVs K O H xs ds->FV K O H (.ref a) (.tup ds)
 | dic {a:Addr}{kvs:List (Key×V)}{ks:List Key}{ds:List D}:¬ O a->H a=some (.dK kvs)->kvs.map Prod.fst=ks->FVs K O H (kvs.map Prod.snd) ds->FV K O H (.ref a) (.dic ks ds)
 | obj {a dx:Addr}{c:Str}{fs:List (Str×V)}{ns:List Str}{ds:List D}:¬ O a->H a=some (.ins (aQ K c) dx fs)->fs.map Prod.fst=ns->FVs K O H (fs.map Prod.snd) ds->FV K O H (.ref a) (.obj c ns ds)
 | exc0 {a:Addr}{c:Str}{new:Bool}:¬ O a->H a=some (.ext (XAt a (aQ K c) none new))->FV K O H (.ref a) (.exc c [] [])
 | exc1 {a dx:Addr}{c:Str}{new:Bool}{fs:List (Str×V)}{ns:List Str}{ds:List D}:¬ O a->¬ O dx->H a=some (.ext (XAt a (aQ K c) (some dx) new))->H dx=some (.xd fs)->fs.map Prod.fst=ns->FVs K O H (fs.map Prod.snd) ds->FV K O H (.ref a) (.exc c ns ds)
inductive FVs (K:PySem.W.Frag) (O:Addr->Prop) (H:Hp):List V->List D->Prop
 | nil:FVs K O H [] []
 | cons {x:V}{d:D}{xs:List V}{ds:List D}:FV K O H x d->FVs K O H xs ds->FVs K O H (x::xs) (d::ds)
end
section
variable {K:PySem.W.Frag}{O O':Addr->Prop}{H H':Hp}
mutual
theorem FV.keeps(k:aK O H O' H'):∀{v:V}{d:D},FV K O H v d->FV K O' H' v d
 | _,_,.non=>.non
 | _,_,.bl b=>.bl b
 | _,_,.int i=>.int i
 | _,_,.str l h=>.str l h
 | _,_,.ty n=>.ty n
 | _,_,.scr s=>.scr (s.keeps k)
 | _,_,.lst n e f=>.lst (k _ _ n e).1 (k _ _ n e).2 (FVs.keeps k f)
 | _,_,.tup n e f=>.tup (k _ _ n e).1 (k _ _ n e).2 (FVs.keeps k f)
 | _,_,.dic n e m f=>.dic (k _ _ n e).1 (k _ _ n e).2 m (FVs.keeps k f)
 | _,_,.obj n e m f=>.obj (k _ _ n e).1 (k _ _ n e).2 m (FVs.keeps k f)
 | _,_,.exc0 n e=>.exc0 (k _ _ n e).1 (k _ _ n e).2
 | _,_,.exc1 n n2 e e2 m f=>.exc1 (k _ _ n e).1 (k _ _ n2 e2).1 (k _ _ n e).2 (k _ _ n2 e2).2 m (FVs.keeps k f)
theorem FVs.keeps(k:aK O H O' H'):∀{vs:List V}{ds:List D},FVs K O H vs ds->FVs K O' H' vs ds
 | _,_,.nil=>.nil
 | _,_,.cons a b=>.cons (FV.keeps k a) (FVs.keeps k b)
end
theorem FVs.length:∀{vs:List V}{ds:List D},FVs K O H vs ds->vs.length=ds.length
 | _,_,.nil=>rfl
 | _,_,.cons _ b=>by rw [length_cons,length_cons,b.length]
theorem FVs.get:∀{vs:List V}{ds:List D}{i:Nat}{v:V},FVs K O H vs ds->vs[i]?=some v->∃d,ds[i]?=some d/\FV K O H v d
 | _,_,0,_,.cons a _,e=>by simp at e;subst e;exact⟨_,rfl,a⟩
 | _,_,i+1,v,.cons _ b,e=>by
  obtain⟨d,h1,h2⟩:=b.get (i:=i) (v:=v) (by simpa using e);exact⟨d,by simpa using h1,h2⟩
theorem FVs.getD:∀{vs:List V}{ds:List D}{i:Nat}{d:D},FVs K O H vs ds->ds[i]?=some d->∃v,vs[i]?=some v/\FV K O H v d
 | _,_,0,_,.cons a _,e=>by simp at e;subst e;exact⟨_,rfl,a⟩
 | _,_,i+1,v,.cons _ b,e=>by
  obtain⟨d,h1,h2⟩:=b.getD (i:=i) (d:=v) (by simpa using e);exact⟨d,by simpa using h1,h2⟩
theorem FVs.append:∀{vs ws:List V}{ds es:List D},FVs K O H vs ds->FVs K O H ws es->FVs K O H (vs++ws) (ds++es)
 | _,_,_,_,.nil,s=>s
 | _,_,_,_,.cons a b,s=>.cons a (b.append s)
theorem FVs.set{v:V}{d:D}(f:FV K O H v d):∀{vs:List V}{ds:List D} (i:Nat),FVs K O H vs ds->FVs K O H (vs.set i v) (ds.set i d)
 | _,_,_,.nil=>.nil
 | _,_,0,.cons _ t=>.cons f t
 | _,_,i+1,.cons q t=>.cons q (FVs.set f i t)
theorem FVs.take:∀{vs:List V}{ds:List D} (n:Nat),FVs K O H vs ds->FVs K O H (vs.take n) (ds.take n)
 | _,_,0,_=>.nil
 | _,_,_+1,.nil=>.nil
 | _,_,n+1,.cons r t=>.cons r (t.take n)
theorem FVs.drop:∀{vs:List V}{ds:List D} (n:Nat),FVs K O H vs ds->FVs K O H (vs.drop n) (ds.drop n)
 | _,_,0,r=>r
 | _,_,_+1,.nil=>.nil
 | _,_,n+1,.cons _ t=>t.drop n
theorem FVs.reverse:∀{vs:List V}{ds:List D},FVs K O H vs ds->FVs K O H vs.reverse ds.reverse
 | _,_,.nil=>.nil
 | _,_,.cons r t=>by rw [reverse_cons,reverse_cons];exact t.reverse.append (.cons r .nil)
theorem FVs.ints:∀{vs:List V}{ns:List Int},FVs K O H vs (ns.map D.int)->vs=ns.map V.int
 | _,[],.nil=>rfl
 | _,n::r,h=>by
  cases h with
  | cons a b=>cases a;rw [FVs.ints b];rfl
theorem FVs.of_ints:∀ns:List Int,FVs K O H (ns.map V.int) (ns.map D.int)
 | []=>.nil
 | n::r=>.cons (.int n) (FVs.of_ints r)
theorem FVs.bls:∀{vs:List V}{bs:List Bool},FVs K O H vs (bs.map D.bl)->vs=bs.map V.bl
 | _,[],.nil=>rfl
 | _,n::r,h=>by
  cases h with
  | cons a b=>cases a;rw [FVs.bls b];rfl
end
inductive PV where
 | dat (d:D)|own (ds:List D)|ins (c:Str) (ns:List Str) (ds:List D)
def PV.isOwn:PV->Bool
 | .dat _=>false
 | _=>true
def PV.d:PV->D
 | .dat d=>d
 | .own ds=>.lst ds
 | .ins c ns ds=>.obj c ns ds
abbrev PSt:=List (Option PV)
def Wr(ρ:PSt)(σ:St)(b:Addr):Prop:=∃(i:Nat) (p:PV),ρ[i]?=some (some p)/\p.isOwn=true/\σ[i]?=some (some (.ref b))
def OO(A:Addr->Prop)(ρ:PSt)(σ:St)(b:Addr):Prop:=A b\/Wr ρ σ b
def RS(K:PySem.W.Frag)(O:Addr->Prop)(H:Hp):PV->V->Prop
 | .dat d,v=>FV K O H v d
 | .own ds,v=>∃a xs,v=.ref a/\H a=some (.lst xs)/\FVs K O H xs ds
 | .ins c ns ds,v=>∃a dx fs,v=.ref a/\H a=some (.ins (aQ K c) dx fs)/\fs.map Prod.fst=ns/\FVs K O H (fs.map Prod.snd) ds
structure Rel (K:PySem.W.Frag) (A:Addr->Prop) (ρ:PSt) (σ:St) (H:Hp):Prop where
 len:ρ.length=σ.length
 get:∀(i:Nat) (p:PV),ρ[i]?=some (some p)->∃v,σ[i]?=some (some v)/\RS K (OO A ρ σ) H p v
 dj:∀(i j:Nat) (p q:PV) (v:V),ρ[i]?=some (some p)->ρ[j]?=some (some q)->p.isOwn=true->q.isOwn=true->σ[i]?=some (some v)->σ[j]?=some (some v)->i=j
 dom:∀b,A b->H b≠none
 sep:∀b,A b->¬ Wr ρ σ b
structure Fr (ρ:PSt) (σ:St) (H:Hp) (ρ':PSt) (H':Hp):Prop where
 kp:∀b o,¬ Wr ρ σ b->H b=some o->H' b=some o
 dm:∀b,H b≠none->H' b≠none
 ow:∀b,Wr ρ' σ b->Wr ρ σ b
theorem Fr.refl(ρ:PSt)(σ:St)(H:Hp):Fr ρ σ H ρ H:=⟨fun _ _ _ h=>h,fun _ h=>h,fun _ h=>h⟩
theorem Fr.trans{ρ ρ1 ρ2:PSt}{σ:St}{H H1 H2:Hp}(a:Fr ρ σ H ρ1 H1)(b:Fr ρ1 σ H1 ρ2 H2):Fr ρ σ H ρ2 H2 :=
 ⟨fun c o n h=>b.kp c o (fun z=>n (a.ow c z)) (a.kp c o n h),fun c h=>b.dm c (a.dm c h),fun c h=>a.ow c (b.ow c h)⟩
theorem Fr.keeps{ρ ρ':PSt}{σ:St}{H H':Hp}{A:Addr->Prop}(f:Fr ρ σ H ρ' H'):aK (OO A ρ σ) H (OO A ρ' σ) H':=fun b o n h =>
 ⟨fun z=>z.elim (fun z=>n (.inl z)) (fun z=>n (.inr (f.ow b z))),f.kp b o (fun z=>n (.inr z)) h⟩
theorem Fr.new{ρ:PSt}{σ:St}{H:Hp}{p:Addr}{o:HO}(h:H p=none):Fr ρ σ H ρ (upd H p o) :=
 ⟨fun b u _ e=>by rw [aj (aN e h)];exact e,fun b e=>by
  by_cases z:b=p
  .rw [z,aA];exact nofun
  .rw [aj z];exact e,fun _ h=>h⟩
theorem aK.fresh{O:Addr->Prop}{H:Hp}{p:Addr}{o:HO}(h:H p=none):aK O H (eo O p) (upd H p o):=fun b u n e =>
 ⟨fun z=>z.elim n (fun z=>by rw [z,h] at e;cases e),by rw [aj (aN e h)];exact e⟩
theorem aK.less{O O':Addr->Prop}{H:Hp}(h:∀b,O' b->O b):aK O H O' H:=fun b o n e=>⟨fun z=>n (h b z),e⟩
theorem RS.keeps{K:PySem.W.Frag}{O O':Addr->Prop}{H H':Hp}{p:PV}{v:V}(k:aK O H O' H')(w:p.isOwn=true->∀a,v=.ref a->H' a=H a)(h:RS K O H p v):RS K O' H' p v:=by
 cases p with
 | dat d=>exact FV.keeps k h
 | own ds =>
  obtain⟨a,xs,e,g,f⟩:=h;exact⟨a,xs,e,by rw [w rfl a e];exact g,f.keeps k⟩
 | ins c ns ds =>
  obtain⟨a,dx,fs,e,g,m,f⟩:=h;exact⟨a,dx,fs,e,by rw [w rfl a e];exact g,m,f.keeps k⟩
theorem RS.ref{K:PySem.W.Frag}{O:Addr->Prop}{H:Hp}{p:PV}{v:V}(h:RS K O H p v)(o:p.isOwn=true):∃a u,v=.ref a/\H a=some u:=by
 cases p with
 | dat d=>cases o
 | own ds=>obtain⟨a,xs,e,g,f⟩:=h;exact⟨a,_,e,g⟩
 | ins c ns ds=>obtain⟨a,dx,fs,e,g,m,f⟩:=h;exact⟨a,_,e,g⟩
theorem Rel.wr{K:PySem.W.Frag}{A:Addr->Prop}{ρ:PSt}{σ:St}{H:Hp}(R:Rel K A ρ σ H){b:Addr}(h:Wr ρ σ b):H b≠none:=by
 obtain⟨i,p,e,o,s⟩:=h;obtain⟨v,s',r⟩:=R.get i p e;rw [s] at s';cases s';obtain⟨a,u,e1,e2⟩:=r.ref o;cases e1;rw [e2];exact nofun
theorem Rel.oo{K:PySem.W.Frag}{A:Addr->Prop}{ρ:PSt}{σ:St}{H:Hp}(R:Rel K A ρ σ H){b:Addr}(h:H b=none):¬ OO A ρ σ b:=fun z=>z.elim (fun z=>R.dom b z h) (fun z=>R.wr z h)
theorem Rel.grow{K:PySem.W.Frag}{A:Addr->Prop}{ρ:PSt}{σ:St}{H:Hp}(R:Rel K A ρ σ H){p:Addr}{o:HO}(h:H p=none):Rel K A ρ σ (upd H p o):=by
 have k:aK (OO A ρ σ) H (OO A ρ σ) (upd H p o):=Fr.keeps (Fr.new h);refine⟨R.len,fun i q e=>?_,R.dj,fun b z=>(Fr.new (ρ:=ρ) (σ:=σ) h).dm b (R.dom b z),R.sep⟩;obtain⟨v,s,r⟩:=R.get i q e;refine⟨v,s,r.keeps k fun ow a ea=>?_⟩;obtain⟨a',u,e1,e2⟩:=r.ref ow;rw [ea] at e1;cases e1;rw [aj (aN e2 h)]
theorem Rel.less{K:PySem.W.Frag}{A A':Addr->Prop}{ρ:PSt}{σ:St}{H:Hp}(R:Rel K A ρ σ H)(h:∀b,A' b->A b):Rel K A' ρ σ H:=by
 refine⟨R.len,fun i q e=>?_,R.dj,fun b z=>R.dom b (h b z),fun b z=>R.sep b (h b z)⟩;obtain⟨v,s,r⟩:=R.get i q e;exact⟨v,s,r.keeps (aK.less fun b z=>z.imp (h b) id) fun _ _ _=>rfl⟩
theorem Rel.write{K:PySem.W.Frag}{A:Addr->Prop}{ρ:PSt}{σ:St}{H:Hp}(R:Rel K A ρ σ H){i:Nat}{p q:PV}{a:Addr}{o:HO}(e:ρ[i]?=some (some p))(ow:p.isOwn=true)(ow':q.isOwn=true)(es:σ[i]?=some (some (.ref a)))
  (new:RS K (OO A ρ σ) (upd H a o) q (.ref a)):Rel K A (ρ.set i (some q)) σ (upd H a o)/\Fr ρ σ H (ρ.set i (some q)) (upd H a o):=by
 have hi:i<ρ.length:=(List.getElem?_eq_some_iff.mp e).1;have wa:Wr ρ σ a:=⟨i,p,e,ow,es⟩
 have weq:∀b,Wr (ρ.set i (some q)) σ b ↔ Wr ρ σ b:=fun b=>by
  constructor
  .rintro⟨j,r,e1,o1,s1⟩
   by_cases z:i=j
   .subst z;exact⟨i,p,e,ow,s1⟩
   .rw [getElem?_set_ne z] at e1;exact⟨j,r,e1,o1,s1⟩
  .rintro⟨j,r,e1,o1,s1⟩
   by_cases z:i=j
   .subst z;exact⟨i,q,getElem?_set_self hi,ow',s1⟩
   .exact⟨j,r,by rw [getElem?_set_ne z];exact e1,o1,s1⟩
 have oeq:OO A (ρ.set i (some q)) σ=OO A ρ σ:=funext fun b=>propext (or_congr Iff.rfl (weq b));have kp:∀b u,¬ Wr ρ σ b->H b=some u->upd H a o b=some u:=fun b u n h=>by rw [aj (fun z=>n (by rw [z];exact wa))];exact h
 have k:aK (OO A ρ σ) H (OO A ρ σ) (upd H a o):=fun b u n h=>⟨n,kp b u (fun z=>n (.inr z)) h⟩
 have dm:∀b,H b≠none->upd H a o b≠none:=fun b n=>by
  by_cases z:b=a
  .rw [z,aA];exact nofun
  .rw [aj z];exact n
 refine⟨⟨by rw [length_set];exact R.len,fun j r e1=>?_,fun j l p1 q1 v e1 e2 o1 o2 s1 s2=>?_,fun b z=>dm b (R.dom b z),fun b z w=>R.sep b z ((weq b).mp w)⟩,⟨kp,dm,fun b w=>(weq b).mp w⟩⟩
 .rw [oeq]
  by_cases z:i=j
  .subst z;rw [getElem?_set_self hi] at e1;cases e1;exact⟨_,es,new⟩
  .rw [getElem?_set_ne z] at e1;obtain⟨v,s,rr⟩:=R.get j r e1;refine⟨v,s,rr.keeps k fun ow2 b eb=>?_⟩;rw [aj];intro zz;subst zz;rw [eb] at s;exact z (R.dj i j p r _ e e1 ow ow2 es s)
 .have ex:∀(m:Nat) (x:PV),(ρ.set i (some q))[m]?=some (some x)->x.isOwn=true->∃y:PV,ρ[m]?=some (some y)/\y.isOwn=true:=fun m x em ox=>by
   by_cases z:i=m
   .subst z;exact⟨p,e,ow⟩
   .rw [getElem?_set_ne z] at em;exact⟨x,em,ox⟩
  obtain⟨y1,h1,h2⟩:=ex j p1 e1 o1;obtain⟨y2,h3,h4⟩:=ex l q1 e2 o2;exact R.dj j l y1 y2 v h1 h3 h2 h4 s1 s2
theorem Rel.frz{K:PySem.W.Frag}{A:Addr->Prop}{ρ:PSt}{σ:St}{H:Hp}(R:Rel K A ρ σ H){i:Nat}{p:PV}(e:ρ[i]?=some (some p)) :
  Rel K A (ρ.set i (some (.dat p.d))) σ H/\Fr ρ σ H (ρ.set i (some (.dat p.d))) H:=by
 have hi:i<ρ.length:=(List.getElem?_eq_some_iff.mp e).1
 have ex:∀(m:Nat) (x:PV),(ρ.set i (some (.dat p.d)))[m]?=some (some x)->x.isOwn=true->m≠i/\ρ[m]?=some (some x):=fun m x em ox=>by
  by_cases z:i=m
  .subst z;rw [getElem?_set_self hi] at em;cases em;cases ox
  .rw [getElem?_set_ne z] at em;exact⟨fun q=>z q.symm,em⟩
 have ow:∀b,Wr (ρ.set i (some (.dat p.d))) σ b->Wr ρ σ b:=fun b ⟨j,r,e1,o1,s1⟩=>⟨j,r,(ex j r e1 o1).2,o1,s1⟩
 have k:aK (OO A ρ σ) H (OO A (ρ.set i (some (.dat p.d))) σ) H:=aK.less fun b z=>z.imp id (ow b);refine⟨⟨by rw [length_set];exact R.len,fun j r e1=>?_,fun j l p1 q1 v e1 e2 o1 o2 s1 s2=>R.dj j l p1 q1 v (ex j p1 e1 o1).2 (ex l q1 e2 o2).2 o1 o2 s1 s2,R.dom,fun b z w=>R.sep b z (ow b w)⟩,⟨fun _ _ _ h=>h,fun _ h=>h,ow⟩⟩
 by_cases z:i=j
 .subst z;rw [getElem?_set_self hi] at e1;cases e1;obtain⟨v,s,r⟩:=R.get i p e;refine⟨v,s,?_⟩
  have na:∀a,v=.ref a->p.isOwn=true->¬ OO A (ρ.set i (some (.dat p.d))) σ a:=fun a ea oo z=>by
   subst ea
   rcases z with z|⟨j,r,e1,o1,s1⟩
   .exact R.sep a z ⟨i,p,e,oo,s⟩
   .obtain⟨n1,n2⟩:=ex j r e1 o1;exact n1 (R.dj j i r p _ n2 e o1 oo s1 s)
  cases p with
  | dat d=>exact FV.keeps k r
  | own ds =>
   obtain⟨a,xs,rfl,g,f⟩:=r;exact .lst (na a rfl rfl) g (f.keeps k)
  | ins c ns ds =>
   obtain⟨a,dx,fs,rfl,g,m,f⟩:=r;exact .obj (na a rfl rfl) g m (f.keeps k)
 .rw [getElem?_set_ne z] at e1;obtain⟨v,s,r⟩:=R.get j _ e1;exact⟨v,s,r.keeps k fun _ _ _=>rfl⟩
abbrev PKt:=PV->PSt->Prop
abbrev PTE:=PSt->PKt->Prop
abbrev PTT:=PSt->(Bool->PSt->Prop)->Prop
inductive AV where
 | v (d:D)|sl (i:Nat)
abbrev PA1:=PSt->(AV->PSt->Prop)->Prop
abbrev PTA:=PSt->(List AV->PSt->Prop)->Prop
def Out(K:PySem.W.Frag)(A:Addr->Prop)(ρ:PSt)(σ:St)(H0 H:Hp):PV->V->Prop
 | .dat d,v=>Rel K A ρ σ H/\FV K (OO A ρ σ) H v d
 | .own ds,v=>∃a xs,v=.ref a/\¬ A a/\H0 a=none/\H a=some (.lst xs)/\Rel K (eo A a) ρ σ H/\FVs K (OO (eo A a) ρ σ) H xs ds
 | .ins c ns ds,v=>∃a dx fs,v=.ref a/\¬ A a/\H0 a=none/\H a=some (.ins (aQ K c) dx fs)/\fs.map Prod.fst=ns/\Rel K (eo A a) ρ σ H/\FVs K (OO (eo A a) ρ σ) H (fs.map Prod.snd) ds
def LE(K:PySem.W.Frag)(te:TE)(pe:PTE):Prop:=∀(A:Addr->Prop) (ρ:PSt) (σ:St) (H:Hp) (Q:PKt) (Q':VK),Rel K A ρ σ H->pe ρ Q ->
 (∀v H' p ρ',Q p ρ'->Fr ρ σ H ρ' H'->Out K A ρ' σ H H' p v->Q' v H')->te σ H Q'
def LT(K:PySem.W.Frag)(tt:TT)(pt:PTT):Prop:=∀(A:Addr->Prop) (ρ:PSt) (σ:St) (H:Hp) (Q:Bool->PSt->Prop) (Q':Bool->Hp->Prop),Rel K A ρ σ H->pt ρ Q ->
 (∀b H' ρ',Q b ρ'->Fr ρ σ H ρ' H'->Rel K A ρ' σ H'->Q' b H')->tt σ H Q'
def AOk(K:PySem.W.Frag)(O:Addr->Prop)(σ:St)(H:Hp):AV->V->Prop
 | .v d,v=>FV K O H v d
 | .sl i,v=>σ[i]?=some (some v)
def LA1(K:PySem.W.Frag)(te:TE)(pa:PA1):Prop:=∀(A:Addr->Prop) (ρ:PSt) (σ:St) (H:Hp) (Q:AV->PSt->Prop) (Q':VK),Rel K A ρ σ H->pa ρ Q ->
 (∀v H' av ρ',Q av ρ'->Fr ρ σ H ρ' H'->Rel K A ρ' σ H'->AOk K (OO A ρ' σ) σ H' av v->Q' v H')->te σ H Q'
inductive x4 (K:PySem.W.Frag) (O:Addr->Prop) (σ:St) (H:Hp):List AV->List V->Prop
 | nil:x4 K O σ H [] []
 | cons {a:AV}{v:V}{as:List AV}{vs:List V}:AOk K O σ H a v->x4 K O σ H as vs->x4 K O σ H (a::as) (v::vs)
def LAs(K:PySem.W.Frag)(ta:TA)(pa:PTA):Prop:=∀(A:Addr->Prop) (ρ:PSt) (σ:St) (H:Hp) (Q:List AV->PSt->Prop) (Q':List V->Hp->Prop),Rel K A ρ σ H->pa ρ Q ->
 (∀vs H' as ρ',Q as ρ'->Fr ρ σ H ρ' H'->Rel K A ρ' σ H'->x4 K (OO A ρ' σ) σ H' as vs->Q' vs H')->ta σ H Q'
section
variable {K:PySem.W.Frag}{A O O':Addr->Prop}{ρ ρ':PSt}{σ:St}{H H' H0:Hp}
theorem AOk.keeps{a:AV}{v:V}(k:aK O H O' H')(h:AOk K O σ H a v):AOk K O' σ H' a v:=by
 cases a with
 | v d=>exact FV.keeps k h
 | sl i=>exact h
theorem Out.frz{p:PV}{v:V}(h:Out K A ρ σ H0 H p v):Rel K A ρ σ H/\FV K (OO A ρ σ) H v p.d:=by
 cases p with
 | dat d=>exact h
 | own ds =>
  obtain⟨a,xs,rfl,na,_,e,R,f⟩:=h;refine⟨R.less fun b z=>.inl z,.lst (fun z=>?_) e (f.keeps (aK.less fun b z=>z.imp .inl id))⟩;exact z.elim na (fun z=>R.sep a (.inr rfl) z)
 | ins c ns ds =>
  obtain⟨a,dx,fs,rfl,na,_,e,m,R,f⟩:=h;refine⟨R.less fun b z=>.inl z,.obj (fun z=>?_) e m (f.keeps (aK.less fun b z=>z.imp .inl id))⟩;exact z.elim na (fun z=>R.sep a (.inr rfl) z)
theorem Out.h0{p:PV}{v:V}{H1:Hp}(h:Out K A ρ σ H0 H p v)(dm:∀b,H1 b≠none->H0 b≠none):Out K A ρ σ H1 H p v:=by
 have k:∀a,H0 a=none->H1 a=none:=fun a e=>by
  cases z:H1 a with
  | none=>rfl
  | some o=>exact absurd e (dm a (by rw [z];exact nofun))
 cases p with
 | dat d=>exact h
 | own ds=>obtain⟨a,xs,e1,na,e2,r⟩:=h;exact⟨a,xs,e1,na,k a e2,r⟩
 | ins c ns ds=>obtain⟨a,dx,fs,e1,na,e2,r⟩:=h;exact⟨a,dx,fs,e1,na,k a e2,r⟩
def Gr(H H':Hp):Prop:=∀b o,H b=some o->H' b=some o
theorem Gr.fr(g:Gr H H'):Fr ρ σ H ρ H':=⟨fun b o _ h=>g b o h,fun b h=>by
 cases e:H b with
 | none=>exact absurd e h
 | some o=>rw [g b o e];exact nofun,fun _ h=>h⟩
theorem Gr.new{p:Addr}{o:HO}(h:H p=none):Gr H (upd H p o):=fun b u e=>by rw [aj (aN e h)];exact e
theorem Gr.refl(H:Hp):Gr H H:=fun _ _ h=>h
theorem Rel.gr(R:Rel K A ρ σ H)(g:Gr H H'):Rel K A ρ σ H':=by
 refine⟨R.len,fun i q e=>?_,R.dj,fun b z=>(g.fr (ρ:=ρ) (σ:=σ)).dm b (R.dom b z),R.sep⟩;obtain⟨v,s,r⟩:=R.get i q e;refine⟨v,s,r.keeps (g.fr (ρ:=ρ) (σ:=σ)).keeps fun ow a ea=>?_⟩;obtain⟨a',u,e1,e2⟩:=r.ref ow;rw [ea] at e1;cases e1;rw [e2];exact g _ _ e2
theorem Rel.grA(R:Rel K A ρ σ H)(g:Gr H H'){p:Addr}(h:H p=none)(h':H' p≠none):Rel K (eo A p) ρ σ H':=by
 have k:aK (OO A ρ σ) H (OO (eo A p) ρ σ) H':=fun b u n e=>by
  refine⟨fun z=>?_,g _ _ e⟩
  rcases z with (z|z)|z
  .exact n (.inl z)
  .rw [z,h] at e;cases e
  .exact n (.inr z)
 refine⟨R.len,fun i q e=>?_,R.dj,fun b z=>?_,fun b z w=>?_⟩
 .obtain⟨v,s,r⟩:=R.get i q e;refine⟨v,s,r.keeps k fun ow a ea=>?_⟩;obtain⟨a',u,e1,e2⟩:=r.ref ow;rw [ea] at e1;cases e1;rw [e2];exact g _ _ e2
 .rcases z with z|z
  .exact (g.fr (ρ:=ρ) (σ:=σ)).dm b (R.dom b z)
  .rw [z];exact h'
 .rcases z with z|z
  .exact R.sep b z w
  .exact R.wr w (by rw [z];exact h)
def mn(K:PySem.W.Frag)(O:Addr->Prop)(H0 H:Hp):PV->V->Prop
 | .dat d,v=>FV K O H v d
 | .own ds,v=>∃a xs,v=.ref a/\H0 a=none/\H a=some (.lst xs)/\FVs K (eo O a) H xs ds
 | .ins c ns ds,v=>∃a dx fs,v=.ref a/\H0 a=none/\H a=some (.ins (aQ K c) dx fs)/\fs.map Prod.fst=ns/\FVs K (eo O a) H (fs.map Prod.snd) ds
theorem mn.out{p:PV}{v:V}(R:Rel K A ρ σ H)(g:Gr H H')(h:mn K (OO A ρ σ) H H' p v):Out K A ρ σ H H' p v:=by
 cases p with
 | dat d=>exact⟨R.gr g,h⟩
 | own ds =>
  obtain⟨a,xs,rfl,e0,e,f⟩:=h;refine⟨a,xs,rfl,fun z=>R.dom a z e0,e0,e,R.grA g e0 (by rw [e];exact nofun),f.keeps (aK.less fun b z=>?_)⟩
  rcases z with (z|z)|z
  .exact .inl (.inl z)
  .exact .inr z
  .exact .inl (.inr z)
 | ins c ns ds =>
  obtain⟨a,dx,fs,rfl,e0,e,m,f⟩:=h;refine⟨a,dx,fs,rfl,fun z=>R.dom a z e0,e0,e,m,R.grA g e0 (by rw [e];exact nofun),f.keeps (aK.less fun b z=>?_)⟩
  rcases z with (z|z)|z
  .exact .inl (.inl z)
  .exact .inr z
  .exact .inl (.inr z)
def FVc(K:PySem.W.Frag)(O:Addr->Prop)(H:Hp)(v:V)(d:D):Prop:=FV K O H v d\/(∃a xs ds,v=.ref a/\d=.lst ds/\H a=some (.lst xs)/\FVs K O H xs ds) \/
 ∃a dx c fs ns ds,v=.ref a/\d=.obj c ns ds/\H a=some (.ins (aQ K c) dx fs)/\fs.map Prod.fst=ns/\FVs K O H (fs.map Prod.snd) ds
def cont(ρ:PSt):AV->Option D
 | .v d=>some d
 | .sl i=>match ρ[i]? with|some (some p)=>some p.d|_=>none
theorem Rel.cont{av:AV}{v:V}{d:D}(R:Rel K A ρ σ H)(h:AOk K (OO A ρ σ) σ H av v)(e:L2.cont ρ av=some d):FVc K (OO A ρ σ) H v d:=by
 cases av with
 | v d'=>cases e;exact .inl h
 | sl i =>
  have h:σ[i]?=some (some v):=h;simp only [L2.cont] at e
  split at e
  .rename_i p ep;cases e;obtain⟨v',s,r⟩:=R.get i p ep;rw [h] at s;cases s
   cases p with
   | dat d=>exact .inl r
   | own ds=>obtain⟨a,xs,e1,e2,f⟩:=r;exact .inr (.inl ⟨a,xs,ds,e1,rfl,e2,f⟩)
   | ins c ns ds=>obtain⟨a,dx,fs,e1,e2,m,f⟩:=r;exact .inr (.inr ⟨a,dx,c,fs,ns,ds,e1,rfl,e2,m,f⟩)
  .cases e
theorem FVc.lst{v:V}{ds:List D}(h:FVc K O H v (.lst ds)):∃a xs,v=.ref a/\H a=some (.lst xs)/\FVs K O H xs ds:=by
 rcases h with h|⟨a,xs,ds',e1,e2,e3,f⟩|⟨a,dx,c,fs,ns,ds',e1,e2,_⟩
 .cases h with
  | lst n s f=>exact⟨_,_,rfl,s,f⟩
 .cases e2;exact⟨a,xs,e1,e3,f⟩
 .cases e2
theorem FVc.fv{v:V}{d:D}(h:FVc K O H v d)(n:∀ds,d≠.lst ds)(n':∀c ns ds,d≠.obj c ns ds):FV K O H v d:=by
 rcases h with h|⟨a,xs,ds',e1,e2,e3,f⟩|⟨a,dx,c,fs,ns,ds',e1,e2,_⟩
 .exact h
 .exact absurd e2 (n _)
 .exact absurd e2 (n' _ _ _)
theorem FVc.tup{v:V}{ds:List D}(h:FVc K O H v (.tup ds)):∃a xs,v=.ref a/\¬ O a/\H a=some (.tup xs)/\FVs K O H xs ds:=by
 cases h.fv nofun nofun with
 | tup n s f=>exact⟨_,_,rfl,n,s,f⟩
theorem FVc.scr{v:V}{ns:List Int}(h:FVc K O H v (.scr ns)):∃a,v=.ref a/\SqL K H a (ns.map V.int):=by
 cases h.fv nofun nofun with
 | scr s=>exact⟨_,rfl,s.sq⟩
theorem FVc.int{v:V}{i:Int}(h:FVc K O H v (.int i)):v=.int i:=by cases h.fv nofun nofun;rfl
theorem FVc.str{v:V}{i:List Nat}(h:FVc K O H v (.str i)):v=.str (S i)/\i.length<=1000000:=by
 cases h.fv nofun nofun with
 | str _ z=>exact⟨rfl,z⟩
end
def pC(d:D):PTE:=fun ρ Q=>Q (.dat d) ρ
def bj(i:Nat):PTE:=fun ρ Q=>match ρ[i]? with
 | some (some (.dat d))=>Q (.dat d) ρ
 | some (some (.own ds))=>Q (.dat (.lst ds)) (ρ.set i (some (.dat (.lst ds))))
 | some (some (.ins c ns ds))=>Q (.dat (.obj c ns ds)) (ρ.set i (some (.dat (.obj c ns ds))))
 | _=>False
def pSl(i:Nat):PA1:=fun ρ Q=>match ρ[i]? with
 | some (some (.dat d))=>Q (.v d) ρ
 | some (some (.own _))=>Q (.sl i) ρ
 | some (some (.ins _ _ _))=>Q (.sl i) ρ
 | _=>False
def pFz(pe:PTE):PA1:=fun ρ Q=>pe ρ fun p ρ1=>Q (.v p.d) ρ1
def ar:PTA:=fun ρ Q=>Q [] ρ
def ah(pa:PA1)(pr:PTA):PTA:=fun ρ Q=>pa ρ fun a ρ1=>pr ρ1 fun as ρ2=>Q (a::as) ρ2
section
variable {K:PySem.W.Frag}{ta tb tc:TE}{pa pb pc:PA1}{pe pe':PTE}{tr:TA}{pr:PTA}
theorem CQ{v:V}{d:D}(h:∀O H,FV K O H v d):LE K (tC v) (pC d):=fun A ρ σ H Q Q' R q k=>k v H (.dat d) ρ q (Fr.refl _ _ _) ⟨R,h _ _⟩
theorem le_int{i:Int}:LE K (tC (.int i)) (pC (.int i)):=CQ fun _ _=>.int i
theorem qF{i:Bool}:LE K (tC (.bl i)) (pC (.bl i)):=CQ fun _ _=>.bl i
theorem le_str{l:List Nat}(h:l.length<=1000000:=by decide):LE K (tC (.str (S l))) (pC (.str l)):=CQ fun _ _=>.str l h
theorem ao{i:Nat}:LE K (aV i) (bj i):=by
 intro A ρ σ H Q Q' R q k;unfold bj at q
 split at q
 .rename_i d e;obtain⟨v,s,r⟩:=R.get i _ e;exact⟨v,s,k v H (.dat d) ρ q (Fr.refl _ _ _) ⟨R,r⟩⟩
 .rename_i ds e;obtain⟨R',f⟩:=R.frz e;obtain⟨v,s,r⟩:=R'.get i _ (getElem?_set_self (List.getElem?_eq_some_iff.mp e).1);exact⟨v,s,k v H (.dat (.lst ds)) _ q f ⟨R',r⟩⟩
 .rename_i c ns ds e;obtain⟨R',f⟩:=R.frz e;obtain⟨v,s,r⟩:=R'.get i _ (getElem?_set_self (List.getElem?_eq_some_iff.mp e).1);exact⟨v,s,k v H (.dat (.obj c ns ds)) _ q f ⟨R',r⟩⟩
 .exact q.elim
theorem ak{i:Nat}:LA1 K (aV i) (pSl i):=by
 intro A ρ σ H Q Q' R q k;unfold pSl at q
 split at q
 .rename_i d e;obtain⟨v,s,r⟩:=R.get i _ e;exact⟨v,s,k v H _ ρ q (Fr.refl _ _ _) R r⟩
 .rename_i e;obtain⟨v,s,r⟩:=R.get i _ e;exact⟨v,s,k v H _ ρ q (Fr.refl _ _ _) R s⟩
 .rename_i e;obtain⟨v,s,r⟩:=R.get i _ e;exact⟨v,s,k v H _ ρ q (Fr.refl _ _ _) R s⟩
 .exact q.elim
theorem ac(h:LE K ta pe):LA1 K ta (pFz pe):=fun A ρ σ H Q Q' R q k=>h A ρ σ H _ Q' R q fun v H' p ρ' q f o=>k v H' _ ρ' q f o.frz.1 o.frz.2
theorem ae:LAs K dN ar:=fun A ρ σ H Q Q' R q k=>k [] H [] ρ q (Fr.refl _ _ _) R .nil
theorem aa(h:LA1 K ta pa)(hr:LAs K tr pr):LAs K (ba ta tr) (ah pa pr):=fun A ρ σ H Q Q' R q k =>
 h A ρ σ H _ _ R q fun v H1 a ρ1 q1 f1 R1 o1=>hr A ρ1 σ H1 _ _ R1 q1 fun vs H2 as ρ2 q2 f2 R2 o2=>k _ H2 _ ρ2 q2 (f1.trans f2) R2 (.cons (o1.keeps f2.keeps) o2)
def LO(K:PySem.W.Frag)(r:R2)(f:D->D->(PV->Prop)->Prop):Prop:=∀(O:Addr->Prop) (H:Hp) (x y:V) (a b:D) (Q:PV->Prop) (Q':VK),(∀b,O b->H b≠none)->FVc K O H x a->FVc K O H y b->f a b Q ->
 (∀v H' p,Q p->Gr H H'->mn K O H H' p v->Q' v H')->r x y H Q'
def op2(f:D->D->(PV->Prop)->Prop)(ρ:PSt)(x y:AV)(Q:PKt):Prop:=match cont ρ x,cont ρ y with
 | some a,some b=>f a b fun p=>Q p ρ
 | _,_=>False
def pOp(f:D->D->(PV->Prop)->Prop)(pa pb:PA1):PTE:=fun ρ Q=>pa ρ fun x ρ1=>pb ρ1 fun y ρ2=>op2 f ρ2 x y Q
theorem Rel.dom2{A:Addr->Prop}{ρ:PSt}{σ:St}{H:Hp}(R:Rel K A ρ σ H):∀b,OO A ρ σ b->H b≠none:=fun b z=>z.elim (R.dom b) R.wr
theorem am{r:R2}{f:D->D->(PV->Prop)->Prop}(o:LO K r f)(ha:LA1 K ta pa)(hb:LA1 K tb pb):LE K (tOp r ta tb) (pOp f pa pb):=fun A ρ σ H Q Q' R q k =>
 ha A ρ σ H _ _ R q fun v H1 a ρ1 q1 f1 R1 o1=>hb A ρ1 σ H1 _ _ R1 q1 fun w H2 b ρ2 q2 f2 R2 o2=>by
  unfold op2 at q2
  split at q2
  .rename_i da db e1 e2;exact o _ H2 v w da db _ _ R2.dom2 (R2.cont (o1.keeps f2.keeps) e1) (R2.cont o2 e2) q2 fun z H3 p q3 g ov=>k z H3 p ρ2 q3 ((f1.trans f2).trans g.fr) ((ov.out R2 g).h0 fun b z=>f2.dm b (f1.dm b z))
  .exact q2.elim
def LU(K:PySem.W.Frag)(r:V->Hp->VK->Prop)(f:D->(PV->Prop)->Prop):Prop:=∀(O:Addr->Prop) (H:Hp) (x:V) (a:D) (Q:PV->Prop) (Q':VK),(∀b,O b->H b≠none)->FVc K O H x a->f a Q ->
 (∀v H' p,Q p->Gr H H'->mn K O H H' p v->Q' v H')->r x H Q'
def op1(f:D->(PV->Prop)->Prop)(ρ:PSt)(x:AV)(Q:PKt):Prop:=match cont ρ x with
 | some a=>f a fun p=>Q p ρ
 | _=>False
def pUn(f:D->(PV->Prop)->Prop)(pa:PA1):PTE:=fun ρ Q=>pa ρ fun x ρ1=>op1 f ρ1 x Q
theorem mq{r:V->Hp->VK->Prop}{f:D->(PV->Prop)->Prop}(o:LU K r f)(ha:LA1 K ta pa):LE K (tUn r ta) (pUn f pa):=fun A ρ σ H Q Q' R q k =>
 ha A ρ σ H _ _ R q fun v H1 a ρ1 q1 f1 R1 o1=>by
  unfold op1 at q1
  split at q1
  .rename_i da e1;exact o _ H1 v da _ _ R1.dom2 (R1.cont o1 e1) q1 fun z H3 p q3 g ov=>k z H3 p ρ1 q3 (f1.trans g.fr) ((ov.out R1 g).h0 fun b z=>f1.dm b z)
  .exact q1.elim
inductive zE (K:PySem.W.Frag) (O:Addr->Prop) (H:Hp):List V->List D->Prop
 | nil:zE K O H [] []
 | cons {x:V}{d:D}{xs:List V}{ds:List D}:FVc K O H x d->zE K O H xs ds->zE K O H (x::xs) (d::ds)
def conts(ρ:PSt):List AV->Option (List D)
 | []=>some []
 | a::r=>match cont ρ a,conts ρ r with
  | some d,some ds=>some (d::ds)
  | _,_=>none
theorem Rel.conts{A:Addr->Prop}{ρ:PSt}{σ:St}{H:Hp}(R:Rel K A ρ σ H):∀{as:List AV}{vs:List V}{ds:List D},x4 K (OO A ρ σ) σ H as vs->L2.conts ρ as=some ds->zE K (OO A ρ σ) H vs ds
 | _,_,_,.nil,e=>by cases e;exact .nil
 | _,_,_,.cons a b,e=>by
  unfold L2.conts at e
  split at e
  .rename_i e1 e2;cases e;exact .cons (R.cont a e1) (R.conts b e2)
  .cases e
def LC(K:PySem.W.Frag)(r:List V->Hp->VK->Prop)(f:List D->(PV->Prop)->Prop):Prop:=∀(O:Addr->Prop) (H:Hp) (xs:List V) (as:List D) (Q:PV->Prop) (Q':VK),(∀b,O b->H b≠none)->zE K O H xs as->f as Q ->
 (∀v H' p,Q p->Gr H H'->mn K O H H' p v->Q' v H')->r xs H Q'
def opN(f:List D->(PV->Prop)->Prop)(ρ:PSt)(as:List AV)(Q:PKt):Prop:=match conts ρ as with
 | some ds=>f ds fun p=>Q p ρ
 | _=>False
def pCB(f:List D->(PV->Prop)->Prop)(pr:PTA):PTE:=fun ρ Q=>pr ρ fun as ρ1=>opN f ρ1 as Q
theorem bx{r:List V->Hp->VK->Prop}{f:List D->(PV->Prop)->Prop}(o:LC K r f)(ha:LAs K tr pr):LE K (tCB r tr) (pCB f pr):=fun A ρ σ H Q Q' R q k =>
 ha A ρ σ H _ _ R q fun vs H1 as ρ1 q1 f1 R1 o1=>by
  unfold opN at q1
  split at q1
  .rename_i ds e1;exact o _ H1 vs ds _ _ R1.dom2 (R1.conts o1 e1) q1 fun z H3 p q3 g ov=>k z H3 p ρ1 q3 (f1.trans g.fr) ((ov.out R1 g).h0 fun b z=>f1.dm b z)
  .exact q1.elim
def avD:List AV->Option (List D)
 | []=>some []
 | .v d::r=>match avD r with|some ds=>some (d::ds)|none=>none
 | .sl _::_=>none
theorem x4.avD{O:Addr->Prop}{σ:St}{H:Hp}:∀{as:List AV}{vs:List V}{ds:List D},x4 K O σ H as vs->L2.avD as=some ds->FVs K O H vs ds
 | _,_,_,.nil,e=>by cases e;exact .nil
 | .v d::r,_,_,.cons a b,e=>by
  simp only [L2.avD] at e
  split at e
  .rename_i e1;cases e;exact .cons a (b.avD e1)
  .cases e
 | .sl i::r,_,_,.cons a b,e=>by cases e
def lM(pr:PTA):PTE:=fun ρ Q=>pr ρ fun as ρ1=>match avD as with
 | some ds=>ds.length<=1000000/\Q (.own ds) ρ1
 | _=>False
def Cc(pr:PTA):PTE:=fun ρ Q=>pr ρ fun as ρ1=>match avD as with
 | some ds=>ds.length<=1000000/\Q (.dat (.tup ds)) ρ1
 | _=>False
theorem cA(ha:LAs K tr pr):LE K (Al tr) (lM pr):=fun A ρ σ H Q Q' R q k =>
 ha A ρ σ H _ _ R q fun vs H1 as ρ1 q1 f1 R1 o1=>by
  split at q1
  .rename_i ds e1;have fs:=o1.avD e1;refine⟨sz _ (by rw [fs.length];exact q1.1),fun p hp=>k _ _ (.own ds) ρ1 q1.2 (f1.trans (Fr.new hp)) ?_⟩;have g:Gr H1 (upd H1 p (.lst vs)):=Gr.new hp;exact (mn.out (p:=.own ds) R1 g ⟨p,vs,rfl,hp,aA,fs.keeps (aK.fresh hp)⟩).h0 fun b z=>f1.dm b z
  .exact q1.elim
theorem mr(ha:LAs K tr pr):LE K (CA tr) (Cc pr):=fun A ρ σ H Q Q' R q k =>
 ha A ρ σ H _ _ R q fun vs H1 as ρ1 q1 f1 R1 o1=>by
  split at q1
  .rename_i ds e1;have fs:=o1.avD e1;refine⟨sz _ (by rw [fs.length];exact q1.1),fun p hp=>k _ _ (.dat (.tup ds)) ρ1 q1.2 (f1.trans (Fr.new hp)) ⟨R1.grow hp,?_⟩⟩;exact .tup (R1.oo hp) aA (fs.keeps (Fr.new hp).keeps)
  .exact q1.elim
def pB(pe:PTE):PTT:=fun ρ Q=>pe ρ fun p ρ1=>match p with
 | .dat (.bl b)=>Q b ρ1
 | _=>False
theorem vf(h:LE K ta pe):LT K (tB ta) (pB pe):=fun A ρ σ H Q Q' R q k=>h A ρ σ H _ _ R q fun v H1 p ρ1 q1 f1 o1=>by
 split at q1
 .rename_i b;obtain⟨R1,f⟩:=o1;cases f;exact⟨b,rfl,k b H1 ρ1 q1 f1 R1⟩
 .exact q1.elim
theorem gC(h:LE K ta pe):LT K (kU ta) (pB pe):=vf h
def Cd(a b:PTT):PTT:=fun ρ Q=>a ρ fun c ρ1=>fN c (b ρ1 Q) (Q false ρ1)
def pOr(a b:PTT):PTT:=fun ρ Q=>a ρ fun c ρ1=>fN c (Q true ρ1) (b ρ1 Q)
def x5(a:PTT):PTT:=fun ρ Q=>a ρ fun c ρ1=>Q (!c) ρ1
variable {tta ttb:TT}{pta ptb:PTT}
theorem sR(ha:LT K tta pta)(hb:LT K ttb ptb):LT K (Cj tta ttb) (Cd pta ptb):=fun A ρ σ H Q Q' R q k=>ha A ρ σ H _ _ R q fun c H1 ρ1 q1 f1 R1=>by
 cases c with
 | true=>exact hb A ρ1 σ H1 _ _ R1 q1 fun b H2 ρ2 q2 f2 R2=>k b H2 ρ2 q2 (f1.trans f2) R2
 | false=>exact k false H1 ρ1 q1 f1 R1
theorem x6(ha:LT K tta pta)(hb:LT K ttb ptb):LT K (tOr tta ttb) (pOr pta ptb):=fun A ρ σ H Q Q' R q k=>ha A ρ σ H _ _ R q fun c H1 ρ1 q1 f1 R1=>by
 cases c with
 | false=>exact hb A ρ1 σ H1 _ _ R1 q1 fun b H2 ρ2 q2 f2 R2=>k b H2 ρ2 q2 (f1.trans f2) R2
 | true=>exact k true H1 ρ1 q1 f1 R1
theorem kt(ha:LT K tta pta):LT K (Ck tta) (x5 pta):=fun A ρ σ H Q Q' R q k=>ha A ρ σ H _ _ R q fun c H1 ρ1 q1 f1 R1=>k _ H1 ρ1 q1 f1 R1
def x8(a b:PTE):PTE:=fun ρ Q=>a ρ fun p ρ1=>match p with
 | .dat (.bl c)=>fN c (b ρ1 Q) (Q (.dat (.bl false)) ρ1)
 | _=>False
def x9(a:PTE):PTE:=fun ρ Q=>a ρ fun p ρ1=>match p with
 | .dat (.bl c)=>Q (.dat (.bl (!c))) ρ1
 | _=>False
theorem wD(ha:LE K ta pe)(hb:LE K tb pe'):LE K (zV ta tb) (x8 pe pe'):=fun A ρ σ H Q Q' R q k=>ha A ρ σ H _ _ R q fun v H1 p ρ1 q1 f1 o1=>by
 split at q1
 .rename_i c;obtain⟨R1,f⟩:=o1;cases f;refine⟨c,rfl,?_⟩
  cases c with
  | true=>exact hb A ρ1 σ H1 _ _ R1 q1 fun b H2 p2 ρ2 q2 f2 o2=>k b H2 p2 ρ2 q2 (f1.trans f2) (o2.h0 fun b z=>f1.dm b z)
  | false=>exact k _ H1 _ ρ1 q1 f1 ⟨R1,.bl false⟩
 .exact q1.elim
theorem wE(ha:LE K ta pe):LE K (zW ta) (x9 pe):=fun A ρ σ H Q Q' R q k=>ha A ρ σ H _ _ R q fun v H1 p ρ1 q1 f1 o1=>by
 split at q1
 .rename_i c;obtain⟨R1,f⟩:=o1;cases f;exact⟨c,rfl,k _ H1 _ ρ1 q1 f1 ⟨R1,.bl (!c)⟩⟩
 .exact q1.elim
def pIf(t:PTT)(a b:PTE):PTE:=fun ρ Q=>t ρ fun c ρ1=>fN c (a ρ1 Q) (b ρ1 Q)
theorem CS(ht:LT K tta pta)(ha:LE K ta pe)(hb:LE K tb pe'):LE K (tIf tta ta tb) (pIf pta pe pe'):=fun A ρ σ H Q Q' R q k=>ht A ρ σ H _ _ R q fun c H1 ρ1 q1 f1 R1=>by
 cases c with
 | true=>exact ha A ρ1 σ H1 _ _ R1 q1 fun b H2 p2 ρ2 q2 f2 o2=>k b H2 p2 ρ2 q2 (f1.trans f2) (o2.h0 fun b z=>f1.dm b z)
 | false=>exact hb A ρ1 σ H1 _ _ R1 q1 fun b H2 p2 ρ2 q2 f2 o2=>k b H2 p2 ρ2 q2 (f1.trans f2) (o2.h0 fun b z=>f1.dm b z)
end
abbrev F2:=D->D->(PV->Prop)->Prop
def fI0(g:Int->Int->D):F2
 | .int i,.int j,Q=>Q (.dat (g i j))
 | _,_,_=>False
def fI(C:Int->Int->Prop)(g:Int->Int->D):F2
 | .int i,.int j,Q=>C i j/\Q (.dat (g i j))
 | _,_,_=>False
section
variable {K:PySem.W.Frag}{X:Cx}
theorem vg{g:Int->Int->V}{g':Int->Int->D}(h:∀i j O H,FV K O H (g i j) (g' i j)):LO K (rI0 g) (fI0 g'):=by
 intro O H x y a b Q Q' dom fx fy q k;unfold fI0 at q
 split at q
 .rename_i i j;exact⟨i,j,fx.int,fy.int,k _ H _ q (Gr.refl _) (h i j _ _)⟩
 .exact q.elim
theorem AS{C:Int->Int->Prop}{g:Int->Int->V}{g':Int->Int->D}(h:∀i j O H,FV K O H (g i j) (g' i j)):LO K (rI C g) (fI C g'):=by
 intro O H x y a b Q Q' dom fx fy q k;unfold fI at q
 split at q
 .rename_i i j;exact⟨i,j,fx.int,fy.int,q.1,k _ H _ q.2 (Gr.refl _) (h i j _ _)⟩
 .exact q.elim
theorem dL{O:Addr->Prop}{H:Hp}{xs:List V}{ds:List D}{p:Addr}(hp:H p=none)(f:FVs K O H xs ds):mn K O H (upd H p (.lst xs)) (.own ds) (.ref p) :=
 ⟨p,xs,rfl,hp,aA,f.keeps (aK.fresh hp)⟩
theorem jp{O:Addr->Prop}{H:Hp}{xs:List V}{ds:List D}{p:Addr}(dom:∀b,O b->H b≠none)(hp:H p=none)(f:FVs K O H xs ds):mn K O H (upd H p (.tup xs)) (.dat (.tup ds)) (.ref p) :=
 .tup (fun z=>dom p z hp) aA (f.keeps fun b o n e=>⟨n,by rw [aj (aN e hp)];exact e⟩)
def CT:R2:=fun x y H Q=>∃i j,x=.str (S i)/\y=.str (S j)/\i.length+j.length<=sizeLine/\Q (.str (S (i++j))) H
def ya(K:PySem.W.Frag):R2:=fun x y H Q=>rI0 (fun i j=>.int (i+j)) x y H Q\/CT x y H Q\/AM K x y H Q\/Ao K x y H Q
theorem CU(K:PySem.W.Frag)(e:X.K=K):OpR X (binaryOp .Add) (ya K):=by
 subst e;exact OpR.or Ab (OpR.or xR (OpR.or xV xH))
def CV:F2
 | .int i,.int j,Q=>Q (.dat (.int (i+j)))
 | .str a,.str b,Q=>a.length+b.length<=1000000/\Q (.dat (.str (a++b)))
 | .lst a,.lst b,Q=>a.length+b.length<=1000000/\Q (.own (a++b))
 | .scr a,.lst b,Q=>a.length+b.length<=1000000/\Q (.own (a.map .int++b))
 | .tup a,.tup b,Q=>a≠[]/\a.length+b.length<=1000000/\Q (.dat (.tup (a++b)))
 | _,_,_=>False
theorem wF:LO K (ya K) CV:=by
 intro O H x y a b Q Q' dom fx fy q k;unfold CV at q
 split at q
 .rename_i i j;exact .inl ⟨i,j,fx.int,fy.int,k _ H _ q (Gr.refl _) (.int _)⟩
 .rename_i i j;exact .inr (.inl ⟨i,j,fx.str.1,fy.str.1,sz _ q.1,k _ H _ q.2 (Gr.refl _) (.str _ (by rw [length_append];exact q.1))⟩)
 .rename_i i j;obtain⟨a,xs,rfl,e1,f1⟩:=fx.lst;obtain⟨b,ys,rfl,e2,f2⟩:=fy.lst;exact .inr (.inr (.inl ⟨a,b,xs,ys,rfl,rfl,SqL.of e1,SqL.of e2,sz _ (by rw [f1.length,f2.length];exact q.1),fun p hp=>k _ _ _ q.2 (Gr.new hp) (dL hp (f1.append f2))⟩))
 .rename_i i j;obtain⟨a,rfl,e1⟩:=fx.scr;obtain⟨b,ys,rfl,e2,f2⟩:=fy.lst;exact .inr (.inr (.inl ⟨a,b,_,ys,rfl,rfl,e1,SqL.of e2,sz _ (by rw [length_map,f2.length];exact q.1),fun p hp=>k _ _ _ q.2 (Gr.new hp) (dL hp ((FVs.of_ints i).append f2))⟩))
 .rename_i i j;obtain⟨a,xs,rfl,n1,e1,f1⟩:=fx.tup;obtain⟨b,ys,rfl,n2,e2,f2⟩:=fy.tup;have l1:=f1.length;have l2:=f2.length
  refine .inr (.inr (.inr ⟨a,b,xs,ys,rfl,rfl,SqT.of e1,SqT.of e2,fun z=>q.1 ?_,sz _ (by rw [l1,l2];exact q.2.1),fun z=>?_,fun _ p hp=>k _ _ _ q.2.2 (Gr.new hp) (jp dom hp (f1.append f2))⟩))
  .exact length_eq_zero_iff.mp (by rw [<- l1,z];rfl)
  .have:j=[]:=length_eq_zero_iff.mp (by rw [<- l2,z];rfl);subst this;exact k _ H _ q.2.2 (Gr.refl _) (by rw [append_nil];exact .tup n1 e1 f1)
 .exact q.elim
theorem mw:LO K (rI0 fun i j=>.int (i - j)) (fI0 fun i j=>.int (i - j)):=vg fun _ _ _ _=>.int _
theorem bC:LO K (rI (fun _ j=>0<j) fun i j=>.int (i % j)) (fI (fun _ j=>0<j) fun i j=>.int (i % j)):=AS fun _ _ _ _=>.int _
theorem jq:LO K (rI Cs fun i j=>.int (i / j)) (fI (fun _ j=>0<j/\j<1073741824) fun i j=>.int (i / j)):=AS fun _ _ _ _=>.int _
theorem AT:LO K (rI Aa fun i j=>.int (i^j.toNat)) (fI (fun i j=>0<=j/\j<=1000000/\i.natAbs<2^64) fun i j=>.int (i^j.toNat)):=AS fun _ _ _ _=>.int _
def CW:R2:=fun x y H Q=>∃l n,x=.str (S l)/\y=.int n/\-1000000<=n/\n<=1000000/\n.toNat*l.length<=sizeLine/\Q (.str (S (kZ l n))) H
def qG:R2:=fun x y H Q=>rI B9 (fun i j=>.int (i*j)) x y H Q\/CW x y H Q\/DU x y H Q
theorem gD:OpR X (binaryOp .Mult) qG:=OpR.or Ad (OpR.or qv Au)
def nQ:F2
 | .int i,.int j,Q=>((-(2^64)<i/\i<2^64)\/(-(2^64)<j/\j<2^64))/\Q (.dat (.int (i*j)))
 | .str a,.int n,Q=>(-1000000<=n/\n<=1000000/\n.toNat*a.length<=1000000)/\Q (.dat (.str (kZ a n)))
 | .lst a,.int n,Q=>(-1000000<=n/\n<=1000000/\a.length*n.toNat<=1000000)/\Q (.own (kZ a n))
 | _,_,_=>False
theorem FVs.rep{O:Addr->Prop}{H:Hp}{xs:List V}{ds:List D}(f:FVs K O H xs ds):∀n,FVs K O H (List.replicate n xs).flatten (List.replicate n ds).flatten
 | 0=>.nil
 | n+1=>by rw [replicate_succ,replicate_succ,flatten_cons,flatten_cons];exact f.append (f.rep n)
theorem dO:LO K qG nQ:=by
 intro O H x y a b Q Q' dom fx fy q k;unfold nQ at q
 split at q
 .rename_i i j;exact .inl ⟨i,j,fx.int,fy.int,q.1,k _ H _ q.2 (Gr.refl _) (.int _)⟩
 .rename_i i j;exact .inr (.inl ⟨i,j,fx.str.1,fy.int,q.1.1,q.1.2.1,sz _ q.1.2.2,k _ H _ q.2 (Gr.refl _) (.str _ (by rw [dZ];exact q.1.2.2))⟩)
 .rename_i i j;obtain⟨a,xs,rfl,e1,f1⟩:=fx.lst;exact .inr (.inr ⟨a,j,xs,rfl,fy.int,e1,by omega,by omega,sz _ (by rw [f1.length];exact q.1.2.2),fun p hp=>k _ _ _ q.2 (Gr.new hp) (dL hp (f1.rep _))⟩)
 .exact q.elim
def DY:R2:=fun x y H Q=>rI0 (fun i j=>.bl (decide (i<j))) x y H Q\/∃i j,x=.str i/\y=.str j/\Q (.bl (decide (i.cps.toList<j.cps.toList))) H
def Ce:R2:=fun x y H Q=>rI0 (fun i j=>.bl (decide (i<=j))) x y H Q\/∃i j,x=.str i/\y=.str j/\Q (.bl (!decide (j.cps.toList<i.cps.toList))) H
theorem Cf:OpR X (compareOp .Lt) DY:=OpR.or Cv rN
theorem Cg:OpR X (compareOp .LtE) Ce:=OpR.or Cw ss
def fLt:F2
 | .int i,.int j,Q=>Q (.dat (.bl (decide (i<j))))
 | .str i,.str j,Q=>Q (.dat (.bl (decide (i<j))))
 | _,_,_=>False
def fLe:F2
 | .int i,.int j,Q=>Q (.dat (.bl (decide (i<=j))))
 | .str i,.str j,Q=>Q (.dat (.bl (!decide (j<i))))
 | _,_,_=>False
theorem vh:LO K DY fLt:=by
 intro O H x y a b Q Q' dom fx fy q k;unfold fLt at q
 split at q
 .rename_i i j;exact .inl ⟨i,j,fx.int,fy.int,k _ H _ q (Gr.refl _) (.bl _)⟩
 .rename_i i j;exact .inr ⟨_,_,fx.str.1,fy.str.1,k _ H _ q (Gr.refl _) (.bl _)⟩
 .exact q.elim
theorem vk:LO K Ce fLe:=by
 intro O H x y a b Q Q' dom fx fy q k;unfold fLe at q
 split at q
 .rename_i i j;exact .inl ⟨i,j,fx.int,fy.int,k _ H _ q (Gr.refl _) (.bl _)⟩
 .rename_i i j;exact .inr ⟨_,_,fx.str.1,fy.str.1,k _ H _ q (Gr.refl _) (.bl _)⟩
 .exact q.elim
theorem nR:LO K (rI0 fun i j=>.bl (decide (j<i))) (fI0 fun i j=>.bl (decide (j<i))):=vg fun _ _ _ _=>.bl _
theorem CY:LO K (rI0 fun i j=>.bl (decide (j<=i))) (fI0 fun i j=>.bl (decide (j<=i))):=vg fun _ _ _ _=>.bl _
mutual
def D.py:D->PyData
 | .non=>.none|.bl b=>.bool b|.int i=>.int i|.str l=>.str (S l)|.ty _=>.none
 | .lst ds=>.list (D.pys ds)|.tup ds=>.tuple (D.pys ds)|.scr ns=>.list (ns.map .int)|.dic _ _=>.none|.obj _ _ _=>.none|.exc _ _ _=>.none
def D.pys:List D->List PyData
 | []=>[]
 | d::r=>d.py::D.pys r
end
mutual
def D.plain:D->Bool
 | .non=>true|.bl _=>true|.int _=>true|.str _=>true|.ty _=>false
 | .lst ds=>D.plains ds|.tup ds=>D.plains ds|.scr _=>true|.dic _ _=>false|.obj _ _ _=>false|.exc _ _ _=>false
def D.plains:List D->Bool
 | []=>true
 | d::r=>d.plain && D.plains r
end
mutual
theorem FV.dv{O:Addr->Prop}{H:Hp}:∀{v:V}{d:D},FV K O H v d->d.plain=true->DV K H v d.py
 | _,_,.non,_=>.non
 | _,_,.bl b,_=>.bl b
 | _,_,.int i,_=>.int i
 | _,_,.str l h,_=>.str (S l)
 | _,_,.ty n,p=>nomatch p
 | _,_,.scr s,_=>.lst s.sq (DVs.ints _)
 | _,_,.lst n e f,p=>.lst (SqL.of e) (FVs.dvs f p)
 | _,_,.tup n e f,p=>.tup (SqT.of e) (FVs.dvs f p)
 | _,_,.dic _ _ _ _,p=>nomatch p
 | _,_,.obj _ _ _ _,p=>nomatch p
 | _,_,.exc0 _ _,p=>nomatch p
 | _,_,.exc1 _ _ _ _ _ _,p=>nomatch p
theorem FVs.dvs{O:Addr->Prop}{H:Hp}:∀{vs:List V}{ds:List D},FVs K O H vs ds->D.plains ds=true->DVs K H vs (D.pys ds)
 | _,_,.nil,_=>.nil
 | _,_,.cons a b,p=>by
  have p:(_ && _)=true:=p;rw [and_eq_true] at p;exact .cons (FV.dv a p.1) (FVs.dvs b p.2)
end
theorem FVc.dv{O:Addr->Prop}{H:Hp}{v:V}{d:D}(h:FVc K O H v d)(p:d.plain=true):DV K H v d.py:=by
 rcases h with h|⟨a,xs,ds',rfl,rfl,e3,f⟩|⟨a,dx,c,fs,ns,ds',e1,rfl,_⟩
 .exact h.dv p
 .exact .lst (SqL.of e3) (f.dvs p)
 .cases p
def AU(K:PySem.W.Frag)(neg:Bool):R2:=fun x y H Q=>rI0 (fun i j=>.bl (if neg then !decide (i=j) else decide (i=j))) x y H Q\/(∃i j,x=.str (S i)/\y=.str (S j)/\Q (.bl (if neg then !decide (i=j) else decide (i=j))) H)\/CG K neg x y H Q
theorem El(K:PySem.W.Frag)(e:X.K=K)(hu:X.A.units+64<cLine):OpR X (compareOp .Eq) (AU K false):=by
 subst e;exact OpR.or AG (OpR.or AE (AB hu))
theorem Em(K:PySem.W.Frag)(e:X.K=K)(hu:X.A.units+64<cLine):OpR X (compareOp .NotEq) (AU K true):=by
 subst e;exact OpR.or AH (OpR.or AF (AC hu))
def rn(a b:D):Prop:=a.plain=true/\b.plain=true/\SeqAt.shaped a.py=true/\SeqAt.shaped b.py=true
def deq(a b:D):Bool:=PyData.eqv a.py b.py
def fEq:F2
 | .int i,.int j,Q=>Q (.dat (.bl (decide (i=j))))
 | .str i,.str j,Q=>Q (.dat (.bl (decide (i=j))))
 | a,b,Q=>rn a b/\Q (.dat (.bl (deq a b)))
def fNe:F2
 | .int i,.int j,Q=>Q (.dat (.bl (!decide (i=j))))
 | .str i,.str j,Q=>Q (.dat (.bl (!decide (i=j))))
 | a,b,Q=>rn a b/\Q (.dat (.bl (!deq a b)))
theorem CZ:LO K (AU K false) fEq:=by
 intro O H x y a b Q Q' dom fx fy q k;unfold fEq at q
 split at q
 .rename_i i j;exact .inl ⟨i,j,fx.int,fy.int,k _ H _ q (Gr.refl _) (.bl _)⟩
 .rename_i i j;exact .inr (.inl ⟨i,j,fx.str.1,fy.str.1,k _ H _ q (Gr.refl _) (.bl _)⟩)
 .exact .inr (.inr ⟨_,_,fx.dv q.1.1,fy.dv q.1.2.1,q.1.2.2.1,q.1.2.2.2,k _ H _ q.2 (Gr.refl _) (.bl _)⟩)
theorem C1:LO K (AU K true) fNe:=by
 intro O H x y a b Q Q' dom fx fy q k;unfold fNe at q
 split at q
 .rename_i i j;exact .inl ⟨i,j,fx.int,fy.int,k _ H _ q (Gr.refl _) (.bl _)⟩
 .rename_i i j;exact .inr (.inl ⟨i,j,fx.str.1,fy.str.1,k _ H _ q (Gr.refl _) (.bl _)⟩)
 .exact .inr (.inr ⟨_,_,fx.dv q.1.1,fy.dv q.1.2.1,q.1.2.2.1,q.1.2.2.2,k _ H _ q.2 (Gr.refl _) (.bl _)⟩)
def D.fl:D->Bool
 | .non=>true|.bl _=>true|.int _=>true|.str _=>true
 | _=>false
def eqF:D->D->Bool
 | .non,.non=>true
 | .bl a,.bl b=>a == b
 | .bl a,.int b=>(if a then 1 else 0) == b
 | .int a,.bl b=>a == (if b then 1 else 0)
 | .int a,.int b=>a == b
 | .str a,.str b=>a == b
 | _,_=>false
def inD(x:D)(xs:List D):Bool:=xs.any fun y=>eqF y x
theorem FV.fl{O:Addr->Prop}{H:Hp}{v:V}{d:D}(h:FV K O H v d)(f:d.fl=true):jZ v=true:=by cases h <;> first|rfl|cases f
theorem AW(a b:List Nat):(S a == S b)=(a == b):=by
 by_cases h:a=b
 .subst h;rw [beq_self_eq_true,beq_self_eq_true]
 .rw [beq_eq_false_iff_ne.mpr h,beq_eq_false_iff_ne.mpr (Ei h)]
theorem FV.eqF{O:Addr->Prop}{H:Hp}{v w:V}{d e:D}(h:FV K O H v d)(f:d.fl=true)(h':FV K O H w e)(f':e.fl=true):eqV v w=L2.eqF d e:=by
 cases h <;> first|(cases f;done)|(cases h' <;> first|(cases f';done)|rfl|exact AW _ _)
theorem FVs.inD{O:Addr->Prop}{H:Hp}{v:V}{d:D}(h:FV K O H v d)(f:d.fl=true):∀{xs:List V}{ds:List D},FVs K O H xs ds->ds.all D.fl=true->xs.all jZ=true/\inV v xs=L2.inD d ds
 | _,_,.nil,_=>⟨rfl,rfl⟩
 | _,_,.cons a b,g=>by
  rw [all_cons,and_eq_true] at g;obtain⟨i1,i2⟩:=b.inD h f g.2;refine⟨by rw [all_cons,a.fl g.1,i1];rfl,?_⟩;unfold inV L2.inD at i2 ⊢;rw [any_cons,any_cons,i2,a.eqF g.1 h f]
def fIn(neg:Bool):F2
 | a,.lst ds,Q=>(a.fl=true/\ds.all D.fl=true)/\Q (.dat (.bl (if neg then !inD a ds else inD a ds)))
 | a,.tup ds,Q=>(a.fl=true/\ds.all D.fl=true)/\Q (.dat (.bl (if neg then !inD a ds else inD a ds)))
 | _,_,_=>False
theorem FVc.fl{O:Addr->Prop}{H:Hp}{v:V}{d:D}(h:FVc K O H v d)(f:d.fl=true):FV K O H v d:=h.fv (fun _ z=>by rw [z] at f;cases f) (fun _ _ _ z=>by rw [z] at f;cases f)
theorem En(K:PySem.W.Frag)(e:X.K=K):OpR X (compareOp .In) (rIn K false):=by subst e;exact r9
theorem yb(K:PySem.W.Frag)(e:X.K=K):OpR X (compareOp .NotIn) (rIn K true):=by subst e;exact lV
theorem AX{neg:Bool}:LO K (rIn K neg) (fIn neg):=by
 intro O H x y a b Q Q' dom fx fy q k;unfold fIn at q
 split at q
 .obtain⟨p,xs,rfl,e1,f1⟩:=fy.lst;obtain⟨g1,g2⟩:=f1.inD (fx.fl q.1.1) q.1.1 q.1.2;exact⟨p,xs,rfl,.inl (SqL.of e1),(fx.fl q.1.1).fl q.1.1,g1,by rw [g2];exact k _ H _ q.2 (Gr.refl _) (.bl _)⟩
 .obtain⟨p,xs,rfl,n1,e1,f1⟩:=fy.tup;obtain⟨g1,g2⟩:=f1.inD (fx.fl q.1.1) q.1.1 q.1.2;exact⟨p,xs,rfl,.inr (SqT.of e1),(fx.fl q.1.1).fl q.1.1,g1,by rw [g2];exact k _ H _ q.2 (Gr.refl _) (.bl _)⟩
 .exact q.elim
def nv(K:PySem.W.Frag):R2:=fun x y H Q=>DQ K x y H Q\/DR K x y H Q\/AD x y H Q
theorem gb(K:PySem.W.Frag)(e:X.K=K):IxR X (nv K):=by
 subst e;exact IxR.or xK (IxR.or Ap xQ)
def fIx:F2
 | .lst ds,.int i,Q=>∃d,atI ds i=some d/\Q (.dat d)
 | .tup ds,.int i,Q=>∃d,atI ds i=some d/\Q (.dat d)
 | .scr ns,.int i,Q=>∃d,atI ns i=some d/\Q (.dat (.int d))
 | .str l,.int i,Q=>∃c,atI l i=some c/\Q (.dat (.str [c]))
 | _,_,_=>False
theorem FVs.atI{O:Addr->Prop}{H:Hp}{vs:List V}{ds:List D}{i:Int}{d:D}(f:FVs K O H vs ds)(h:L2.atI ds i=some d):∃v,L2.atI vs i=some v/\FV K O H v d:=by
 unfold L2.atI at h ⊢;rw [f.length]
 cases e:ixN ds.length i with
 | none=>rw [e] at h;cases h
 | some j=>rw [e] at h;exact f.getD h
theorem cj:LO K (nv K) fIx:=by
 intro O H x y a b Q Q' dom fx fy q k;unfold fIx at q
 split at q
 .obtain⟨d,hd,q⟩:=q;obtain⟨p,xs,rfl,e1,f1⟩:=fx.lst;obtain⟨v,hv,fv⟩:=f1.atI hd;exact .inl ⟨p,xs,_,v,rfl,fy.int,SqL.of e1,hv,k _ H _ q (Gr.refl _) fv⟩
 .obtain⟨d,hd,q⟩:=q;obtain⟨p,xs,rfl,n1,e1,f1⟩:=fx.tup;obtain⟨v,hv,fv⟩:=f1.atI hd;exact .inr (.inl ⟨p,xs,_,v,rfl,fy.int,SqT.of e1,hv,k _ H _ q (Gr.refl _) fv⟩)
 .obtain⟨d,hd,q⟩:=q;obtain⟨p,rfl,e1⟩:=fx.scr;exact .inl ⟨p,_,_,_,rfl,fy.int,e1,xS hd,k _ H _ q (Gr.refl _) (.int d)⟩
 .obtain⟨c,hc,q⟩:=q;exact .inr (.inr ⟨_,_,c,fx.str.1,fy.int,sz _ fx.str.2,hc,k _ H _ q (Gr.refl _) (.str _ (by show 1<=1000000;decide))⟩)
 .exact q.elim
end
end L2
namespace L2
open PySem PySem.Spec PyProof.Rows _root_.HT
section
variable {prog:Program}{w:World}{A:Around}{E:Value->Shared->Prop}{s:Shared}
theorem hV{t sl:Addr}{items:Array Value}{vl vu:Value}{lo hi:Option Int}{Q:Value->Shared->Prop}(ht:IsTup s.heap t items)(hs:s.heap.IsSliceOf sl vl vu .none)(pl:IsPart vl lo)(pu:IsPart vu hi)
  (hw:sIx items.size 0 lo=0/\sIx items.size items.size hi=items.size)
  (h:Q (.ref t) s):wpAny (model prog w) A (getItem (.ref t) (.ref sl)) Q E s:=by
 obtain⟨os,hos,hcs,hds⟩:=id hs;have hTs:s.TypeIs (.ref sl) "slice":=⟨os,hos,hcs⟩
 unfold getItem
 try with_reducible refine wpAny_holding ?_
 first|refine wpAny_bind (wpAny_pure ?_)|skip
 refine wpAny_bind (wpAny_sequenceKey ht.typeIs (by decide) ?_)
 refine wpAny_bind (wpAny_callSpecial?_slot (name:=Str.ofString "__getitem__") ht.typeIs PyProof.Rows.slot_tuple_getitem
  (wpAny_call_entry PyProof.Rows.slot_tuple_getitem ht.typeIs entry_tuple_getitem ?_ (args_tuple_getitem _ _)))
 show wpAny _ _ (Builtin.Tuple.tupleItemsOf (.ref t) >>= _) _ _ s;refine wpAny_bind (tupleItemsOf_ ht ?_);refine wpAny_bind (wpAny_typeOf hTs ?_);rw [if_pos (by decide)];refine wpAny_bind (eN hs pl pu ?_)
 have hyes:(((sIx items.size 0 lo:Nat):Int) == 0 && (1:Int) == 1 && (sIx items.size items.size hi - sIx items.size 0 lo) == items.size)=true:=by
  rw [hw.1,hw.2,Nat.sub_zero];simp
 show wpAny _ _ (if (((sIx items.size 0 lo:Nat):Int) == 0 && (1:Int) == 1 && (sIx items.size items.size hi - sIx items.size 0 lo) == items.size)=true then _ else _) _ _ s;rw [if_pos hyes];refine wpAny_bind (m:=Builtin.Tuple.tupleIsExact _) (wpAny_bind (wpAny_typeOf ht.typeIs (wpAny_pure ?_)));rw [if_pos (by decide)]
 first
  | exact wpAny_bind (m:=rule _) (wpAny_pure (wpAny_pure ⟨_,rfl,wpAny_pure h⟩))
  | exact wpAny_pure ⟨_,rfl,wpAny_pure h⟩
  | exact wpAny_bind (wpAny_rule (wpAny_pure ⟨_,rfl,wpAny_pure h⟩))
def AY(K:PySem.W.Frag):V->Option Int->Option Int->Hp->VK->Prop:=fun x lo hi H Q=>∃a xs,x=.ref a/\SqT K H a xs/\(sIx xs.length 0 lo=0/\sIx xs.length xs.length hi=xs.length)/\Q (.ref a) H
theorem yc{X:Cx}:SlR X (AY X.K):=by
 intro pins s σ H x v vl vu lo hi sl Q I rx hs pl pu h;obtain⟨a,xs,rfl,hx,hw,q⟩:=h;cases rx;obtain⟨its,r,ht,hz⟩:=I.tuple hx;have hlen:its.toArray.size=xs.length:=by rw [size_toArray];exact r.length.symm
 refine⟨"tuple",_,PyProof.Rows.slot_tuple_getitem.lookup,ht.typeIs,?_⟩;exact hV ht hs pl pu (by rw [hlen];exact hw) ⟨.ref a,H,I,rfl,q⟩
end
end L2
namespace L2
open PySem PySem.Spec PyProof.Rows
section
variable {K:PySem.W.Frag}{X:Cx}{ta tb tc to:TE}{pa pb pc:PA1}{pe:PTE}{tr:TA}{pr:PTA}
def sS(f f':F2)(pa pb pc:PA1):PTE:=fun ρ Q=>pa ρ fun x ρ1=>pb ρ1 fun y ρ2=>op2 f ρ2 x y fun p ρ3=>match p with
 | .dat (.bl k)=>fN k (pc ρ3 fun z ρ4=>op2 f' ρ4 y z Q) (Q (.dat (.bl false)) ρ3)
 | _=>False
theorem pH{r r':R2}{f f':F2}(o:LO K r f)(o':LO K r' f')(ha:LA1 K ta pa)(hb:LA1 K tb pb)(hc:LA1 K tc pc):LE K (o7 r r' ta tb tc) (sS f f' pa pb pc):=fun A ρ σ H Q Q' R q k =>
 ha A ρ σ H _ _ R q fun v H1 a ρ1 q1 f1 R1 o1=>hb A ρ1 σ H1 _ _ R1 q1 fun w H2 b ρ2 q2 f2 R2 o2=>by
  unfold op2 at q2
  split at q2
  .rename_i da db e1 e2;refine o _ H2 v w da db _ _ R2.dom2 (R2.cont (o1.keeps f2.keeps) e1) (R2.cont o2 e2) q2 fun z H3 p q3 g ov=>?_;dsimp only at q3
   split at q3
   .rename_i c;cases ov;refine⟨c,rfl,?_⟩;have R3:=R2.gr g
    cases c with
    | true =>
     refine hc A ρ2 σ H3 _ _ R3 q3 fun u H4 cc ρ4 q4 f4 R4 o4=>?_
     try unfold op2 at q4
     split at q4
     .rename_i dc dd e3 e4;have o2':AOk K (OO A ρ4 σ) σ H4 b w:=(o2.keeps (g.fr (ρ:=ρ2) (σ:=σ)).keeps).keeps f4.keeps;exact o' _ H4 w u _ _ _ _ R4.dom2 (R4.cont o2' e3) (R4.cont o4 e4) q4 fun z H5 p q5 g5 ov=>k z H5 p ρ4 q5 ((((f1.trans f2).trans g.fr).trans f4).trans g5.fr) ((ov.out R4 g5).h0 fun b z=>f4.dm b ((g.fr (ρ:=ρ2) (σ:=σ)).dm b (f2.dm b (f1.dm b z))))
     .exact q4.elim
    | false=>exact k _ H3 _ ρ2 q3 ((f1.trans f2).trans g.fr) ⟨R3,.bl false⟩
   .exact q3.elim
  .exact q2.elim
abbrev PTO:=PSt->(Option Int->PSt->Prop)->Prop
def LPo(K:PySem.W.Frag)(t:TO)(p:PTO):Prop:=∀(A:Addr->Prop) (ρ:PSt) (σ:St) (H:Hp) (Q:Option Int->PSt->Prop) (Q':Option Int->Hp->Prop),Rel K A ρ σ H->p ρ Q ->
 (∀b H' ρ',Q b ρ'->Fr ρ σ H ρ' H'->Rel K A ρ' σ H'->Q' b H')->t σ H Q'
def gE:PTO:=fun ρ Q=>Q none ρ
def e9(pe:PTE):PTO:=fun ρ Q=>pe ρ fun p ρ1=>match p with
 | .dat (.int i)=>Q (some i) ρ1
 | _=>False
theorem dw:LPo K r8 gE:=fun A ρ σ H Q Q' R q k=>k none H ρ q (Fr.refl _ _ _) R
theorem cN(h:LE K ta pe):LPo K (Am ta) (e9 pe):=fun A ρ σ H Q Q' R q k=>h A ρ σ H _ _ R q fun v H1 p ρ1 q1 f1 o1=>by
 split at q1
 .rename_i i;obtain⟨R1,f⟩:=o1;cases f;exact⟨i,rfl,k _ H1 ρ1 q1 f1 R1⟩
 .exact q1.elim
def C3(K:PySem.W.Frag):V->Option Int->Option Int->Hp->VK->Prop:=fun x lo hi H Q=>DS K x lo hi H Q\/DW x lo hi H Q\/DP K x lo hi H Q\/AY K x lo hi H Q
theorem vm(K:PySem.W.Frag)(e:X.K=K):SlR X (C3 K):=by
 subst e;exact SlR.or xM (SlR.or Az (SlR.or An yc))
def fSl:D->Option Int->Option Int->(PV->Prop)->Prop
 | .lst ds,lo,hi,Q=>Q (.own (eW ds lo hi))
 | .scr ns,lo,hi,Q=>Q (.own ((eW ns lo hi).map .int))
 | .str l,lo,hi,Q=>Q (.dat (.str (eW l lo hi)))
 | .tup ds,lo,hi,Q=>Q (.dat (.tup (eW ds lo hi)))
 | _,_,_,_=>False
theorem FVs.cut{O:Addr->Prop}{H:Hp}{xs:List V}{ds:List D}(f:FVs K O H xs ds)(lo hi:Option Int):FVs K O H (eW xs lo hi) (eW ds lo hi):=by
 unfold eW;rw [f.length];exact (f.drop _).take _
def fQ(pa:PA1)(pl ph:PTO):PTE:=fun ρ Q=>pa ρ fun x ρ1=>pl ρ1 fun lo ρ2=>ph ρ2 fun hi ρ3=>match cont ρ3 x with
 | some d=>fSl d lo hi fun p=>Q p ρ3
 | _=>False
theorem ye{α:Type}{ds:List α}{lo hi:Option Int}{n:Nat}(h:n=ds.length)(hw:HT.sIx n 0 lo=0/\HT.sIx n n hi=n):eW ds lo hi=ds:=by
 subst h;unfold eW;rw [hw.1,hw.2,drop_zero,Nat.sub_zero,take_length]
theorem lsl{O:Addr->Prop}{H:Hp}{x:V}{d:D}{lo hi:Option Int}{Q:PV->Prop}{Q':VK}(dom:∀b,O b->H b≠none)(fx:FVc K O H x d)(q:fSl d lo hi Q)(k:∀v H' p,Q p->Gr H H'->mn K O H H' p v->Q' v H'):C3 K x lo hi H Q':=by
 unfold fSl at q
 split at q
 .obtain⟨a,xs,rfl,e1,f1⟩:=fx.lst;exact .inl ⟨a,xs,rfl,SqL.of e1,fun p hp=>k _ _ _ q (Gr.new hp) (dL hp (f1.cut _ _))⟩
 .obtain⟨a,rfl,e1⟩:=fx.scr;exact .inl ⟨a,_,rfl,e1,fun p hp=>k _ _ _ q (Gr.new hp) (dL hp (by rw [sj,uW];exact FVs.of_ints _))⟩
 .exact .inr (.inl ⟨_,fx.str.1,sz _ fx.str.2,k _ H _ q (Gr.refl _) (.str _ (Nat.le_trans (j3 _ _ _) fx.str.2))⟩)
 .obtain⟨a,xs,rfl,n1,e1,f1⟩:=fx.tup
  by_cases hw:HT.sIx xs.length 0 lo=0/\HT.sIx xs.length xs.length hi=xs.length
  .refine .inr (.inr (.inr ⟨a,xs,rfl,SqT.of e1,hw,k _ H _ q (Gr.refl _) ?_⟩));rw [ye f1.length hw];exact .tup n1 e1 f1
  .exact .inr (.inr (.inl ⟨a,xs,rfl,SqT.of e1,hw,fun p hp=>k _ _ _ q (Gr.new hp) (jp dom hp (f1.cut _ _))⟩))
 .exact q.elim
theorem cZ{tl th:TO}{pl ph:PTO}(ha:LA1 K ta pa)(hl:LPo K tl pl)(hh:LPo K th ph):LE K (tSl (C3 K) ta tl th) (fQ pa pl ph):=fun A ρ σ H Q Q' R q k =>
 ha A ρ σ H _ _ R q fun v H1 a ρ1 q1 f1 R1 o1=>hl A ρ1 σ H1 _ _ R1 q1 fun lo H2 ρ2 q2 f2 R2=>hh A ρ2 σ H2 _ _ R2 q2 fun hi H3 ρ3 q3 f3 R3=>by
  split at q3
  .rename_i d e1;exact lsl R3.dom2 (R3.cont (o1.keeps (f2.trans f3).keeps) e1) q3 fun z H4 p q4 g ov=>k z H4 p ρ3 q4 (((f1.trans f2).trans f3).trans g.fr) ((ov.out R3 g).h0 fun b z=>f3.dm b (f2.dm b (f1.dm b z)))
  .exact q3.elim
abbrev FN:=List D->(PV->Prop)->Prop
def nS(K:PySem.W.Frag):List V->Hp->VK->Prop:=fun xs H Q=>(∃l,xs=[.str (S l)]/\l.length<=sizeLine/\Q (.int l.length) H)\/CL K xs H Q\/CM K xs H Q\/∃p kvs,xs=[.ref p]/\Rd H p (.dK kvs)/\Q (.int kvs.length) H
theorem df(K:PySem.W.Frag)(e:X.K=K):bP X (.builtin "len") (nS K):=by
 subst e;exact bP.or sw (bP.or sy (bP.or sA sL))
def iT:FN
 | [.str l],Q=>Q (.dat (.int l.length))
 | [.lst l],Q=>Q (.dat (.int l.length))
 | [.tup l],Q=>Q (.dat (.int l.length))
 | [.scr l],Q=>Q (.dat (.int l.length))
 | [.dic ks _],Q=>Q (.dat (.int ks.length))
 | _,_=>False
theorem b7:LC K (nS K) iT:=by
 intro O H xs as Q Q' dom fs q k;unfold iT at q
 split at q
 .cases fs with|cons a b=>cases b;rw [a.str.1];exact .inl ⟨_,rfl,sz _ a.str.2,k _ H _ q (Gr.refl _) (.int _)⟩
 .cases fs with
  | cons a b =>
   cases b;obtain⟨p,ys,rfl,e1,f1⟩:=a.lst;exact .inr (.inl ⟨p,ys,rfl,SqL.of e1,by rw [f1.length];exact k _ H _ q (Gr.refl _) (.int _)⟩)
 .cases fs with
  | cons a b =>
   cases b;obtain⟨p,ys,rfl,n1,e1,f1⟩:=a.tup;exact .inr (.inr (.inl ⟨p,ys,rfl,SqT.of e1,by rw [f1.length];exact k _ H _ q (Gr.refl _) (.int _)⟩))
 .cases fs with
  | cons a b =>
   cases b;obtain⟨p,rfl,e1⟩:=a.scr;exact .inr (.inl ⟨p,_,rfl,e1,by rw [length_map];exact k _ H _ q (Gr.refl _) (.int _)⟩)
 .cases fs with
  | cons a b =>
   cases b
   cases a.fv nofun nofun with
   | dic n e m f=>subst m;exact .inr (.inr (.inr ⟨_,_,rfl,.inl e,k _ H _ q (Gr.refl _) (by rw [length_map];exact .int _)⟩))
 .exact q.elim
inductive Kd where
 | int|bool|str|list|tuple|dict
def Kd.nm:Kd->String
 | .int=>"int"|.bool=>"bool"|.str=>"str"|.list=>"list"|.tuple=>"tuple"|.dict=>"dict"
def isK:Kd->D->Bool
 | .int,.int _=>true
 | .int,.bl _=>true
 | .bool,.bl _=>true
 | .str,.str _=>true
 | .list,.lst _=>true
 | .tuple,.tup _=>true
 | .dict,.dic _ _=>true
 | _,_=>false
def D.sort:D->Bool
 | .obj _ _ _=>false
 | .exc _ _ _=>false
 | .scr _=>false
 | .ty _=>false
 | _=>true
theorem FVc.ty{O:Addr->Prop}{H:Hp}{v:V}{d:D}(h:FVc K O H v d)(s:d.sort=true):∃t,nE K H v t/\∀k:Kd,PySem.W.kitOne K t (.type k.nm)=some (isK k d):=by
 rcases h with h|⟨a,xs,ds',rfl,rfl,e3,f⟩|⟨a,dx,c,fs,ns,ds',rfl,rfl,_⟩
 .cases h with
  | non=>exact⟨_,.non,fun k=>by cases k <;> rfl⟩
  | bl b=>exact⟨_,.bl b,fun k=>by cases k <;> rfl⟩
  | int i=>exact⟨_,.int i,fun k=>by cases k <;> rfl⟩
  | str l h=>exact⟨_,.str _,fun k=>by cases k <;> rfl⟩
  | ty n=>cases s
  | scr _=>cases s
  | lst n e f=>exact⟨_,.lst e,fun k=>by cases k <;> rfl⟩
  | tup n e f=>exact⟨_,.tup e,fun k=>by cases k <;> rfl⟩
  | dic n e m f=>exact⟨_,.dK e,fun k=>by cases k <;> rfl⟩
  | obj _ _ _ _=>cases s
  | exc0 _ _=>cases s
  | exc1 _ _ _ _ _ _=>cases s
 .exact⟨_,.lst e3,fun k=>by cases k <;> rfl⟩
 .cases s
theorem sU(K:PySem.W.Frag)(e:X.K=K):bP X (.builtin "isinstance") (DX K):=by subst e;exact nJ
def zF(k:Kd)(pa:PA1):PTE:=fun ρ Q=>pa ρ fun x ρ1=>match cont ρ1 x with
 | some d=>fN d.sort (Q (.dat (.bl (isK k d))) ρ1) False
 | _=>False
theorem my(k:Kd)(ha:LA1 K ta pa):LE K (tCB (DX K) (ba ta (ba (tC (.ty k.nm)) dN))) (zF k pa):=fun A ρ σ H Q Q' R q kk =>
 ha A ρ σ H _ _ R q fun v H1 a ρ1 q1 f1 R1 o1=>by
  split at q1
  .rename_i d e1
   cases hs:d.sort with
   | false=>rw [hs] at q1;exact q1.elim
   | true =>
    rw [hs] at q1;obtain⟨t,ty,hk⟩:=(R1.cont o1 e1).ty hs;exact⟨v,k.nm,t,isK k d,rfl,ty,hk k,kk _ H1 _ ρ1 q1 f1 ⟨R1,.bl _⟩⟩
  .exact q1.elim
end
structure vn where
 nx:PSt->Prop
 rt:PV->PSt->Prop
 bk:PSt->Prop:=fun _=>False
 ct:PSt->Prop:=fun _=>False
abbrev PTS:=vn->PSt->Prop
structure ck (fx:List (Nat×V)) (R:Addr->Prop) (H0:Hp) (ρ:PSt) (σ:St) (H:Hp):Prop where
 kp:∀b o,¬ R b->H0 b=some o->H b=some o
 dm:∀b,H0 b≠none->H b≠none
 ow:∀b,Wr ρ σ b->R b\/H0 b=none
 fx:∀p∈fx,σ[p.1]?=some (some p.2)
section
variable {K:PySem.W.Frag}{fx:List (Nat×V)}{A R:Addr->Prop}{H0 H H':Hp}{ρ ρ':PSt}{σ:St}
theorem ck.fr(F:ck fx R H0 ρ σ H)(f:Fr ρ σ H ρ' H'):ck fx R H0 ρ' σ H' :=
 ⟨fun b o n e=>f.kp b o (fun w=>(F.ow b w).elim n (fun z=>by rw [z] at e;cases e)) (F.kp b o n e),fun b z=>f.dm b (F.dm b z),fun b w=>F.ow b (f.ow b w),F.fx⟩
theorem ck.start(hfx:∀p∈fx,σ[p.1]?=some (some p.2)):ck fx (Wr ρ σ) H ρ σ H:=⟨fun _ _ _ h=>h,fun _ h=>h,fun _ h=>.inl h,hfx⟩
theorem ck.keepsR{ρ1:PSt}{σ1:St}{H1:Hp}(F:ck fx R H1 ρ σ H)(hR:∀b,R b->OO A ρ1 σ1 b):aK (OO A ρ1 σ1) H1 (OO A ρ σ) H:=fun b o n e=>by
 refine⟨fun z=>?_,F.kp b o (fun z=>n (hR b z)) e⟩
 rcases z with z|z
 .exact n (.inl z)
 .rcases F.ow b z with z|z
  .exact n (hR b z)
  .rw [z] at e;cases e
theorem ck.keeps{ρ1:PSt}{σ1:St}{H1:Hp}(F:ck fx (Wr ρ1 σ1) H1 ρ σ H):aK (OO A ρ1 σ1) H1 (OO A ρ σ) H:=F.keepsR fun b z=>.inr z
theorem ck.trans{fx':List (Nat×V)}{ρ1:PSt}{σ1:St}{H1:Hp}(F:ck fx R H0 ρ1 σ1 H1)(G:ck fx' (Wr ρ1 σ1) H1 ρ σ H)(hfx:∀p∈fx,σ[p.1]?=some (some p.2)):ck fx R H0 ρ σ H:=by
 refine⟨fun b o n e=>G.kp b o (fun w=>(F.ow b w).elim n (fun z=>by rw [z] at e;cases e)) (F.kp b o n e),fun b z=>G.dm b (F.dm b z),fun b w=>?_,hfx⟩
 rcases G.ow b w with z|z
 .exact F.ow b z
 .refine .inr ?_
  cases e:H0 b with
  | none=>rfl
  | some o=>exact absurd z (F.dm b (by rw [e];exact nofun))
theorem Out.put{p:PV}{v:V}{i:Nat}(h:Out K A ρ σ H0 H p v):Rel K A (ρ.set i (some p)) (σ.set i (some v)) H/\∀b,Wr (ρ.set i (some p)) (σ.set i (some v)) b->Wr ρ σ b\/H0 b=none:=by
 have get:∀(j:Nat) (q:PV),(ρ.set i (some p))[j]?=some (some q)->(j=i/\q=p/\i<ρ.length)\/(j≠i/\ρ[j]?=some (some q)):=fun j q e=>by
  by_cases z:i=j
  .subst z
   by_cases hi:i<ρ.length
   .rw [getElem?_set_self hi] at e;cases e;exact .inl ⟨rfl,rfl,hi⟩
   .rw [getElem?_eq_none (by rw [length_set];omega)] at e;cases e
  .rw [getElem?_set_ne z] at e;exact .inr ⟨fun q=>z q.symm,e⟩
 cases p with
 | dat d =>
  obtain⟨R1,f⟩:=h
  have ow:∀b,Wr (ρ.set i (some (.dat d))) (σ.set i (some v)) b->Wr ρ σ b:=fun b ⟨j,r,e1,o1,s1⟩=>by
   rcases get j r e1 with ⟨_,rfl,_⟩|⟨n,e⟩
   .cases o1
   .rw [getElem?_set_ne (fun z=>n z.symm)] at s1;exact⟨j,r,e,o1,s1⟩
  have k:aK (OO A ρ σ) H (OO A (ρ.set i (some (.dat d))) (σ.set i (some v))) H:=aK.less fun b z=>z.imp id (ow b)
  refine⟨⟨by rw [length_set,length_set];exact R1.len,fun j r e1=>?_,fun j l p1 q1 v' e1 e2 o1 o2 s1 s2=>?_,R1.dom,fun b z w=>R1.sep b z (ow b w)⟩,fun b w=>.inl (ow b w)⟩
  .rcases get j r e1 with ⟨rfl,rfl,hi⟩|⟨n,e⟩
   .exact⟨v,getElem?_set_self (by rw [<- R1.len];exact hi),f.keeps k⟩
   .obtain⟨u,s,r'⟩:=R1.get j r e;exact⟨u,by rw [getElem?_set_ne (fun z=>n z.symm)];exact s,r'.keeps k fun _ _ _=>rfl⟩
  .rcases get j p1 e1 with ⟨_,rfl,_⟩|⟨n1,e1⟩
   .cases o1
   .rcases get l q1 e2 with ⟨_,rfl,_⟩|⟨n2,e2⟩
    .cases o2
    .rw [getElem?_set_ne (fun z=>n1 z.symm)] at s1;rw [getElem?_set_ne (fun z=>n2 z.symm)] at s2;exact R1.dj j l p1 q1 v' e1 e2 o1 o2 s1 s2
 | own ds =>
  obtain⟨a,xs,rfl,na,hn,e0,R1,f⟩:=h
  have ow:∀b,Wr (ρ.set i (some (.own ds))) (σ.set i (some (.ref a))) b->Wr ρ σ b\/b=a:=fun b ⟨j,r,e1,o1,s1⟩=>by
   rcases get j r e1 with ⟨rfl,rfl,hi⟩|⟨n,e⟩
   .rw [getElem?_set_self (by rw [<- R1.len];exact hi)] at s1;cases s1;exact .inr rfl
   .rw [getElem?_set_ne (fun z=>n z.symm)] at s1;exact .inl ⟨j,r,e,o1,s1⟩
  have k:aK (OO (eo A a) ρ σ) H (OO A (ρ.set i (some (.own ds))) (σ.set i (some (.ref a)))) H:=aK.less fun b z=>by
   rcases z with z|z
   .exact .inl (.inl z)
   .rcases ow b z with z|z
    .exact .inr z
    .exact .inl (.inr z)
  refine⟨⟨by rw [length_set,length_set];exact R1.len,fun j r e1=>?_,fun j l p1 q1 v' e1 e2 o1 o2 s1 s2=>?_,fun b z=>R1.dom b (.inl z),fun b z w=>?_⟩,fun b w=>(ow b w).imp id fun z=>by rw [z];exact hn⟩
  .rcases get j r e1 with ⟨rfl,rfl,hi⟩|⟨n,e⟩
   .exact⟨_,getElem?_set_self (by rw [<- R1.len];exact hi),a,xs,rfl,e0,f.keeps k⟩
   .obtain⟨u,s,r'⟩:=R1.get j r e;exact⟨u,by rw [getElem?_set_ne (fun z=>n z.symm)];exact s,r'.keeps k fun _ _ _=>rfl⟩
  .rcases get j p1 e1 with ⟨rfl,rfl,hi⟩|⟨n1,e1'⟩
   .rw [getElem?_set_self (by rw [<- R1.len];exact hi)] at s1;cases s1
    rcases get l q1 e2 with ⟨rfl,rfl,_⟩|⟨n2,e2⟩
    .rfl
    .rw [getElem?_set_ne (fun z=>n2 z.symm)] at s2;exact absurd ⟨l,q1,e2,o2,s2⟩ (R1.sep a (.inr rfl))
   .rw [getElem?_set_ne (fun z=>n1 z.symm)] at s1
    rcases get l q1 e2 with ⟨rfl,rfl,hi⟩|⟨n2,e2⟩
    .rw [getElem?_set_self (by rw [<- R1.len];exact hi)] at s2;cases s2;exact absurd ⟨j,p1,e1',o1,s1⟩ (R1.sep a (.inr rfl))
    .rw [getElem?_set_ne (fun z=>n2 z.symm)] at s2;exact R1.dj j l p1 q1 v' e1' e2 o1 o2 s1 s2
  .rcases ow b w with w|w
   .exact R1.sep b (.inl z) w
   .rw [w] at z;exact na z
 | ins c ns ds =>
  obtain⟨a,dx,fs,rfl,na,hn,e0,m,R1,f⟩:=h
  have ow:∀b,Wr (ρ.set i (some (.ins c ns ds))) (σ.set i (some (.ref a))) b->Wr ρ σ b\/b=a:=fun b ⟨j,r,e1,o1,s1⟩=>by
   rcases get j r e1 with ⟨rfl,rfl,hi⟩|⟨n,e⟩
   .rw [getElem?_set_self (by rw [<- R1.len];exact hi)] at s1;cases s1;exact .inr rfl
   .rw [getElem?_set_ne (fun z=>n z.symm)] at s1;exact .inl ⟨j,r,e,o1,s1⟩
  have k:aK (OO (eo A a) ρ σ) H (OO A (ρ.set i (some (.ins c ns ds))) (σ.set i (some (.ref a)))) H:=aK.less fun b z=>by
   rcases z with z|z
   .exact .inl (.inl z)
   .rcases ow b z with z|z
    .exact .inr z
    .exact .inl (.inr z)
  refine⟨⟨by rw [length_set,length_set];exact R1.len,fun j r e1=>?_,fun j l p1 q1 v' e1 e2 o1 o2 s1 s2=>?_,fun b z=>R1.dom b (.inl z),fun b z w=>?_⟩,fun b w=>(ow b w).imp id fun z=>by rw [z];exact hn⟩
  .rcases get j r e1 with ⟨rfl,rfl,hi⟩|⟨n,e⟩
   .exact⟨_,getElem?_set_self (by rw [<- R1.len];exact hi),a,dx,fs,rfl,e0,m,f.keeps k⟩
   .obtain⟨u,s,r'⟩:=R1.get j r e;exact⟨u,by rw [getElem?_set_ne (fun z=>n z.symm)];exact s,r'.keeps k fun _ _ _=>rfl⟩
  .rcases get j p1 e1 with ⟨rfl,rfl,hi⟩|⟨n1,e1'⟩
   .rw [getElem?_set_self (by rw [<- R1.len];exact hi)] at s1;cases s1
    rcases get l q1 e2 with ⟨rfl,rfl,_⟩|⟨n2,e2⟩
    .rfl
    .rw [getElem?_set_ne (fun z=>n2 z.symm)] at s2;exact absurd ⟨l,q1,e2,o2,s2⟩ (R1.sep a (.inr rfl))
   .rw [getElem?_set_ne (fun z=>n1 z.symm)] at s1
    rcases get l q1 e2 with ⟨rfl,rfl,hi⟩|⟨n2,e2⟩
    .rw [getElem?_set_self (by rw [<- R1.len];exact hi)] at s2;cases s2;exact absurd ⟨j,p1,e1',o1,s1⟩ (R1.sep a (.inr rfl))
    .rw [getElem?_set_ne (fun z=>n2 z.symm)] at s2;exact R1.dj j l p1 q1 v' e1' e2 o1 o2 s1 s2
  .rcases ow b w with w|w
   .exact R1.sep b (.inl z) w
   .rw [w] at z;exact na z
end
abbrev PTG:=PV->PSt->(PSt->Prop)->Prop
abbrev yf:=List D->PSt->(PSt->Prop)->Prop
def LG(K:PySem.W.Frag)(fs:List Nat)(g:TG)(pg:PTG):Prop:=∀(fx:List (Nat×V)) (A R:Addr->Prop) (H0:Hp) (ρ:PSt) (σ:St) (H:Hp) (p:PV) (v:V) (Q:PSt->Prop) (Q':St->Hp->Prop),fx.map Prod.fst=fs->ck fx R H0 ρ σ H->Out K A ρ σ H0 H p v->pg p ρ Q ->
 (∀ρ' σ' H',Q ρ'->Rel K A ρ' σ' H'->ck fx R H0 ρ' σ' H'->Q' σ' H')->g v σ H Q'
def LGs(K:PySem.W.Frag)(fs:List Nat)(g:TGs)(pg:yf):Prop:=∀(fx:List (Nat×V)) (A R:Addr->Prop) (H0:Hp) (ρ:PSt) (σ:St) (H:Hp) (ds:List D) (vs:List V) (Q:PSt->Prop) (Q':St->Hp->Prop),fx.map Prod.fst=fs->ck fx R H0 ρ σ H->Rel K A ρ σ H->FVs K (OO A ρ σ) H vs ds->pg ds ρ Q ->
 (∀ρ' σ',Q ρ'->Rel K A ρ' σ' H->ck fx R H0 ρ' σ' H->(∀b,Wr ρ' σ' b->Wr ρ σ b)->Q' σ' H)->g vs σ H Q'
def LGd(K:PySem.W.Frag)(fs:List Nat)(g:TG)(pg:PTG):Prop:=∀(fx:List (Nat×V)) (A R:Addr->Prop) (H0:Hp) (ρ:PSt) (σ:St) (H:Hp) (d:D) (v:V) (Q:PSt->Prop) (Q':St->Hp->Prop),fx.map Prod.fst=fs->ck fx R H0 ρ σ H->Rel K A ρ σ H->FV K (OO A ρ σ) H v d->pg (.dat d) ρ Q ->
 (∀ρ' σ',Q ρ'->Rel K A ρ' σ' H->ck fx R H0 ρ' σ' H->(∀b,Wr ρ' σ' b->Wr ρ σ b)->Q' σ' H)->g v σ H Q'
def al(i:Nat):PTG:=fun p ρ Q=>Q (ρ.set i (some p))
def sV:yf:=fun ds ρ Q=>match ds with|[]=>Q ρ|_=>False
def iA(g:PTG)(gs:yf):yf:=fun ds ρ Q=>match ds with|d::r=>g (.dat d) ρ fun ρ1=>gs r ρ1 Q|[]=>False
section
variable {K:PySem.W.Frag}{fs:List Nat}
theorem ck.put{fx:List (Nat×V)}{R:Addr->Prop}{H0 H:Hp}{ρ:PSt}{σ:St}{i:Nat}{p:PV}{v:V}(hf:fx.map Prod.fst=fs)(hi:fs.contains i=false)(F:ck fx R H0 ρ σ H)(ow:∀b,Wr (ρ.set i (some p)) (σ.set i (some v)) b->Wr ρ σ b\/H0 b=none):ck fx R H0 (ρ.set i (some p)) (σ.set i (some v)) H :=
 ⟨F.kp,F.dm,fun b w=>(ow b w).elim (F.ow b) .inr,fun q hq=>by
  have:q.1≠i:=fun z=>by
   have h1:i∈fs:=by rw [<- hf,<- z];exact mem_map_of_mem hq
   rw [contains_iff_mem.mpr h1] at hi;cases hi
  rw [getElem?_set_ne (fun z=>this z.symm)];exact F.fx q hq⟩
theorem au{i:Nat}(hi:fs.contains i=false):LG K fs (b3 i) (al i):=fun fx A R H0 ρ σ H p v Q Q' hf F o q k=>k _ _ _ q o.put.1 (F.put hf hi o.put.2)
theorem nU:LGs K fs DM sV:=fun fx A R H0 ρ σ H ds vs Q Q' hf F r fv q k=>by
 unfold sV at q
 split at q
 .cases fv;exact⟨rfl,k _ _ q r F fun _ h=>h⟩
 .exact q.elim
theorem aw{i:Nat}(hi:fs.contains i=false):LGd K fs (b3 i) (al i):=fun fx A R H0 ρ σ H d v Q Q' hf F r fv q k=>by
 have o:Out K A ρ σ H0 H (.dat d) v:=⟨r,fv⟩
 have ow:∀b,Wr (ρ.set i (some (.dat d))) (σ.set i (some v)) b->Wr ρ σ b:=fun b ⟨j,p,e1,o1,s1⟩=>by
  by_cases z:i=j
  .subst z
   by_cases hl:i<ρ.length
   .rw [getElem?_set_self hl] at e1;cases e1;cases o1
   .rw [getElem?_eq_none (by rw [length_set];omega)] at e1;cases e1
  .rw [getElem?_set_ne z] at e1 s1;exact⟨j,p,e1,o1,s1⟩
 exact k _ _ q o.put.1 (F.put hf hi o.put.2) ow
theorem fB{g:TG}{pg:PTG}{gs:TGs}{pgs:yf}(hg:LGd K fs g pg)(h:LGs K fs gs pgs):LGs K fs (zY g gs) (iA pg pgs):=fun fx A R H0 ρ σ H ds vs Q Q' hf F r fv q k=>by
 unfold iA at q
 split at q
 .cases fv with
  | cons a b =>
   exact⟨_,_,rfl,hg fx A R H0 ρ σ H _ _ _ _ hf F r a q fun ρ1 σ1 q1 r1 F1 w1=>h fx A R H0 ρ1 σ1 H _ _ _ _ hf F1 r1 (b.keeps (aK.less fun b z=>z.imp id (w1 b))) q1 fun ρ2 σ2 q2 r2 F2 w2=>k ρ2 σ2 q2 r2 F2 fun b z=>w1 b (w2 b z)⟩
 .exact q.elim
end
def LS(K:PySem.W.Frag)(fs:List Nat)(ts:TS)(ps:PTS):Prop:=∀(fx:List (Nat×V)) (A R:Addr->Prop) (H0:Hp) (ρ:PSt) (σ:St) (H:Hp) (D:vn) (D':rD),fx.map Prod.fst=fs->Rel K A ρ σ H->ck fx R H0 ρ σ H->ps D ρ ->
 (∀ρ' σ' H',D.nx ρ'->Rel K A ρ' σ' H'->ck fx R H0 ρ' σ' H'->D'.nx σ' H') ->
 (∀v p ρ' σ' H',D.rt p ρ'->Out K A ρ' σ' H0 H' p v->ck fx R H0 ρ' σ' H'->D'.rt v H') ->
 (∀ρ' σ' H',D.bk ρ'->Rel K A ρ' σ' H'->ck fx R H0 ρ' σ' H'->D'.bk σ' H') ->
 (∀ρ' σ' H',D.ct ρ'->Rel K A ρ' σ' H'->ck fx R H0 ρ' σ' H'->D'.ct σ' H')->ts D' σ H
def cE:PTS:=fun D ρ=>D.nx ρ
def aH(a b:PTS):PTS:=fun D ρ=>a { D with nx:=b D } ρ
def fb(pe:PTE):PTS:=fun D ρ=>pe ρ fun _ ρ1=>D.nx ρ1
def bX(pe:PTE):PTS:=fun D ρ=>pe ρ D.rt
def ku(t:PTT)(a b:PTS):PTS:=fun D ρ=>t ρ fun c ρ1=>fN c (a D ρ1) (b D ρ1)
def nV:PTS:=fun _ _=>False
def aZ(pe:PTE)(g:PTG):PTS:=fun D ρ=>pe ρ fun p ρ1=>g p ρ1 D.nx
def mz(a:PTS):PTS:=fun D ρ=>∃J:PSt->Prop,a { D with nx:=J } ρ/\∀ρ',J ρ'->D.nx ρ'
section
variable {K:PySem.W.Frag}{fs:List Nat}{ta tb:TS}{pa pb:PTS}{te:TE}{pe:PTE}{tt:TT}{pt:PTT}
theorem bS:LS K fs zX cE:=fun fx A R H0 ρ σ H D D' hf r F q k1 k2 k3 k4=>k1 _ _ _ q r F
theorem pI:LS K fs wt nV:=fun fx A R H0 ρ σ H D D' hf r F q k1 k2 k3 k4=>q
theorem ax(ha:LS K fs ta pa)(hb:LS K fs tb pb):LS K fs (zy ta tb) (aH pa pb):=fun fx A R H0 ρ σ H D D' hf r F q k1 k2 k3 k4 =>
 ha fx A R H0 ρ σ H _ _ hf r F q (fun ρ1 σ1 H1 q1 r1 F1=>hb fx A R H0 ρ1 σ1 H1 _ _ hf r1 F1 q1 k1 k2 k3 k4) k2 k3 k4
theorem dg(h:LE K te pe):LS K fs (xu te) (fb pe):=fun fx A R H0 ρ σ H D D' hf r F q k1 k2 k3 k4=>h A ρ σ H _ _ r q fun v H1 p ρ1 q1 f1 o1=>k1 _ _ _ q1 o1.frz.1 (F.fr f1)
theorem bb(h:LE K te pe):LS K fs (DK te) (bX pe):=fun fx A R H0 ρ σ H D D' hf r F q k1 k2 k3 k4=>h A ρ σ H _ _ r q fun v H1 p ρ1 q1 f1 o1=>k2 v p ρ1 σ H1 q1 (o1.h0 F.dm) (F.fr f1)
theorem eX(ht:LT K tt pt)(ha:LS K fs ta pa)(hb:LS K fs tb pb):LS K fs (Cm tt ta tb) (ku pt pa pb):=fun fx A R H0 ρ σ H D D' hf r F q k1 k2 k3 k4=>ht A ρ σ H _ _ r q fun c H1 ρ1 q1 f1 r1=>by
 cases c with
 | true=>exact ha fx A R H0 ρ1 σ H1 D D' hf r1 (F.fr f1) q1 k1 k2 k3 k4
 | false=>exact hb fx A R H0 ρ1 σ H1 D D' hf r1 (F.fr f1) q1 k1 k2 k3 k4
theorem aE{g:TG}{pg:PTG}(h:LE K te pe)(hg:LG K fs g pg):LS K fs (wv te g) (aZ pe pg):=fun fx A R H0 ρ σ H D D' hf r F q k1 k2 k3 k4=>h A ρ σ H _ _ r q fun v H1 p ρ1 q1 f1 o1 =>
 hg fx A R H0 ρ1 σ H1 p v _ _ hf (F.fr f1) (o1.h0 F.dm) q1 k1
theorem li(h:LS K fs ta pa):LS K fs (AL ta) (mz pa):=fun fx A R H0 ρ σ H D D' hf r F q k1 k2 k3 k4=>by
 obtain⟨J,q1,q2⟩:=q;refine⟨fun σ' H'=>∃ρ',J ρ'/\Rel K A ρ' σ' H'/\ck fx R H0 ρ' σ' H',?_,fun σ' H' ⟨ρ',j,r',F'⟩=>k1 ρ' σ' H' (q2 ρ' j) r' F'⟩;exact h fx A R H0 ρ σ H _ _ hf r F q1 (fun ρ' σ' H' j r' F'=>⟨ρ',j,r',F'⟩) k2 k3 k4
end
def iU(K:PySem.W.Frag)(tl:TE):TI:=fun σ H R=>tl σ H fun x H1=>(∃k a xs,x=.ref a/\Sq k K H1 a xs/\R (Itk k K a) H1)\/∃l,x=.str (S l)/\R (Its (e6 l)) H1
section
variable {X:Cx}{tg:Expr}
theorem yg{l:Expr}{tl:TE}(hl:PE X l tl):PI X tg l (iU X.K tl):=by
 intro pins s σ H R I h;refine thn (hl pins s σ H _ I h) fun v s1 ⟨x,H1,I1,r1,q1⟩=>?_
 have fin:∀b∈[s1.heap.objs.size],rl X pins H1 b:=fun b hb=>by
  have e:b=s1.heap.objs.size:=by simpa using hb
  subst e;exact I1.fpOk (Nat.le_refl _) (I1.hok.fresh (Nat.le_refl _))
 rcases q1 with ⟨k,a,xs,e,hq,q⟩|⟨l,e,q⟩
 .subst e;cases r1
  cases k with
  | false =>
   obtain⟨its,rv,p,hz⟩:=I1.list hq;refine wpAny_pyIter_list p.isList ?_;exact⟨s1.heap.objs.size,[s1.heap.objs.size],_,_,H1,rfl,I1.kept (t':=s1.toks) fun b o e=>Heap.get?_push_of_some _ e,rH a _,⟨_,Heap.get?_push_size _ rfl,rfl,rfl⟩,fin,q⟩
  | true =>
   obtain⟨its,rv,p,hz⟩:=I1.tuple hq;refine wpAny_pyIter_tuple (show s1.heap.IsTuple a its.toArray from p) ?_;exact⟨s1.heap.objs.size,[s1.heap.objs.size],_,_,H1,rfl,I1.kept (t':=s1.toks) fun b o e=>Heap.get?_push_of_some _ e,qg a _,⟨_,Heap.get?_push_size _ rfl,rfl,rfl⟩,fin,q⟩
 .subst e;obtain⟨t,rfl⟩:=r1
  have hv:∀i v,i<(S l).cps.size->SignAt (S l) i v->∃x,(e6 l)[i]?=some x/\cJ x v:=fun i v _ ⟨c,u,hc,e⟩=>by
   subst e;have hc':l[i]?=some c:=by simpa [S] using hc
   exact⟨.str (S [c]),by unfold e6;rw [getElem?_map,hc'];rfl,u,rfl⟩
  have hsc:∀i v,SignAt (S l) i v->∀a,v≠.ref a:=fun i v ⟨c,u,hc,e⟩ a z=>by subst e;cases z
  have hn:(e6 l).length=(S l).cps.size:=by rw [gZ];simp [S]
  have hobj:∀ty i (h:Heap),h.IsStrIter s1.heap.objs.size ty (S l) t i->∃o,h.get? s1.heap.objs.size=some o/\∀v,o.data≠.cell v:=fun ty i h ⟨o,ho,_,hd⟩=>⟨o,ho,fun v z=>by rw [hd] at z;cases z⟩
  have hfr:∀ty i (h h':Heap),h.IsStrIter s1.heap.objs.size ty (S l) t i->(∀b∈[s1.heap.objs.size],∀o,h.get? b=some o->h'.get? b=some o)->h'.IsStrIter s1.heap.objs.size ty (S l) t i:=fun ty i h h' ⟨o,ho,r⟩ k=>⟨o,k _ (by simp) o ho,r⟩
  cases ha:(S l).cps.all (·<128)
  .refine wpAny_pyIter_wide ha ⟨s1.heap.objs.size,[s1.heap.objs.size],_,Its (e6 l),H1,rfl,I1.kept (t':=s1.toks) fun b o e=>Heap.get?_push_of_some _ e,
    jk (fun A hA=>Walks.strWide hA _ (S l) t) hn hv hsc (hobj _) (hfr _) (fun A i s Q E st q=>wpAny_pyIter_striter_wide st q),⟨_,Heap.get?_push_size _ rfl,rfl,rfl⟩,fin,q⟩
  .refine wpAny_pyIter_ascii ha ⟨s1.heap.objs.size,[s1.heap.objs.size],_,Its (e6 l),H1,rfl,I1.kept (t':=s1.toks) fun b o e=>Heap.get?_push_of_some _ e,
    jk (fun A hA=>Walks.strAscii hA _ (S l) t) hn hv hsc (hobj _) (hfr _) (fun A i s Q E st q=>wpAny_pyIter_striter_ascii st q),⟨_,Heap.get?_push_size _ rfl,rfl,rfl⟩,fin,q⟩
theorem bY(K:PySem.W.Frag)(e:X.K=K){l:Expr}{tl:TE}(hl:PE X l tl):PI X tg l (iU K tl):=by subst e;exact yg hl
end
abbrev PTI:=PSt->(Nat->(Nat->D)->PSt->Prop)->Prop
def Wlk(K:PySem.W.Frag)(O:Addr->Prop)(H:Hp)(J:It)(n:Nat)(it:Nat->D):Prop:=∀(O':Addr->Prop) (H':Hp),aK O H O' H'->(∀b,O' b->H' b≠none) ->
 (∀k,k<n->J.go k H'/\∀x H'',J.yld k H' x H''->Gr H' H''/\FV K O' H'' x (it k))/\J.stop n H'
def LI(K:PySem.W.Frag)(wi:TI)(pi:PTI):Prop:=∀(A:Addr->Prop) (ρ:PSt) (σ:St) (H:Hp) (Q:Nat->(Nat->D)->PSt->Prop) (Q':It->Hp->Prop),Rel K A ρ σ H->pi ρ Q ->
 (∀J H' n it ρ',Q n it ρ'->Fr ρ σ H ρ' H'->Rel K A ρ' σ H'->Wlk K (OO A ρ' σ) H' J n it->Q' J H')->wi σ H Q'
def itD(ds:List D)(k:Nat):D:=ds.getD k .non
theorem dP{ds:List D}{k:Nat}{d:D}(h:ds[k]?=some d):itD ds k=d:=by unfold itD;rw [getD_eq_getElem?_getD,h];rfl
def DZ:D->Option (Nat×(Nat->D))
 | .lst ds=>some (ds.length,itD ds)
 | .tup ds=>some (ds.length,itD ds)
 | .scr ns=>some (ns.length,fun k=>.int (ns.getD k 0))
 | .str l=>some (l.length,fun k=>.str [l.getD k 0])
 | _=>none
def cT(pe:PTE):PTI:=fun ρ Q=>pe ρ fun p ρ1=>match DZ p.d with
 | some (n,it)=>Q n it ρ1
 | none=>False
section
variable {K:PySem.W.Frag}{te:TE}{pe:PTE}{ta:TA}{pa:PTA}
theorem FV.row{O:Addr->Prop}{H:Hp}{v:V}{d:D}{n:Nat}{it:Nat->D}(h:FV K O H v d)(e:DZ d=some (n,it)) :
  (∃k a xs,v=.ref a/\xs.length=n/\(∀O' H',aK O H O' H'->Sq k K H' a xs/\∀j x,xs[j]?=some x->FV K O' H' x (it j)))\/∃l,v=.str (S l)/\l.length=n/\(∀k,it k=.str [l.getD k 0]):=by
 cases h with
 | lst nn e0 f =>
  cases e;refine .inl ⟨false,_,_,rfl,f.length,fun O' H' k=>⟨SqL.of (k _ _ nn e0).2,fun j x hx=>?_⟩⟩;obtain⟨d,hd,fd⟩:=f.get hx;rw [dP hd];exact fd.keeps k
 | tup nn e0 f =>
  cases e;refine .inl ⟨true,_,_,rfl,f.length,fun O' H' k=>⟨SqT.of (k _ _ nn e0).2,fun j x hx=>?_⟩⟩;obtain⟨d,hd,fd⟩:=f.get hx;rw [dP hd];exact fd.keeps k
 | scr s =>
  cases e;refine .inl ⟨false,_,_,rfl,length_map _,fun O' H' k=>⟨(s.keeps k).sq,fun j x hx=>?_⟩⟩;obtain⟨z,hz,rfl⟩:=uV hx;show FV K O' H' (V.int z) (D.int (List.getD _ j 0));rw [getD_eq_getElem?_getD,hz];exact .int z
 | str l hl=>cases e;exact .inr ⟨l,rfl,rfl,fun _=>rfl⟩
 | non=>cases e
 | bl b=>cases e
 | int i=>cases e
 | ty n=>cases e
 | dic _ _ _ _=>cases e
 | obj _ _ _ _=>cases e
 | exc0 _ _=>cases e
 | exc1 _ _ _ _ _ _=>cases e
theorem bM(h:LE K te pe):LI K (iU K te) (cT pe):=fun A ρ σ H Q Q' R q k=>h A ρ σ H _ _ R q fun v H1 p ρ1 q1 f1 o1=>by
 obtain⟨R1,fv⟩:=o1.frz
 split at q1
 .rename_i n it e
  rcases fv.row e with ⟨b,a,xs,rfl,hl,hr⟩|⟨l,rfl,hl,hi⟩
  .refine .inl ⟨b,a,xs,rfl,(hr _ H1 (fun b o n h=>⟨n,h⟩)).1,k _ H1 n it ρ1 q1 f1 R1 fun O' H' kk dom=>?_⟩;obtain⟨sq,hx⟩:=hr O' H' kk
   cases b with
   | false =>
    refine⟨fun j hj=>⟨⟨xs,_,sq,getElem?_eq_getElem (by rw [hl];exact hj)⟩,fun x H'' ⟨e,y⟩=>?_⟩,⟨xs,sq,by rw [hl];exact Nat.le_refl _⟩⟩;subst e;exact⟨Gr.refl _,hx j x (y xs sq)⟩
   | true =>
    refine⟨fun j hj=>⟨⟨xs,_,sq,getElem?_eq_getElem (by rw [hl];exact hj)⟩,fun x H'' ⟨e,y⟩=>?_⟩,⟨xs,sq,by rw [hl];exact Nat.le_refl _⟩⟩;subst e;exact⟨Gr.refl _,hx j x (y xs sq)⟩
  .refine .inr ⟨l,rfl,k _ H1 n it ρ1 q1 f1 R1 fun O' H' kk dom=>?_⟩;refine⟨fun j hj=>⟨by show j<(e6 l).length;rw [gZ,hl];exact hj,fun x H'' ⟨e,y⟩=>?_⟩,by show (e6 l).length=n;rw [gZ,hl]⟩;subst e;obtain⟨c,hc,rfl⟩:=qw y;rw [hi,getD_eq_getElem?_getD,hc];exact⟨Gr.refl _,.str _ (by show 1<=1000000;decide)⟩
 .exact q1.elim
def qH(pa:PTA):PTI:=fun ρ Q=>pa ρ fun as ρ1=>match as with
 | [.v (.int j)]=>(-(2^60)<=j/\j<2^60)/\Q j.toNat (fun k=>.int (k:Int)) ρ1
 | _=>False
def C4(pa:PTA):PTI:=fun ρ Q=>pa ρ fun as ρ1=>match as with
 | [.v (.int i),.v (.int j),.v (.int (-1))]=>(-(2^60)<=i/\i<2^60/\-(2^60)<=j/\j<2^60)/\Q (i - j).toNat (fun k=>.int (i - (k:Int))) ρ1
 | _=>False
theorem C5{O:Addr->Prop}{H:Hp}{lo:Int}{n:Nat}{it:Nat->D}(h:∀k:Nat,it k=.int (lo+k)):Wlk K O H (Itr lo n) n it:=fun O' H' _ _ =>
 ⟨fun j hj=>⟨hj,fun x H'' ⟨e,y⟩=>by subst e y;rw [h];exact⟨Gr.refl _,.int _⟩⟩,Nat.le_refl _⟩
theorem C6{O:Addr->Prop}{H:Hp}{lo:Int}{n:Nat}:Wlk K O H (Its (k6 lo n)) n (fun k=>.int (lo - (k:Int))):=fun O' H' _ _ =>
 ⟨fun j hj=>⟨by show j<(k6 lo n).length;rw [jl];exact hj,fun x H'' ⟨e,y⟩=>by subst e;rw [(sv y).2];exact⟨Gr.refl _,.int _⟩⟩,jl _ _⟩
theorem gF(h:LAs K ta pa):LI K (jd ta) (qH pa):=fun A ρ σ H Q Q' R q k=>h A ρ σ H _ _ R q fun vs H1 as ρ1 q1 f1 R1 o1=>by
 split at q1
 .rename_i j
  cases o1 with
  | cons a b =>
   cases b;cases a;exact⟨j,rfl,by omega,by omega,k _ H1 _ _ ρ1 q1.2 f1 R1 (C5 fun k=>by rw [Int.zero_add])⟩
 .exact q1.elim
theorem AZ(h:LAs K ta pa):LI K (AA ta) (C4 pa):=fun A ρ σ H Q Q' R q k=>h A ρ σ H _ _ R q fun vs H1 as ρ1 q1 f1 R1 o1=>by
 split at q1
 .rename_i i j
  cases o1 with
  | cons a b =>
   cases b with
   | cons c d =>
    cases d with
    | cons e f =>
     cases f;cases a;cases c;cases e;exact⟨i,j,rfl,q1.1,k _ H1 _ _ ρ1 q1.2 f1 R1 C6⟩
 .exact q1.elim
def rowD:D->Option (List D)
 | .lst ds=>some ds
 | .tup ds=>some ds
 | .scr ns=>some (ns.map .int)
 | _=>none
theorem FV.rowD{O:Addr->Prop}{H:Hp}{v:V}{d:D}{ds:List D}(h:FV K O H v d)(e:L2.rowD d=some ds) :
  ∃k a xs,v=.ref a/\xs.length=ds.length/\(∀O' H',aK O H O' H'->Sq k K H' a xs/\FVs K O' H' xs ds):=by
 cases h with
 | lst nn e0 f=>cases e;exact⟨false,_,_,rfl,f.length,fun O' H' k=>⟨SqL.of (k _ _ nn e0).2,f.keeps k⟩⟩
 | tup nn e0 f=>cases e;exact⟨true,_,_,rfl,f.length,fun O' H' k=>⟨SqT.of (k _ _ nn e0).2,f.keeps k⟩⟩
 | scr s=>cases e;exact⟨false,_,_,rfl,by rw [length_map,length_map],fun O' H' k=>⟨(s.keeps k).sq,FVs.of_ints _⟩⟩
 | str l hl=>cases e
 | non=>cases e
 | bl b=>cases e
 | int i=>cases e
 | ty n=>cases e
 | dic _ _ _ _=>cases e
 | obj _ _ _ _=>cases e
 | exc0 _ _=>cases e
 | exc1 _ _ _ _ _ _=>cases e
def sW(pa:PTA):PTI:=fun ρ Q=>pa ρ fun as ρ1=>match as with
 | [.v a]=>(match rowD a with
  | some xs=>Q xs.length (fun k=>.tup [.int (k:Int),itD xs k]) ρ1
  | _=>False)
 | _=>False
theorem sX(h:LAs K ta pa):LI K (xY K ta) (sW pa):=fun A ρ σ H Q Q' R q k=>h A ρ σ H _ _ R q fun vs H1 as ρ1 q1 f1 R1 o1=>by
 split at q1
 .rename_i da
  cases o1 with
  | cons o1 o3 =>
   cases o3
   split at q1
   .rename_i xs ex;obtain⟨b1,a1,us,rfl,l1,w1⟩:=FV.rowD (show FV K _ H1 _ da from o1) ex;have t1:=w1 _ H1 (fun b o n h=>⟨n,h⟩);refine⟨b1,a1,rfl,⟨us,t1.1⟩,k _ H1 _ _ ρ1 q1 f1 R1 fun O' H' kk dom=>?_⟩;obtain⟨s1,g1⟩:=w1 O' H' kk;refine⟨fun j hj=>?_,⟨us,s1,by omega⟩⟩;have h1:j<us.length:=by omega
    refine⟨⟨us,_,s1,getElem?_eq_getElem h1⟩,fun x H'' ⟨T,u,hT,e,y1,e2⟩=>?_⟩;subst e e2;obtain⟨d1,hd1,fd1⟩:=g1.get (y1 us s1);have e1:itD xs j=d1:=by unfold itD;rw [getD_eq_getElem?_getD,hd1];rfl
    rw [e1];have kk2:aK O' H' O' (upd H' T (.tup [.int (j:Int),u])):=fun b o n e=>⟨n,by rw [aj (aN e hT)];exact e⟩
    exact⟨Gr.new hT,.tup (fun z=>dom T z hT) aA (.cons (.int _) (.cons (fd1.keeps kk2) .nil))⟩
   .exact q1.elim
 .exact q1.elim
end
def gc(pi:PTI)(g:PTG)(pb:PTS):PTS:=fun D ρ=>pi ρ fun n it ρ1=>∃I:Nat->PSt->Prop,I 0 ρ1/\(∀k ρ d,k<n->d=it k->I k ρ->g (.dat d) ρ fun ρ2=>pb { D with nx:=I (k+1),ct:=I (k+1),bk:=D.nx } ρ2)/\∀ρ,I n ρ->D.nx ρ
def nW(pt:PTT)(pb:PTS):PTS:=fun D ρ=>∃I:Nat->PSt->Prop,(∃m,I m ρ)/\∀m ρ,I m ρ->pt ρ fun b ρ1=>fN b (pb { D with nx:=fun ρ'=>∃m',m'<m/\I m' ρ',ct:=fun ρ'=>∃m',m'<m/\I m' ρ',bk:=D.nx } ρ1) (D.nx ρ1)
section
variable {K:PySem.W.Frag}{fs:List Nat}{wi:TI}{pi:PTI}{g:TG}{pg:PTG}{tb:TS}{pb:PTS}{tt:TT}{pt:PTT}
theorem dQ(hi:LI K wi pi)(hg:LGd K fs g pg)(hb:LS K fs tb pb):LS K fs (B8 wi g tb) (gc pi pg pb):=fun fx A R H0 ρ σ H D D' hf r F q k1 k2 k3 k4=>hi A ρ σ H _ _ r q fun J H1 n it ρ1 q1 f1 r1 W=>by
 obtain⟨I,i0,turn,after⟩:=q1;have F1:=F.fr f1;refine⟨fun i m σ' H'=>i+m=n/\∃ρ',I i ρ'/\Rel K A ρ' σ' H'/\ck fx (Wr ρ1 σ) H1 ρ' σ' H',⟨n,Nat.zero_add n,ρ1,i0,r1,ck.start F1.fx⟩,fun i m σ' H' ⟨him,ρ',iv,r',F'⟩=>?_⟩;obtain⟨go,stop⟩:=W _ H' F'.keeps r'.dom2
 by_cases hk:i<n
 .obtain⟨g1,g2⟩:=go i hk;refine .inr ⟨g1,fun σ'' H''=>∃ρ'',I (i+1) ρ''/\Rel K A ρ'' σ'' H''/\ck fx (Wr ρ1 σ) H1 ρ'' σ'' H'',fun σ'' H'' z=>⟨m - 1,by omega,by omega,z⟩,fun x H'' y=>?_⟩;obtain⟨gr,fv⟩:=g2 x H'' y;refine hg fx A (Wr ρ1 σ) H1 ρ' σ' H'' _ x _ _ hf (F'.fr gr.fr) (r'.gr gr) fv (turn i ρ' _ hk rfl iv) fun ρ2 σ2 q2 r2 F2 _=>?_;refine hb fx A (Wr ρ1 σ) H1 ρ2 σ2 H'' _ _ hf r2 F2 q2 (fun ρ3 σ3 H3 q3 r3 F3=>⟨ρ3,q3,r3,F3⟩) (fun v p ρ3 σ3 H3 q3 o3 F3=>k2 v p ρ3 σ3 H3 q3 (o3.h0 F1.dm) (F1.trans F3 F3.fx)) (fun ρ3 σ3 H3 q3 r3 F3=>k1 ρ3 σ3 H3 q3 r3 (F1.trans F3 F3.fx)) (fun ρ3 σ3 H3 q3 r3 F3=>⟨ρ3,q3,r3,F3⟩)
 .have e:i=n:=by omega
  subst e;exact .inl ⟨stop,k1 ρ' σ' H' (after ρ' iv) r' (F1.trans F' F'.fx)⟩
theorem pJ(ht:LT K tt pt)(hb:LS K fs tb pb):LS K fs (rG tt tb) (nW pt pb):=fun fx A R H0 ρ σ H D D' hf r F q k1 k2 k3 k4=>by
 obtain⟨I,⟨m0,i0⟩,turn⟩:=q;refine⟨fun m σ' H'=>∃ρ',I m ρ'/\Rel K A ρ' σ' H'/\ck fx R H0 ρ' σ' H',⟨m0,ρ,i0,r,F⟩,fun m σ' H' ⟨ρ',iv,r',F'⟩=>?_⟩;refine ht A ρ' σ' H' _ _ r' (turn m ρ' iv) fun b H1 ρ1 q1 f1 r1=>?_
 cases b with
 | true =>
  refine⟨fun σ'' H''=>∃ρ'' m',m'<m/\I m' ρ''/\Rel K A ρ'' σ'' H''/\ck fx R H0 ρ'' σ'' H'',fun σ'' H'' ⟨ρ'',m',h1,h2⟩=>⟨m',h1,ρ'',h2⟩,?_⟩;exact hb fx A R H0 ρ1 σ' H1 _ _ hf r1 (F'.fr f1) q1 (fun ρ3 σ3 H3 ⟨m',h1,h2⟩ r3 F3=>⟨ρ3,m',h1,h2,r3,F3⟩) k2 k1 (fun ρ3 σ3 H3 ⟨m',h1,h2⟩ r3 F3=>⟨ρ3,m',h1,h2,r3,F3⟩)
 | false=>exact k1 ρ1 σ' H1 q1 r1 (F'.fr f1)
end
def bH(ix:List (Option Nat))(ρ:PSt):PSt:=ix.map fun o=>match o with
 | none=>none
 | some j=>match ρ[j]? with
  | some v=>v
  | none=>none
def eO:List (Option Nat)->PSt->PSt->PSt
 | some j::ix,ρ,t::τ=>eO ix (ρ.set j t) τ
 | none::ix,ρ,_::τ=>eO ix ρ τ
 | _,ρ,_=>ρ
def yh:List (Option Nat)->Bool
 | []=>true
 | none::r=>yh r
 | some j::r=>!r.contains (some j) && yh r
theorem lj:∀(ix:List (Option Nat)) (ρ τ:PSt),(eO ix ρ τ).length=ρ.length
 | [],ρ,τ=>by unfold eO;rfl
 | some j::ix,ρ,t::τ=>by show (eO ix (ρ.set j t) τ).length=_;rw [lj ix,length_set]
 | none::ix,ρ,t::τ=>by show (eO ix ρ τ).length=_;exact lj ix ρ τ
 | some j::ix,ρ,[]=>by unfold eO;rfl
 | none::ix,ρ,[]=>by unfold eO;rfl
theorem i9:∀(ix:List (Option Nat)) (ρ τ:PSt) (j:Nat),some j∉ix->(eO ix ρ τ)[j]?=ρ[j]?
 | [],ρ,τ,j,_=>by unfold eO;rfl
 | some i::ix,ρ,t::τ,j,h=>by
  show (eO ix (ρ.set i t) τ)[j]?=_;rw [i9 ix _ τ j (fun z=>h (mem_cons_of_mem _ z)),getElem?_set_ne (fun z=>h (by rw [z];exact mem_cons_self ..))]
 | none::ix,ρ,t::τ,j,h=>by show (eO ix ρ τ)[j]?=_;exact i9 ix ρ τ j fun z=>h (mem_cons_of_mem _ z)
 | some i::ix,ρ,[],j,_=>by unfold eO;rfl
 | none::ix,ρ,[],j,_=>by unfold eO;rfl
theorem nX:∀(ix:List (Option Nat)) (ρ τ:PSt) (j k:Nat),yh ix=true->ix[k]?=some (some j)->k<τ.length->j<ρ.length->(eO ix ρ τ)[j]?=τ[k]?
 | some i::ix,ρ,t::τ,j,k,h,e,hk,hj=>by
  have h:(!ix.contains (some i) && yh ix)=true:=h;rw [and_eq_true] at h;show (eO ix (ρ.set i t) τ)[j]?=_
  cases k with
  | zero =>
   have e:some (some i)=some (some j):=e;cases e
   have hn:some i∉ix:=fun z=>by
    have:=h.1;rw [contains_iff_mem.mpr z] at this;cases this
   rw [i9 ix _ τ i hn,getElem?_set_self hj];rfl
  | succ k =>
   have e:ix[k]?=some (some j):=by simpa using e
   rw [nX ix _ τ j k h.2 e (by simpa using hk) (by rw [length_set];exact hj)];simp
 | none::ix,ρ,t::τ,j,k,h,e,hk,hj=>by
  show (eO ix ρ τ)[j]?=_
  cases k with
  | zero=>cases e
  | succ k =>
   have e:ix[k]?=some (some j):=by simpa using e
   rw [nX ix _ τ j k h e (by simpa using hk) hj];simp
 | [],ρ,τ,j,k,h,e,hk,hj=>by simp at e
 | some i::ix,ρ,[],j,k,h,e,hk,hj=>absurd hk (not_lt_zero _)
 | none::ix,ρ,[],j,k,h,e,hk,hj=>absurd hk (not_lt_zero _)
theorem ll:∀{ix:List (Option Nat)}{k l j:Nat},yh ix=true->ix[k]?=some (some j)->ix[l]?=some (some j)->k=l
 | some i::ix,k,l,j,h,e1,e2=>by
  have h:(!ix.contains (some i) && yh ix)=true:=h;rw [and_eq_true] at h
  have no:∀m,ix[m]?≠some (some i):=fun m z=>by
   have:=h.1;rw [contains_iff_mem.mpr (mem_of_getElem? z)] at this;cases this
  cases k with
  | zero =>
   have e1:some (some i)=some (some j):=e1;cases e1
   cases l with
   | zero=>rfl
   | succ l=>exact absurd (by simpa using e2) (no l)
  | succ k =>
   cases l with
   | zero =>
    have e2:some (some i)=some (some j):=e2;cases e2;exact absurd (by simpa using e1) (no k)
   | succ l=>rw [ll (k:=k) (l:=l) h.2 (by simpa using e1) (by simpa using e2)]
 | none::ix,k,l,j,h,e1,e2=>by
  cases k with
  | zero=>cases e1
  | succ k =>
   cases l with
   | zero=>cases e2
   | succ l=>rw [ll (ix:=ix) (k:=k) (l:=l) (j:=j) h (by simpa using e1) (by simpa using e2)]
 | [],k,l,j,h,e1,e2=>by simp at e1
theorem fc{ix:List (Option Nat)}{ρ:PSt}{k:Nat}{p:PV}(h:(bH ix ρ)[k]?=some (some p)):∃j,ix[k]?=some (some j)/\ρ[j]?=some (some p):=by
 unfold bH at h;rw [getElem?_map] at h
 cases e:ix[k]? with
 | none=>rw [e] at h;cases h
 | some o =>
  rw [e] at h
  cases o with
  | none=>cases h
  | some j =>
   refine⟨j,rfl,?_⟩;have h:some (match ρ[j]? with|some v=>v|none=>none)=some (some p):=h
   cases e2:ρ[j]? with
   | none=>rw [e2] at h;cases h
   | some v=>rw [e2] at h;exact h
theorem fC{ix:List (Option Nat)}{σ:St}{k j:Nat}{v:V}(h:ix[k]?=some (some j))(e:σ[j]?=some (some v)):(rm ix σ)[k]?=some (some v):=by
 unfold rm;rw [getElem?_map,h];show some (match σ[j]? with|some v=>v|none=>none)=some (some v);rw [e]
theorem Rel.amb{K:PySem.W.Frag}{A:Addr->Prop}{ρ:PSt}{σ:St}{H:Hp}{a:Addr}{o:HO}(R:Rel K A ρ σ H)(ha:A a):Rel K A ρ σ (upd H a o):=by
 have k:aK (OO A ρ σ) H (OO A ρ σ) (upd H a o):=fun b u n e=>⟨n,by rw [aj (fun z=>n (by rw [z];exact .inl ha))];exact e⟩
 refine⟨R.len,fun i q e=>?_,R.dj,fun b z=>?_,R.sep⟩
 .obtain⟨v,s,r⟩:=R.get i q e;refine⟨v,s,r.keeps k fun ow b eb=>?_⟩;rw [aj];intro z;subst z eb;exact R.sep b ha ⟨i,q,e,ow,s⟩
 .by_cases z':b=a
  .rw [z',aA];exact nofun
  .rw [aj z'];exact R.dom b z
def C7(ix:List (Option Nat))(ρ:PSt):Bool:=ix.all fun o=>match o with|none=>true|some j=>(match ρ[j]? with|some (some _)=>true|_=>false)
structure j4 (ix:List (Option Nat)) (ρ1:PSt) (n:Nat) (it:Nat->D) (g:PTG) (pt:PTT) (pe:PTE) (Q:PKt):Prop where
 ex:∃I:Nat->List D->PSt->Prop,I 0 [] (bH ix ρ1) /\
  (∀k ys τ d,k<n->d=it k->I k ys τ->g (.dat d) τ fun τ2=>pt τ2 fun ok τ3=>fN ok (pe τ3 fun p τ4=>I (k+1) (ys++[p.d]) τ4) (I (k+1) ys τ3))/\∀ys τ,I n ys τ->Q (.own ys) (eO ix ρ1 τ)
def cK(ix:List (Option Nat))(pi:PTI)(g:PTG)(pt:PTT)(pe:PTE):PTE:=fun ρ Q=>pi ρ fun n it ρ1=>C7 ix ρ1=true/\n<=1000000/\j4 ix ρ1 n it g pt pe Q
def jr:PTT:=fun ρ Q=>Q true ρ
theorem cB{K:PySem.W.Frag}:LT K i7 jr:=fun A ρ σ H Q Q' R q k=>k true H ρ q (Fr.refl _ _ _) R
def zG(ix:List (Option Nat)):List Nat:=(List.range ix.length).filter fun k=>(ix.getD k none).isSome
theorem a4{K:PySem.W.Frag}{ix:List (Option Nat)}{wi:TI}{pi:PTI}{g:TG}{pg:PTG}{tts:TT}{pt:PTT}{te:TE}{pe:PTE}(hix:yh ix=true)(hi:LI K wi pi)(hg:∀fs:List Nat,(∀k∈fs,k∈zG ix)->LGd K fs g pg)(ht:LT K tts pt)(he:LE K te pe) :
  LE K (nL ix wi g tts te) (cK ix pi pg pt pe):=fun A ρ σ H Q Q' R q k=>hi A ρ σ H _ _ R q fun J H1 n it ρ1 q1 f1 R1 W D hD=>by
 obtain⟨hcap,hn,⟨I,i0,turn,after⟩⟩:=q1
 let τρ0:=bH ix ρ1
 let τσ0:=rm ix σ
 let Ai:Addr->Prop:=fun b=>A b\/b=D\/(Wr ρ1 σ b/\¬ Wr τρ0 τσ0 b)
 let H0':=upd H1 D (.lst [])
 have wsub:∀b,Wr τρ0 τσ0 b->Wr ρ1 σ b:=fun b ⟨m,p,e,o,s⟩=>by
  obtain⟨j,h1,h2⟩:=fc e;obtain⟨v,hv,_⟩:=R1.get j p h2;have:=fC h1 hv;rw [s] at this;cases this;exact⟨j,p,h2,o,hv⟩
 have nD:¬ Wr ρ1 σ D:=fun z=>R1.wr z hD
 have oosub:∀b,OO Ai τρ0 τσ0 b->OO A ρ1 σ b\/b=D:=fun b z=>by
  rcases z with (z|z|z)|z
  .exact .inl (.inl z)
  .exact .inr z
  .exact .inl (.inr z.1)
  .exact .inl (.inr (wsub b z))
 have kD:aK (OO A ρ1 σ) H1 (OO Ai τρ0 τσ0) H0':=fun b o nn e=>by
  refine⟨fun z=>?_,?_⟩
  .rcases oosub b z with z|z
   .exact nn z
   .rw [z,hD] at e;cases e
  .rw [show H0' b=H1 b from aj (aN e hD)];exact e
 have Ri:Rel K Ai τρ0 τσ0 H0':=by
  refine⟨by show (bH ix ρ1).length=(rm ix σ).length;unfold bH rm;rw [length_map,length_map],fun m p e=>?_,fun m l p q v e1 e2 o1 o2 s1 s2=>?_,fun b z=>?_,fun b z w=>?_⟩
  .obtain⟨j,h1,h2⟩:=fc e;obtain⟨v,hv,r⟩:=R1.get j p h2;refine⟨v,fC h1 hv,r.keeps kD fun ow a ea=>?_⟩;subst ea;exact aj (fun z=>nD (by rw [<- z];exact⟨j,p,h2,ow,hv⟩))
  .obtain⟨j,h1,h2⟩:=fc e1;obtain⟨j',h3,h4⟩:=fc e2;obtain⟨v1,hv1,_⟩:=R1.get j p h2;obtain⟨v2,hv2,_⟩:=R1.get j' q h4;have t1:=fC h1 hv1;have t2:=fC h3 hv2;rw [s1] at t1;rw [s2] at t2;cases t1;cases t2;have:=R1.dj j j' p q _ h2 h4 o1 o2 hv1 hv2;subst this;exact ll hix h1 h3
  .rcases z with z|z|z
   .intro e
    by_cases zz:b=D
    .exact R1.dom b z (by rw [zz];exact hD)
    .rw [show H0' b=H1 b from aj zz] at e;exact R1.dom b z e
   .rw [z];show upd H1 D _ D≠none;rw [aA];exact nofun
   .intro e;rw [show H0' b=H1 b from aj (fun zz=>nD (by rw [<- zz];exact z.1))] at e;exact R1.wr z.1 e
  .rcases z with z|z|z
   .exact R1.sep b z (wsub b w)
   .rw [z] at w;exact nD (wsub D w)
   .exact z.2 w
 let fxi:List (Nat×V):=(zG ix).filterMap fun m=>match (τσ0[m]?) with|some (some v)=>some (m,v)|_=>none
 have hfx:∀p∈fxi,τσ0[p.1]?=some (some p.2):=fun p hp=>by
  obtain⟨m,hm,e⟩:=mem_filterMap.mp hp
  split at e
  .rename_i v ev;cases e;exact ev
  .cases e
 have hfs:∀m∈fxi.map Prod.fst,m∈zG ix:=fun m hm=>by
  obtain⟨p,hp,rfl⟩:=mem_map.mp hm;obtain⟨m',hm',e⟩:=mem_filterMap.mp hp
  split at e
  .cases e;exact hm'
  .cases e
 have hgi:=hg (fxi.map Prod.fst) hfs
 have fxget:∀(m j:Nat) (v:V),ix[m]?=some (some j)->σ[j]?=some (some v)->(m,v)∈fxi:=fun m j v h1 h2=>by
  refine mem_filterMap.mpr ⟨m,?_,?_⟩
  .unfold zG;refine mem_filter.mpr ⟨mem_range.mpr (List.getElem?_eq_some_iff.mp h1).1,?_⟩;rw [getD_eq_getElem?_getD,h1];rfl
  .show (match (rm ix σ)[m]? with|some (some v)=>some (m,v)|_=>none)=_;rw [fC h1 h2]
 let Rr:Addr->Prop:=fun b=>Wr τρ0 τσ0 b\/b=D
 have hRr:∀b,Rr b->OO Ai τρ0 τσ0 b:=fun b z=>z.elim (fun z=>.inr z) (fun z=>.inl (.inr (.inl z)));have F0:ck fxi Rr H0' τρ0 τσ0 H0':=⟨fun _ _ _ h=>h,fun _ h=>h,fun b w=>.inl (.inl w),hfx⟩
 refine⟨fun i m τ H2=>i+m=n/\∃ys τρ xs,I i ys τρ/\ys.length<=i/\Rel K Ai τρ τ H2/\ck fxi Rr H0' τρ τ H2/\H2 D=some (.lst xs)/\FVs K (OO Ai τρ τ) H2 xs ys/\∀b,Wr τρ τ b->Wr τρ0 τσ0 b,
  ⟨n,Nat.zero_add n,[],τρ0,[],i0,Nat.le_refl _,Ri,F0,aA,.nil,fun _ h=>h⟩,fun i m τ H2 ⟨him,ys,τρ,xs,iv,hy,r2,F2,eD,fD,hw⟩=>?_⟩
 have kk:aK (OO A ρ1 σ) H1 (OO Ai τρ τ) H2:=fun b o nn e=>(F2.keepsR hRr) b o (kD b o nn e).1 (kD b o nn e).2;obtain⟨go,stop⟩:=W _ H2 kk r2.dom2
 by_cases hk:i<n
 .obtain⟨g1,g2⟩:=go i hk;refine .inr ⟨g1,fun x H3 y=>?_⟩;obtain⟨gr,fv⟩:=g2 x H3 y;have AiD:Ai D:=.inr (.inl rfl);refine hgi fxi Ai Rr H0' τρ τ H3 _ x _ _ rfl (F2.fr gr.fr) (r2.gr gr) fv (turn i ys τρ _ hk rfl iv) fun τρ2 τ2 q2 r3 F3 w3=>?_;refine ht Ai τρ2 τ2 H3 _ _ r3 q2 fun ok H5 τρ3 q3 f5 r5=>?_;have F5:=F3.fr f5;have fD5:FVs K (OO Ai τρ3 τ2) H5 xs ys:=((fD.keeps (gr.fr (ρ:=τρ) (σ:=τ)).keeps).keeps (aK.less fun b z=>z.imp id (w3 b))).keeps f5.keeps
  have eD5:H5 D=some (.lst xs):=f5.kp D _ (r3.sep D AiD) (gr D _ eD)
  cases ok with
  | true =>
   refine he Ai τρ3 τ2 H5 _ _ r5 q3 fun v H6 p τρ4 q4 f6 o6=>?_;obtain⟨r6,fv6⟩:=o6.frz;have F6:=F5.fr f6;have eD6:H6 D=some (.lst xs):=f6.kp D _ (r5.sep D AiD) eD5;have kw:aK (OO Ai τρ4 τ2) H6 (OO Ai τρ4 τ2) (upd H6 D (.lst (xs++[v]))):=fun b o nn e=>⟨nn,by rw [aj (fun z=>nn (by rw [z];exact .inl AiD))];exact e⟩
   refine⟨xs,eD6,?_,m - 1,by omega,by omega,ys++[p.d],τρ4,xs++[v],q4,by rw [length_append];show _+1<=_;omega,r6.amb AiD,⟨fun b o nn e=>?_,fun b z=>?_,F6.ow,F6.fx⟩,aA,((fD5.keeps f6.keeps).append (.cons fv6 .nil)).keeps kw,fun b z=>hw b (w3 b (f5.ow b (f6.ow b z)))⟩
   .have:xs.length=ys.length:=fD.length;exact lt_of_lt_of_le (by omega:xs.length<1000000) (sz _ (Nat.le_refl _))
   .rw [aj (fun z=>nn (.inr z))];exact F6.kp b o nn e
   .by_cases zz:b=D
    .rw [zz,aA];exact nofun
    .rw [aj zz];exact F6.dm b z
  | false=>exact⟨m - 1,by omega,by omega,ys,τρ3,xs,q3,by omega,r5,F5,eD5,fD5,fun b z=>hw b (w3 b (f5.ow b z))⟩
 .have e:i=n:=by omega
  subst e;refine .inl ⟨stop,?_⟩;have q':=after ys τρ iv
  have cap:∀(m j:Nat),ix[m]?=some (some j)->∃p v,ρ1[j]?=some (some p)/\σ[j]?=some (some v)/\τ[m]?=some (some v):=fun m j e=>by
   have h1:=all_eq_true.mp hcap _ (mem_of_getElem? e);have h1:(match ρ1[j]? with|some (some _)=>true|_=>false)=true:=h1
   split at h1
   .rename_i p ep;obtain⟨v,hv,_⟩:=R1.get j p ep;exact⟨p,v,ep,hv,F2.fx _ (fxget m j v e hv)⟩
   .cases h1
  have get':∀(j:Nat) (p:PV),(eO ix ρ1 τρ)[j]?=some (some p)->(∃m v,ix[m]?=some (some j)/\σ[j]?=some (some v)/\τ[m]?=some (some v)/\τρ[m]?=some (some p))\/(some j∉ix/\ρ1[j]?=some (some p)):=fun j p e=>by
   by_cases hj:some j∈ix
   .obtain⟨m,hm,em⟩:=getElem_of_mem hj;have em':ix[m]?=some (some j):=by rw [getElem?_eq_getElem hm,em]
    obtain⟨p0,v,h1,h2,h3⟩:=cap m j em';rw [nX ix ρ1 τρ j m hix em' (by rw [r2.len];exact (List.getElem?_eq_some_iff.mp h3).1) (List.getElem?_eq_some_iff.mp h1).1] at e;exact .inl ⟨m,v,em',h2,h3,e⟩
   .rw [i9 ix ρ1 τρ j hj] at e;exact .inr ⟨hj,e⟩
  have nocap:∀(j:Nat) (p:PV) (b:Addr),some j∉ix->ρ1[j]?=some (some p)->p.isOwn=true->σ[j]?=some (some (.ref b))->¬ Wr τρ0 τσ0 b:=fun j p b hj e o s ⟨m,q,e1,o1,s1⟩=>by
   obtain⟨j',h1,h2⟩:=fc e1;obtain⟨v,hv,_⟩:=R1.get j' q h2;have:=fC h1 hv;rw [s1] at this;cases this;have:=R1.dj j j' p q _ e h2 o o1 s hv;subst this;exact hj (mem_of_getElem? h1)
  have w':∀b,Wr (eO ix ρ1 τρ) σ b->Wr τρ τ b\/(Wr ρ1 σ b/\¬ Wr τρ0 τσ0 b):=fun b ⟨j,p,e,o,s⟩=>by
   rcases get' j p e with ⟨m,v,h1,h2,h3,h4⟩|⟨hj,h1⟩
   .rw [s] at h2;cases h2;exact .inl ⟨m,p,h4,o,h3⟩
   .exact .inr ⟨⟨j,p,h1,o,s⟩,nocap j p b hj h1 o s⟩
  have oo':∀b,OO (eo A D) (eO ix ρ1 τρ) σ b->OO Ai τρ τ b:=fun b z=>by
   rcases z with (z|z)|z
   .exact .inl (.inl z)
   .exact .inl (.inr (.inl z))
   .rcases w' b z with z|z
    .exact .inr z
    .exact .inl (.inr (.inr z))
  have kp1:∀b o,¬ Wr τρ0 τσ0 b->b≠D->H1 b=some o->H2 b=some o:=fun b o n1 n2 e=>F2.kp b o (fun z=>z.elim n1 n2) (by rw [show H0' b=H1 b from aj n2];exact e);have k1:aK (OO A ρ1 σ) H1 (OO (eo A D) (eO ix ρ1 τρ) σ) H2:=fun b o nn e=>⟨fun z=>(kk b o nn e).1 (oo' b z),(kk b o nn e).2⟩
  have AiD:Ai D:=.inr (.inl rfl)
  have R':Rel K (eo A D) (eO ix ρ1 τρ) σ H2:=by
   refine⟨by rw [lj];exact R1.len,fun j p e=>?_,fun j l p q v e1 e2 o1 o2 s1 s2=>?_,fun b z=>?_,fun b z w=>?_⟩
   .rcases get' j p e with ⟨m,v,h1,h2,h3,h4⟩|⟨hj,h1⟩
    .obtain⟨v',hv',r⟩:=r2.get m p h4;rw [h3] at hv';cases hv';exact⟨v,h2,r.keeps (aK.less oo') fun _ _ _=>rfl⟩
    .obtain⟨v,hv,r⟩:=R1.get j p h1;refine⟨v,hv,r.keeps k1 fun ow a ea=>?_⟩;subst ea;obtain⟨a',u,e1,e2⟩:=r.ref ow;cases e1;rw [e2];exact kp1 a u (nocap j p a hj h1 ow hv) (fun z=>by rw [z,hD] at e2;cases e2) e2
   .rcases get' j p e1 with ⟨m,v1,h1,h2,h3,h4⟩|⟨hj,h1⟩
    .rw [s1] at h2;cases h2
     rcases get' l q e2 with ⟨m',v2,g1,g2,g3,g4⟩|⟨hl,g1⟩
     .rw [s2] at g2;cases g2;have:=r2.dj m m' p q _ h4 g4 o1 o2 h3 g3;subst this;rw [h1] at g1;cases g1;rfl
     .exfalso;obtain⟨v',hv',r⟩:=r2.get m p h4;rw [h3] at hv';cases hv';obtain⟨a,u,ea,_⟩:=r.ref o1;subst ea;exact nocap l q a hl g1 o2 s2 (hw a ⟨m,p,h4,o1,h3⟩)
    .rcases get' l q e2 with ⟨m',v2,g1,g2,g3,g4⟩|⟨hl,g1⟩
     .rw [s2] at g2;cases g2;exfalso;obtain⟨v',hv',r⟩:=r2.get m' q g4;rw [g3] at hv';cases hv';obtain⟨a,u,ea,_⟩:=r.ref o2;subst ea;exact nocap j p a hj h1 o1 s1 (hw a ⟨m',q,g4,o2,g3⟩)
     .exact R1.dj j l p q v h1 g1 o1 o2 s1 s2
   .rcases z with z|z
    .exact r2.dom b (.inl z)
    .rw [z,eD];exact nofun
   .rcases w' b w with w|w
    .rcases z with z|z
     .exact r2.sep b (.inl z) w
     .rw [z] at w;exact r2.sep D AiD w
    .rcases z with z|z
     .exact R1.sep b z w.1
     .rw [z] at w;exact nD w.1
  have f2:Fr ρ1 σ H1 (eO ix ρ1 τρ) H2:=by
   refine⟨fun b o nn e=>kp1 b o (fun z=>nn (wsub b z)) (fun z=>by rw [z,hD] at e;cases e) e,fun b z=>F2.dm b ?_,fun b z=>?_⟩
   .intro e
    by_cases zz:b=D
    .exact z (by rw [zz];exact hD)
    .rw [show H0' b=H1 b from aj zz] at e;exact z e
   .rcases w' b z with z|z
    .exact wsub b (hw b z)
    .exact z.1
  have hD0:H D=none:=by
   cases e:H D with
   | none=>rfl
   | some o=>exact absurd hD (f1.dm D (by rw [e];exact nofun))
  exact k _ H2 (.own ys) _ q' (f1.trans f2) ⟨D,xs,rfl,fun z=>R1.dom D z hD,hD0,eD,R',fD.keeps (aK.less oo')⟩
section
variable {K:PySem.W.Frag}{A A':Addr->Prop}{ρ:PSt}{σ:St}{H H':Hp}
theorem Rel.step(R:Rel K A ρ σ H){i:Nat}{p q:PV}{a:Addr}(e:ρ[i]?=some (some p))(ow:p.isOwn=true)(ow':q.isOwn=true)(es:σ[i]?=some (some (.ref a)))
  (kp:∀b o,b≠a->H b=some o->H' b=some o) (ha:H' a≠none) (h1:∀b,A b->A' b) (h2:∀b,A' b->A b\/H b=none) (dom':∀b,A' b->H' b≠none)
  (new:RS K (OO A' ρ σ) H' q (.ref a)):Rel K A' (ρ.set i (some q)) σ H'/\Fr ρ σ H (ρ.set i (some q)) H':=by
 have hi:i<ρ.length:=(List.getElem?_eq_some_iff.mp e).1;have wa:Wr ρ σ a:=⟨i,p,e,ow,es⟩
 have weq:∀b,Wr (ρ.set i (some q)) σ b ↔ Wr ρ σ b:=fun b=>by
  constructor
  .rintro⟨j,r,e1,o1,s1⟩
   by_cases z:i=j
   .subst z;exact⟨i,p,e,ow,s1⟩
   .rw [getElem?_set_ne z] at e1;exact⟨j,r,e1,o1,s1⟩
  .rintro⟨j,r,e1,o1,s1⟩
   by_cases z:i=j
   .subst z;exact⟨i,q,getElem?_set_self hi,ow',s1⟩
   .exact⟨j,r,by rw [getElem?_set_ne z];exact e1,o1,s1⟩
 have oeq:OO A' (ρ.set i (some q)) σ=OO A' ρ σ:=funext fun b=>propext (or_congr Iff.rfl (weq b));have kp1:∀b u,¬ Wr ρ σ b->H b=some u->H' b=some u:=fun b u n h=>kp b u (fun z=>n (by rw [z];exact wa)) h
 have k:aK (OO A ρ σ) H (OO A' ρ σ) H':=fun b u n h=>by
  refine⟨fun z=>?_,kp1 b u (fun z=>n (.inr z)) h⟩
  rcases z with z|z
  .rcases h2 b z with z|z
   .exact n (.inl z)
   .rw [z] at h;cases h
  .exact n (.inr z)
 have dm:∀b,H b≠none->H' b≠none:=fun b n=>by
  by_cases z:b=a
  .rw [z];exact ha
  .cases eb:H b with
   | none=>exact absurd eb n
   | some o=>rw [kp b o z eb];exact nofun
 refine⟨⟨by rw [length_set];exact R.len,fun j r e1=>?_,fun j l p1 q1 v e1 e2 o1 o2 s1 s2=>?_,dom',fun b z w=>?_⟩,⟨kp1,dm,fun b w=>(weq b).mp w⟩⟩
 .rw [oeq]
  by_cases z:i=j
  .subst z;rw [getElem?_set_self hi] at e1;cases e1;exact⟨_,es,new⟩
  .rw [getElem?_set_ne z] at e1;obtain⟨v,s,rr⟩:=R.get j r e1;refine⟨v,s,rr.keeps k fun ow2 b eb=>?_⟩;obtain⟨b',u,e3,e4⟩:=rr.ref ow2;rw [eb] at e3;cases e3;rw [e4];refine kp b u (fun zz=>?_) e4;subst zz;rw [eb] at s;exact z (R.dj i j p r _ e e1 ow ow2 es s)
 .have ex:∀(m:Nat) (x:PV),(ρ.set i (some q))[m]?=some (some x)->x.isOwn=true->∃y:PV,ρ[m]?=some (some y)/\y.isOwn=true:=fun m x em ox=>by
   by_cases z:i=m
   .subst z;exact⟨p,e,ow⟩
   .rw [getElem?_set_ne z] at em;exact⟨x,em,ox⟩
  obtain⟨y1,g1,g2⟩:=ex j p1 e1 o1;obtain⟨y2,g3,g4⟩:=ex l q1 e2 o2;exact R.dj j l y1 y2 v g1 g3 g2 g4 s1 s2
 .rcases h2 b z with z|z
  .exact R.sep b z ((weq b).mp w)
  .exact R.wr ((weq b).mp w) z
theorem Rel.lstw(R:Rel K A ρ σ H){i:Nat}{ds es:List D}{a:Addr}{ys:List V}(e:ρ[i]?=some (some (.own ds)))(es':σ[i]?=some (some (.ref a)))(f:FVs K (OO A ρ σ) H ys es) :
  Rel K A (ρ.set i (some (.own es))) σ (upd H a (.lst ys))/\Fr ρ σ H (ρ.set i (some (.own es))) (upd H a (.lst ys)):=by
 have wa:OO A ρ σ a:=.inr ⟨i,_,e,rfl,es'⟩;exact R.write (q:=.own es) e rfl rfl es' ⟨a,ys,rfl,aA,f.keeps fun b u n h=>⟨n,by rw [aj (fun z=>n (by rw [z];exact wa))];exact h⟩⟩
theorem Rel.ownAt(R:Rel K A ρ σ H){i:Nat}{ds:List D}(e:ρ[i]?=some (some (.own ds))):∃a xs,σ[i]?=some (some (.ref a))/\H a=some (.lst xs)/\FVs K (OO A ρ σ) H xs ds:=by
 obtain⟨v,s,a,xs,rfl,g,f⟩:=R.get i _ e;exact⟨a,xs,s,g,f⟩
end
def vo(i:Nat)(pe:PTE):PTE:=fun ρ Q=>match ρ[i]? with
 | some (some (.own _))=>pe ρ fun p ρ1=>(match ρ1[i]? with
  | some (some (.own ds))=>ds.length<1000000/\Q (.dat .non) (ρ1.set i (some (.own (ds++[p.d]))))
  | _=>False)
 | _=>False
def C8(i:Nat):PTE:=fun ρ Q=>match ρ[i]? with
 | some (some (.own ds))=>∃d,ds[ds.length - 1]?=some d/\Q (.dat d) (ρ.set i (some (.own ds.dropLast)))
 | _=>False
def wG(i:Nat)(pe pk:PTE):PTS:=fun D ρ=>pe ρ fun p ρ1=>(match ρ1[i]? with
 | some (some (.own _))=>pk ρ1 fun kp ρ2=>(match ρ2[i]?,kp with
  | some (some (.own ds)),.dat (.int k)=>∃j,ixN ds.length k=some j/\D.nx (ρ2.set i (some (.own (ds.set j p.d))))
  | _,_=>False)
 | _=>False)
section
variable {K:PySem.W.Frag}{te tk:TE}{pe pk:PTE}{fs:List Nat}
theorem iB{i:Nat}(h:LE K te pe):LE K (tBM K "list" sd (aV i) (ba te dN)) (vo i pe):=fun A ρ σ H Q Q' R q k=>by
 unfold vo at q
 split at q
 .rename_i ds0 e0;obtain⟨a0,xs0,s0,g0,f0⟩:=R.ownAt e0;refine⟨_,s0,.inl ⟨rfl,xs0,SqL.of g0⟩,h A ρ σ H _ _ R q fun v H1 p ρ1 q1 f1 o1=>?_⟩;obtain⟨R1,fv⟩:=o1.frz
  split at q1
  .rename_i ds e1;obtain⟨a,xs,s,g,f⟩:=R1.ownAt e1;rw [s0] at s;cases s;obtain⟨R2,f2⟩:=R1.lstw e1 s0 (f.append (.cons fv .nil));exact⟨a0,xs,v,rfl,rfl,g,lt_of_lt_of_le (by rw [f.length];exact q1.1) (sz _ (Nat.le_refl _)),k _ _ _ _ q1.2 (f1.trans f2) ⟨R2,.non⟩⟩
  .exact q1.elim
 .exact q.elim
theorem A0{i:Nat}:LE K (As K "list" DT (aV i)) (C8 i):=fun A ρ σ H Q Q' R q k=>by
 unfold C8 at q
 split at q
 .rename_i ds e;obtain⟨d,hd,q⟩:=q;obtain⟨a,xs,s,g,f⟩:=R.ownAt e;obtain⟨v,hv,fv⟩:=f.getD hd;obtain⟨R2,f2⟩:=R.lstw (es:=ds.dropLast) (ys:=xs.dropLast) e s (by rw [dropLast_eq_take,dropLast_eq_take,f.length];exact f.take _);exact⟨_,s,.inl ⟨rfl,xs,SqL.of g⟩,a,xs,v,rfl,rfl,g,by rw [f.length];exact hv,k _ _ _ _ q f2 ⟨R2,(fv.keeps f2.keeps)⟩⟩
 .exact q.elim
theorem yi{i:Nat}(h:LE K te pe)(hk:LE K tk pk):LS K fs (wv te (Co (aV i) tk xL)) (wG i pe pk):=fun fx A R H0 ρ σ H D D' hf r F q k1 k2 k3 k4=>h A ρ σ H _ _ r q fun v H1 p ρ1 q1 f1 o1=>by
 obtain⟨R1,fv⟩:=o1.frz
 split at q1
 .rename_i ds0 e0;obtain⟨a0,xs0,s0,g0,f0⟩:=R1.ownAt e0;refine⟨_,s0,hk A ρ1 σ H1 _ _ R1 q1 fun w H2 kp ρ2 q2 f2 o2=>?_⟩
  split at q2
  .rename_i ds j e2;obtain⟨n,hn,q2⟩:=q2;obtain⟨R2,fw⟩:=o2;cases fw;obtain⟨a,xs,s,g,f⟩:=R2.ownAt e2;rw [s0] at s;cases s;obtain⟨R3,f3⟩:=R2.lstw e2 s0 (FVs.set (fv.keeps f2.keeps) n f);exact⟨a0,xs,j,n,rfl,rfl,g,by rw [f.length];exact hn,k1 _ _ _ q2 R3 (((F.fr f1).fr f2).fr f3)⟩
  .exact q2.elim
 .exact q1.elim
end
def spP(K:PySem.W.Frag)(c:FN):Sp:=fun vs H Q _=>∃(O:Addr->Prop) (ds:List D) (Qc:PV->Prop),(∀b,O b->H b≠none)/\FVs K O H vs ds/\c ds Qc/\∀r,Qc r->∀v H',Gr H H'->mn K O H H' r v->Q v H'
def b4(c:FN)(pr:PTA):PTE:=fun ρ Q=>pr ρ fun as ρ1=>match avD as with
 | some ds=>c ds fun r=>Q r ρ1
 | none=>False
theorem gG{N:List Str}{vs:List V}{i:Nat}{v:V}(h:vs[i]?=some v):(start N vs)[i]?=some (some v):=by
 unfold start;rw [getElem?_append_left (by rw [length_map];exact (List.getElem?_eq_some_iff.mp h).1),getElem?_map,h];rfl
def cC(n:Nat)(ps:List PV):PSt:=ps.map some++List.replicate (n - ps.length) none
theorem cF{n:Nat}{ps:List PV}{i:Nat}{p:PV}(h:(cC n ps)[i]?=some (some p)):ps[i]?=some p:=by
 unfold cC at h
 by_cases hi:i<ps.length
 .rw [getElem?_append_left (by rw [length_map];exact hi),getElem?_map] at h
  cases e:ps[i]? with
  | none=>rw [e] at h;cases h
  | some q=>rw [e] at h;cases h;rfl
 .rw [getElem?_append_right (by rw [length_map];omega)] at h;have:=mem_of_getElem? h;rw [mem_replicate] at this;cases this.2
section
variable {K:PySem.W.Frag}{tr:TA}{pr:PTA}{ts:TS}{ps:PTS}
theorem a6{c:FN}(h:LAs K tr pr):LE K (dY (spP K c) [] E0 tr) (b4 c pr):=fun A ρ σ H Q Q' R q k=>h A ρ σ H _ _ R q fun vs H1 as ρ1 q1 f1 R1 o1=>by
 split at q1
 .rename_i ds e;rw [append_nil];exact⟨OO A ρ1 σ,ds,_,R1.dom2,o1.avD e,q1,fun r qr v H' g ov=>k v H' r ρ1 qr (f1.trans g.fr) ((ov.out R1 g).h0 f1.dm)⟩
 .exact q1.elim
theorem Out.outV{O:Addr->Prop}{ρ:PSt}{σ:St}{H H':Hp}{p:PV}{v:V}(h:Out K O ρ σ H H' p v):mn K O H H' p v:=by
 cases p with
 | dat d=>exact h.2.keeps (aK.less fun b z=>.inl z)
 | own ds =>
  obtain⟨a,xs,e1,na,e2,e3,R,f⟩:=h;exact⟨a,xs,e1,e2,e3,f.keeps (aK.less fun b z=>.inl z)⟩
 | ins c ns ds =>
  obtain⟨a,dx,fs,e1,na,e2,e3,m,R,f⟩:=h;exact⟨a,dx,fs,e1,e2,e3,m,f.keeps (aK.less fun b z=>.inl z)⟩
theorem fnP{c:FN}{N:List Str}(hl:LS K [] ts ps)(hn:∀ds Q,c ds Q->ds.length<=N.length)(hc:∀ds Q,c ds Q->ps { nx:=fun _=>Q (.dat .non),rt:=fun p _=>Q p } (cC N.length (ds.map .dat)))
  {vs:List V}{H:Hp}{Q:VK}{E:XK} (h:spP K c vs H Q E):ts { nx:=fun _ H'=>Q .non H',rt:=Q } (start N vs) H:=by
 obtain⟨O,ds,Qc,dom,fv,hq,k⟩:=h
 have nw:∀(ρ:PSt) (b:Addr),ρ=cC N.length (ds.map .dat)->¬ Wr ρ (start N vs) b:=fun ρ b e ⟨i,p,e1,o1,s1⟩=>by
  rw [e] at e1;have:=cF e1;rw [getElem?_map] at this
  cases e2:ds[i]? with
  | none=>rw [e2] at this;cases this
  | some d=>rw [e2] at this;cases this;cases o1
 have lenv:=fv.length;have hle:=hn ds Qc hq
 have R0:Rel K O (cC N.length (ds.map .dat)) (start N vs) H:=by
  refine⟨?_,fun i p e=>?_,fun i j p q v e1 e2 o1 o2 s1 s2=>?_,dom,fun b _ w=>nw _ b rfl w⟩
  .unfold cC start;rw [length_append,length_append,length_map,length_map,length_map,length_replicate,length_replicate,lenv]
  .have:=cF e;rw [getElem?_map] at this
   cases e2:ds[i]? with
   | none=>rw [e2] at this;cases this
   | some d =>
    rw [e2] at this;cases this;obtain⟨v,hv,f⟩:=fv.getD e2;exact⟨v,gG hv,f.keeps (aK.less fun b z=>z.elim id fun w=>absurd w (nw _ b rfl))⟩
  .have:=cF e1;rw [getElem?_map] at this
   cases e3:ds[i]? with
   | none=>rw [e3] at this;cases this
   | some d=>rw [e3] at this;cases this;cases o1
 refine hl [] O (fun _=>False) H _ _ H _ _ rfl R0 ⟨fun _ _ _ h=>h,fun _ h=>h,fun b w=>absurd w (nw _ b rfl),fun p hp=>nomatch hp⟩ (hc ds Qc hq) (fun ρ' σ' H' q r F=>?_) (fun v p ρ' σ' H' q o F=>?_) (fun _ _ _ z=>z.elim) (fun _ _ _ z=>z.elim)
 .exact k _ q .non H' (fun b o e=>F.kp b o id e) .non
 .exact k _ q v H' (fun b o e=>F.kp b o id e) o.outV
abbrev FR:=PV->List D->(PV->PV->Prop)->Prop
def spR(K:PySem.W.Frag)(c:FR):Sp:=fun vs H Q _=>∃(A:Addr->Prop) (a:Addr) (p:PV) (ws:List V) (ds:List D) (Qc:PV->PV->Prop),vs=.ref a::ws/\p.isOwn=true/\(∀b,A b->H b≠none)/\¬ A a/\RS K (eo A a) H p (.ref a)/\FVs K (eo A a) H ws ds/\c p ds Qc /\
 ∀r p',Qc r p'->p'.isOwn=true->∀v H',(∀b o,b≠a->H b=some o->H' b=some o)->H' a≠none->RS K (eo A a) H' p' (.ref a)->mn K (eo A a) H H' r v->(∀a',v=.ref a'->r.isOwn=true->RS K (eo (eo A a) a') H' p' (.ref a))->Q v H'
def ci(c:FR)(i:Nat)(pr:PTA):PTE:=fun ρ Q=>match ρ[i]? with
 | some (some _)=>pr ρ fun as ρ1=>(match ρ1[i]?,avD as with
  | some (some p),some ds=>p.isOwn=true/\c p ds fun r p'=>Q r (ρ1.set i (some p'))
  | _,_=>False)
 | _=>False
theorem bh{c:FR}{i:Nat}(h:LAs K tr pr):LE K (dY (spR K c) [] E0 (ba (aV i) tr)) (ci c i pr):=fun A ρ σ H Q Q' R q k=>by
 unfold ci at q
 split at q
 .rename_i p0 e0;obtain⟨v0,s0,_⟩:=R.get i p0 e0;refine⟨v0,s0,h A ρ σ H _ _ R q fun vs H1 as ρ1 q1 f1 R1 o1=>?_⟩
  split at q1
  .rename_i p ds e1 ed;obtain⟨ow,q1⟩:=q1;obtain⟨v1,s1,rs⟩:=R1.get i p e1;rw [s0] at s1;cases s1;obtain⟨a,u,rfl,ea⟩:=rs.ref ow;rw [append_nil];have wa:Wr ρ1 σ a:=⟨i,p,e1,ow,s0⟩
   have oeq:eo (fun b=>(OO A ρ1 σ b)/\b≠a) a=OO A ρ1 σ:=funext fun b=>propext ⟨fun z=>z.elim (fun z=>z.1) (fun z=>by rw [z];exact .inr wa),fun z=>by
    by_cases e:b=a
    .exact .inr e
    .exact .inl ⟨z,e⟩⟩
   refine⟨fun b=>(OO A ρ1 σ b)/\b≠a,a,p,vs,ds,_,rfl,ow,fun b z=>R1.dom2 b z.1,fun z=>z.2 rfl,by rw [oeq];exact rs,by rw [oeq];exact o1.avD ed,q1,fun r p' qr ow' v H' kp ha rs' ov hx=>?_⟩;rw [oeq] at rs' ov hx
   have domA:∀b,A b->H' b≠none:=fun b z=>by
    have:b≠a:=fun e=>R1.sep b z (by rw [e];exact wa)
    cases eb:H1 b with
    | none=>exact absurd eb (R1.dom b z)
    | some o=>rw [kp b o this eb];exact nofun
   cases r with
   | dat d =>
    obtain⟨R2,f2⟩:=R1.step (A':=A) e1 ow ow' s0 kp ha (fun _ h=>h) (fun _ h=>.inl h) domA rs';exact k v H' _ _ qr (f1.trans f2) ⟨R2,FV.keeps (aK.less fun b z=>z.imp id (f2.ow b)) ov⟩
   | own es =>
    obtain⟨a',xs,rfl,n1,e2,f⟩:=ov;have hx:=hx a' rfl rfl;have na:a'≠a:=fun e=>by rw [e,ea] at n1;cases n1
    have oo2:∀b,OO (eo A a') ρ1 σ b ↔ eo (OO A ρ1 σ) a' b:=fun b=>⟨fun z=>by
     rcases z with (z|z)|z
     .exact .inl (.inl z)
     .exact .inr z
     .exact .inl (.inr z),fun z=>by
     rcases z with (z|z)|z
     .exact .inl (.inl z)
     .exact .inr z
     .exact .inl (.inr z)⟩
    have oo2':OO (eo A a') ρ1 σ=eo (OO A ρ1 σ) a':=funext fun b=>propext (oo2 b)
    obtain⟨R2,f2⟩:=R1.step (A':=eo A a') e1 ow ow' s0 kp ha (fun _ h=>.inl h) (fun b z=>z.imp id fun z=>by rw [z];exact n1) (fun b z=>z.elim (domA b) fun z=>by rw [z,e2];exact nofun) (by rw [oo2'];exact hx)
    .refine k _ H' (.own es) _ qr (f1.trans f2) ⟨a',xs,rfl,fun z=>R1.dom a' z n1,?_,e2,R2,f.keeps (aK.less fun b z=>?_)⟩
     .cases eb:H a' with
      | none=>rfl
      | some o=>exact absurd n1 (f1.dm a' (by rw [eb];exact nofun))
     .rw [<- oo2'];exact z.imp id (f2.ow b)
   | ins c ns es =>
    obtain⟨a',dx,fs,rfl,n1,e2,m,f⟩:=ov;have hx:=hx a' rfl rfl
    have oo2':OO (eo A a') ρ1 σ=eo (OO A ρ1 σ) a':=funext fun b=>propext ⟨fun z=>by
     rcases z with (z|z)|z
     .exact .inl (.inl z)
     .exact .inr z
     .exact .inl (.inr z),fun z=>by
     rcases z with (z|z)|z
     .exact .inl (.inl z)
     .exact .inr z
     .exact .inl (.inr z)⟩
    obtain⟨R2,f2⟩:=R1.step (A':=eo A a') e1 ow ow' s0 kp ha (fun _ h=>.inl h) (fun b z=>z.imp id fun z=>by rw [z];exact n1) (fun b z=>z.elim (domA b) fun z=>by rw [z,e2];exact nofun) (by rw [oo2'];exact hx)
    .refine k _ H' (.ins c ns es) _ qr (f1.trans f2) ⟨a',dx,fs,rfl,fun z=>R1.dom a' z n1,?_,e2,m,R2,f.keeps (aK.less fun b z=>?_)⟩
     .cases eb:H a' with
      | none=>rfl
      | some o=>exact absurd n1 (f1.dm a' (by rw [eb];exact nofun))
     .rw [<- oo2'];exact z.imp id (f2.ow b)
  .exact q1.elim
 .exact q.elim
def zH(Q:PV->PV->Prop)(r:PV)(ρ:PSt):Prop:=match ρ[0]? with
 | some (some p)=>p.isOwn=true/\Q r p
 | _=>False
theorem fnR{c:FR}{N:List Str}(hl:LS K [0] ts ps)(hn:∀p ds Q,c p ds Q->ds.length+1<=N.length)(hc:∀p ds Q,p.isOwn=true->c p ds Q->ps { nx:=zH Q (.dat .non),rt:=zH Q } (cC N.length (p::ds.map .dat)))
  {vs:List V}{H:Hp}{Q:VK}{E:XK} (h:spR K c vs H Q E):ts { nx:=fun _ H'=>Q .non H',rt:=Q } (start N vs) H:=by
 obtain⟨A,a,p,ws,ds,Qc,rfl,ow,dom,na,rs,fv,hq,k⟩:=h;have s0:(start N (V.ref a::ws))[0]?=some (some (.ref a)):=gG rfl;have b0:(cC N.length (p::ds.map .dat))[0]?=some (some p):=rfl
 have wr:∀b,Wr (cC N.length (p::ds.map .dat)) (start N (.ref a::ws)) b->b=a:=fun b ⟨i,q,e1,o1,s1⟩=>by
  have:=cF e1
  cases i with
  | zero=>rw [s0] at s1;cases s1;rfl
  | succ i =>
   rw [getElem?_cons_succ,getElem?_map] at this
   cases e2:ds[i]? with
   | none=>rw [e2] at this;cases this
   | some d=>rw [e2] at this;cases this;cases o1
 have wa:Wr (cC N.length (p::ds.map .dat)) (start N (.ref a::ws)) a:=⟨0,p,b0,ow,s0⟩
 have oeq:OO A (cC N.length (p::ds.map .dat)) (start N (.ref a::ws))=eo A a:=funext fun b=>propext ⟨fun z=>z.imp id (wr b),fun z=>z.imp id fun z=>by rw [z];exact wa⟩;have lenv:=fv.length;have hle:=hn p ds Qc hq
 have R0:Rel K A (cC N.length (p::ds.map .dat)) (start N (.ref a::ws)) H:=by
  refine⟨?_,fun i q e=>?_,fun i j q1 q2 v e1 e2 o1 o2 s1 s2=>?_,dom,fun b z w=>?_⟩
  .unfold cC start;simp only [length_append,length_map,length_replicate,length_cons,lenv]
  .have:=cF e;rw [oeq]
   cases i with
   | zero=>cases this;exact⟨_,s0,rs⟩
   | succ i =>
    rw [getElem?_cons_succ,getElem?_map] at this
    cases e2:ds[i]? with
    | none=>rw [e2] at this;cases this
    | some d =>
     rw [e2] at this;cases this;obtain⟨v,hv,f⟩:=fv.getD e2;exact⟨v,gG (by rw [getElem?_cons_succ];exact hv),f⟩
  .have own0:∀(i:Nat) (q:PV),(cC N.length (p::ds.map .dat))[i]?=some (some q)->q.isOwn=true->i=0:=fun i q e o=>by
    have:=cF e
    cases i with
    | zero=>rfl
    | succ i =>
     rw [getElem?_cons_succ,getElem?_map] at this
     cases e2:ds[i]? with
     | none=>rw [e2] at this;cases this
     | some d=>rw [e2] at this;cases this;cases o
   rw [own0 i q1 e1 o1,own0 j q2 e2 o2]
  .rw [wr b w] at z;exact na z
 have fin:∀(v:V) (r:PV) (ρ':PSt) (σ':St) (H':Hp),zH Qc r ρ'->Out K A ρ' σ' H H' r v->ck [(0,.ref a)] (fun b=>b=a) H ρ' σ' H'->Q v H':=fun v r ρ' σ' H' q o F=>by
  unfold zH at q
  split at q
  .rename_i p' e';obtain⟨ow',q⟩:=q;have sa:=F.fx (0,.ref a) (mem_singleton.mpr rfl);have wa':Wr ρ' σ' a:=⟨0,p',e',ow',sa⟩
   have kpa:∀b o,b≠a->H b=some o->H' b=some o:=fun b o n e=>F.kp b o n e
   cases r with
   | dat d =>
    obtain⟨R1,f1⟩:=o;obtain⟨v1,s1,rs1⟩:=R1.get 0 p' e';rw [sa] at s1;cases s1;have less:∀b,eo A a b->OO A ρ' σ' b:=fun b z=>z.imp id fun z=>by rw [z];exact wa'
    exact k _ p' q ow' v H' kpa (R1.wr wa') (rs1.keeps (aK.less less) fun _ _ _=>rfl) (f1.keeps (aK.less less)) (fun _ _ z=>nomatch z)
   | own es =>
    obtain⟨a',xs,rfl,n1,n2,e3,R1,f1⟩:=o;obtain⟨v1,s1,rs1⟩:=R1.get 0 p' e';rw [sa] at s1;cases s1
    have less:∀b,eo (eo A a) a' b->OO (eo A a') ρ' σ' b:=fun b z=>by
     rcases z with (z|z)|z
     .exact .inl (.inl z)
     .exact .inr (by rw [z];exact wa')
     .exact .inl (.inr z)
    exact k _ p' q ow' _ H' kpa (R1.wr wa') (rs1.keeps (aK.less fun b z=>less b (.inl z)) fun _ _ _=>rfl) ⟨a',xs,rfl,n2,e3,f1.keeps (aK.less less)⟩ (fun a'' e _=>by cases e;exact rs1.keeps (aK.less less) fun _ _ _=>rfl)
   | ins c ns es =>
    obtain⟨a',dx,fs,rfl,n1,n2,e3,m,R1,f1⟩:=o;obtain⟨v1,s1,rs1⟩:=R1.get 0 p' e';rw [sa] at s1;cases s1
    have less:∀b,eo (eo A a) a' b->OO (eo A a') ρ' σ' b:=fun b z=>by
     rcases z with (z|z)|z
     .exact .inl (.inl z)
     .exact .inr (by rw [z];exact wa')
     .exact .inl (.inr z)
    exact k _ p' q ow' _ H' kpa (R1.wr wa') (rs1.keeps (aK.less fun b z=>less b (.inl z)) fun _ _ _=>rfl) ⟨a',dx,fs,rfl,n2,e3,m,f1.keeps (aK.less less)⟩ (fun a'' e _=>by cases e;exact rs1.keeps (aK.less less) fun _ _ _=>rfl)
  .exact q.elim
 refine hl [(0,.ref a)] A (fun b=>b=a) H _ _ H _ _ rfl R0 ⟨fun _ _ _ h=>h,fun _ h=>h,fun b w=>.inl (wr b w),fun q hq=>by rw [mem_singleton.mp hq];exact s0⟩ (hc p ds Qc ow hq) (fun ρ' σ' H' q r F=>fin .non (.dat .non) ρ' σ' H' q ⟨r,.non⟩ F) (fun v p ρ' σ' H' q o F=>fin v p ρ' σ' H' q o F) (fun _ _ _ z=>z.elim) (fun _ _ _ z=>z.elim)
end
def D0:FN:=fun as Q=>∃ns:List Int,as=[.scr ns]/\ns.length<=63/\Q (.dat (.bl true))
theorem yj{K:PySem.W.Frag}{vs:List V}{H:Hp}{Q:VK}{E:XK}(h:qx K vs H Q E):spP K D0 vs H Q E:=by
 obtain⟨a,ns,rfl,hS,h63,q⟩:=h
 refine⟨fun _=>False,[.scr ns],fun r=>r=.dat (.bl true),nofun,.cons (.scr ?_) .nil,⟨ns,rfl,h63,rfl⟩,fun r e v H' g o=>?_⟩
 .rcases hS with h|h
  .exact .inl ⟨id,h⟩
  .exact .inr h
 .subst e;cases o;exact q H'
section
variable {K:PySem.W.Frag}{X:Cx}
def A1:List V->Hp->VK->Prop:=fun xs H Q=>∃i j,xs=[.int i,.int j]/\Q (.int (if j<i then j else i)) H
def A2:List V->Hp->VK->Prop:=fun xs H Q=>∃i j,xs=[.int i,.int j]/\Q (.int (if j > i then j else i)) H
theorem wH(hc:X.calm=true):bP X (.builtin "min") A1:=rQ hc
theorem A3(hc:X.calm=true):bP X (.builtin "max") A2:=rP hc
def vp:FN
 | [.int i,.int j],Q=>Q (.dat (.int (if j<i then j else i)))
 | _,_=>False
def yk:FN
 | [.int i,.int j],Q=>Q (.dat (.int (if j > i then j else i)))
 | _,_=>False
theorem sY:LC K A1 vp:=by
 intro O H xs as Q Q' dom fs q k;unfold vp at q
 split at q
 .cases fs with
  | cons a b=>cases b with|cons b c=>cases c;rw [a.int,b.int];exact⟨_,_,rfl,k _ H _ q (Gr.refl _) (.int _)⟩
 .exact q.elim
theorem yl:LC K A2 yk:=by
 intro O H xs as Q Q' dom fs q k;unfold yk at q
 split at q
 .cases fs with
  | cons a b=>cases b with|cons b c=>cases c;rw [a.int,b.int];exact⟨_,_,rfl,k _ H _ q (Gr.refl _) (.int _)⟩
 .exact q.elim
def A4(K:PySem.W.Frag):List V->Hp->VK->Prop:=fun xs H Q=>∃(p:Addr) (ns:List Int),xs=[.ref p]/\SqL K H p (ns.map V.int)/\0<ns.length/\∀m:Int,m∈ns->(∀a∈ns,m<=a)->Q (.int m) H
def A5(K:PySem.W.Frag):List V->Hp->VK->Prop:=fun xs H Q=>∃(p:Addr) (ns:List Int),xs=[.ref p]/\SqL K H p (ns.map V.int)/\Q (.int ns.sum) H
def D1(K:PySem.W.Frag):List V->Hp->VK->Prop:=fun xs H Q=>∃(p:Addr) (bs:List Bool),xs=[.ref p]/\SqL K H p (bs.map V.bl)/\Q (.bl (bs.all id)) H
def D2(K:PySem.W.Frag):List V->Hp->VK->Prop:=fun xs H Q=>∃(p:Addr) (bs:List Bool),xs=[.ref p]/\SqL K H p (bs.map V.bl)/\Q (.bl (bs.any id)) H
theorem A6(K:PySem.W.Frag)(e:X.K=K)(hc:X.calm=true):bP X (.builtin "min") (A4 K):=by subst e;exact sO hc
theorem wI(K:PySem.W.Frag)(e:X.K=K)(hc:X.calm=true):bP X (.builtin "sum") (A5 K):=by subst e;exact sP hc
theorem C9(K:PySem.W.Frag)(e:X.K=K)(hc:X.calm=true):bP X (.builtin "all") (D1 K):=by subst e;exact u8 hc
theorem Db(K:PySem.W.Frag)(e:X.K=K)(hc:X.calm=true):bP X (.builtin "any") (D2 K):=by subst e;exact va hc
def ym:FN
 | [.lst ds],Q=>∃ns:List Int,ds=ns.map .int/\0<ns.length/\∀m:Int,m∈ns->(∀a∈ns,m<=a)->Q (.dat (.int m))
 | _,_=>False
def vq:FN
 | [.lst ds],Q=>∃ns:List Int,ds=ns.map .int/\Q (.dat (.int ns.sum))
 | _,_=>False
def Dc:FN
 | [.lst ds],Q=>∃bs:List Bool,ds=bs.map .bl/\Q (.dat (.bl (bs.all id)))
 | _,_=>False
def Dd:FN
 | [.lst ds],Q=>∃bs:List Bool,ds=bs.map .bl/\Q (.dat (.bl (bs.any id)))
 | _,_=>False
theorem yn:LC K (A4 K) ym:=by
 intro O H xs as Q Q' dom fs q k;unfold ym at q
 split at q
 .obtain⟨ns,rfl,h0,q⟩:=q
  cases fs with
  | cons a b =>
   cases b;obtain⟨p,ys,rfl,e1,f1⟩:=a.lst;rw [f1.ints] at e1;exact⟨p,ns,rfl,SqL.of e1,h0,fun m hm hle=>k _ H _ (q m hm hle) (Gr.refl _) (.int _)⟩
 .exact q.elim
theorem nY:LC K (A5 K) vq:=by
 intro O H xs as Q Q' dom fs q k;unfold vq at q
 split at q
 .obtain⟨ns,rfl,q⟩:=q
  cases fs with
  | cons a b =>
   cases b;obtain⟨p,ys,rfl,e1,f1⟩:=a.lst;rw [f1.ints] at e1;exact⟨p,ns,rfl,SqL.of e1,k _ H _ q (Gr.refl _) (.int _)⟩
 .exact q.elim
theorem A7:LC K (D1 K) Dc:=by
 intro O H xs as Q Q' dom fs q k;unfold Dc at q
 split at q
 .obtain⟨ns,rfl,q⟩:=q
  cases fs with
  | cons a b =>
   cases b;obtain⟨p,ys,rfl,e1,f1⟩:=a.lst;rw [f1.bls] at e1;exact⟨p,ns,rfl,SqL.of e1,k _ H _ q (Gr.refl _) (.bl _)⟩
 .exact q.elim
theorem A8:LC K (D2 K) Dd:=by
 intro O H xs as Q Q' dom fs q k;unfold Dd at q
 split at q
 .obtain⟨ns,rfl,q⟩:=q
  cases fs with
  | cons a b =>
   cases b;obtain⟨p,ys,rfl,e1,f1⟩:=a.lst;rw [f1.bls] at e1;exact⟨p,ns,rfl,SqL.of e1,k _ H _ q (Gr.refl _) (.bl _)⟩
 .exact q.elim
def sZ(K:PySem.W.Frag):List V->Hp->VK->Prop:=fun xs H Q=>∃p ys,xs=[.ref p]/\((SqL K H p ys/\∀l,H l=none->Q (.ref l) (upd H l (.tup ys)))\/(SqT K H p ys/\Q (.ref p) H))
theorem cW(K:PySem.W.Frag)(e:X.K=K):bP X (.type "tuple") (sZ K):=by subst e;exact kY
theorem A9(K:PySem.W.Frag)(e:X.K=K):bP X (.type "list") (sQ K):=by subst e;exact lX
def dy:FN
 | [.lst ds],Q=>Q (.dat (.tup ds))
 | [.tup ds],Q=>Q (.dat (.tup ds))
 | [.scr ns],Q=>Q (.dat (.tup (ns.map .int)))
 | _,_=>False
def yo:FN
 | [.lst ds],Q=>Q (.own ds)
 | [.tup ds],Q=>Q (.own ds)
 | [.scr ns],Q=>Q (.own (ns.map .int))
 | _,_=>False
theorem cu:LC K (sZ K) dy:=by
 intro O H xs as Q Q' dom fs q k;unfold dy at q
 split at q
 .cases fs with
  | cons a b =>
   cases b;obtain⟨p,ys,rfl,e1,f1⟩:=a.lst;exact⟨p,ys,rfl,.inl ⟨SqL.of e1,fun l hl=>k _ _ _ q (Gr.new hl) (jp dom hl f1)⟩⟩
 .cases fs with
  | cons a b =>
   cases b;obtain⟨p,ys,rfl,n1,e1,f1⟩:=a.tup;exact⟨p,ys,rfl,.inr ⟨SqT.of e1,k _ H _ q (Gr.refl _) (.tup n1 e1 f1)⟩⟩
 .cases fs with
  | cons a b =>
   cases b;obtain⟨p,rfl,e1⟩:=a.scr;exact⟨p,_,rfl,.inl ⟨e1,fun l hl=>k _ _ _ q (Gr.new hl) (jp dom hl (FVs.of_ints _))⟩⟩
 .exact q.elim
theorem yp:LC K (sQ K) yo:=by
 intro O H xs as Q Q' dom fs q k;unfold yo at q
 split at q
 .cases fs with
  | cons a b =>
   cases b;obtain⟨p,ys,rfl,e1,f1⟩:=a.lst;exact⟨p,ys,rfl,.inl (SqL.of e1),fun l hl=>k _ _ _ q (Gr.new hl) (dL hl f1)⟩
 .cases fs with
  | cons a b =>
   cases b;obtain⟨p,ys,rfl,n1,e1,f1⟩:=a.tup;exact⟨p,ys,rfl,.inr (SqT.of e1),fun l hl=>k _ _ _ q (Gr.new hl) (dL hl f1)⟩
 .cases fs with
  | cons a b =>
   cases b;obtain⟨p,rfl,e1⟩:=a.scr;exact⟨p,_,rfl,.inl e1,fun l hl=>k _ _ _ q (Gr.new hl) (dL hl (FVs.of_ints _))⟩
 .exact q.elim
variable {ta:TE}{pa:PA1}{tr:TA}{pr:PTA}{pe:PTE}
def rp(i:Int)(n:Nat):List D:=(List.range n).map fun (k:Nat)=>D.int (i+(k:Int))
def mkL(tup:Bool)(ds:List D):PV:=match tup with|true=>.dat (.tup ds)|false=>.own ds
def Ba(tup:Bool)(pr:PTA):PTE:=fun ρ Q=>pr ρ fun as ρ1=>match as with
 | [.v (.int j)]=>(0<=j/\j<=1000000)/\Q (mkL tup (rp 0 j.toNat)) ρ1
 | _=>False
theorem Bb{O:Addr->Prop}{H:Hp}(i:Int)(n:Nat):FVs K O H (nM i 1 n) (rp i n):=by
 have e:∀l:List Nat,FVs K O H (l.map fun (k:Nat)=>V.int (i+k*1)) (l.map fun (k:Nat)=>D.int (i+(k:Int))):=fun l=>by
  induction l with
  | nil=>exact .nil
  | cons a r ih=>exact .cons (by show FV K O H (V.int (i+(a:Int)*1)) (D.int (i+(a:Int)));rw [show i+(a:Int)*1=i+(a:Int) by omega];exact .int _) ih
 exact e _
theorem kv{i j:Int}(h:i<=j):Builtin.Range.rangeSize i j 1=(((j - i).toNat:Nat):Int):=by
 unfold Builtin.Range.rangeSize;rw [if_pos (by decide)];simp only [ediv_one];split <;> omega
theorem qI{i j:Int}(h0:-1000000<=i)(h1:i<=j)(h2:j<=1000000):Builtin.Range.small i j 1=true:=by
 unfold Builtin.Range.small;rw [kv h1];simp only [Builtin.Range.rangeFitsLong,and_eq_true,or_eq_true,decide_eq_true_eq,beq_iff_eq,show (1:Int) > 0 by decide,if_true];omega
def mkO(tup:Bool):List V->HO:=match tup with|true=>.tup|false=>.lst
theorem Bc{O:Addr->Prop}{H:Hp}{xs:List V}{ds:List D}{p:Addr}(tup:Bool)(dom:∀b,O b->H b≠none)(hp:H p=none)(f:FVs K O H xs ds):mn K O H (upd H p (mkO tup xs)) (mkL tup ds) (.ref p):=by
 cases tup with
 | true=>exact jp dom hp f
 | false=>exact dL hp f
theorem vt(tup:Bool)(h:LAs K tr pr):LE K (tCB (CH K (mkO tup)) (ba (fun σ H Q=>tr σ H fun vs H1=>∃j:Int,vs=[.int j]/\∀p,H1 p=none->Q (.ref p) (upd H1 p (wC p 0 j 1))) dN)) (Ba tup pr):=fun A ρ σ H Q Q' R q k=>h A ρ σ H _ _ R q fun vs H1 as ρ1 q1 f1 R1 o1=>by
 split at q1
 .rename_i j
  cases o1 with
  | cons a b =>
   cases b;cases a;refine⟨j,rfl,fun p hp=>⟨p,0,j,1,j.toNat,rfl,aA,qI (by decide) q1.1.1 q1.1.2,by rw [kv q1.1.1,Int.sub_zero],by omega,fun l hl=>?_⟩⟩;have g:Gr H1 (upd H1 p (wC p 0 j 1)):=Gr.new hp;have R2:=R1.gr g;have g2:Gr (upd H1 p (wC p 0 j 1)) (upd (upd H1 p (wC p 0 j 1)) l (mkO tup (nM 0 1 j.toNat))):=Gr.new hl;exact k _ _ _ ρ1 q1.2 (f1.trans (g.fr.trans g2.fr)) ((mn.out R2 g2 (Bc tup R2.dom2 hl (Bb 0 _))).h0 fun b z=>(g.fr (ρ:=ρ1) (σ:=σ)).dm b (f1.dm b z))
 .exact q1.elim
theorem Bd(K:PySem.W.Frag)(e:X.K=K)(hc:X.calm=true):bP X (.type "list") (CH K (mkO false)):=by subst e;exact qA hc
def pK(pa:PA1):PTE:=fun ρ Q=>pa ρ fun x ρ1=>match cont ρ1 x with
 | some (.lst ds)=>Q (.own ds.reverse) ρ1
 | _=>False
def pL(K:PySem.W.Frag)(te:TE):TE:=fun σ H Q=>te σ H fun x H1=>∃a xs,x=.ref a/\SqL K H1 a xs/\∀l,H1 l=none->Q (.ref l) (upd H1 l (.lst xs.reverse))
theorem nZ{e:Expr}{te:TE}{p p1 p2 pos:Pos}(K:PySem.W.Frag)(eK:X.K=K)(hc:X.calm=true)(he:PE X e te)(hg1:Gl X "list")(hm1:X.mg "list"=none)(hg2:Gl X "reversed")(hm2:X.mg "reversed"=none)
  (hs:starEach [.Call (.Name "reversed" p1) [e] [] p2] X.env=[(false,eval (.Call (.Name "reversed" p1) [e] [] p2) X.env)]:=by rfl) (hs2:starEach [e] X.env=[(false,eval e X.env)]:=by rfl) :
  PE X (.Call (.Name "list" p) [.Call (.Name "reversed" p1) [e] [] p2] [] pos) (pL K te):=by subst eK;exact qC hc he hg1 hm1 hg2 hm2 hs hs2
theorem qJ(h:LA1 K ta pa):LE K (pL K ta) (pK pa):=fun A ρ σ H Q Q' R q k=>h A ρ σ H _ _ R q fun v H1 a ρ1 q1 f1 R1 o1=>by
 split at q1
 .rename_i ds e;obtain⟨p,xs,rfl,e1,fs⟩:=(R1.cont o1 e).lst;refine⟨p,xs,rfl,SqL.of e1,fun l hl=>?_⟩;have g:Gr H1 (upd H1 l (.lst xs.reverse)):=Gr.new hl;exact k _ _ _ ρ1 q1 (f1.trans g.fr) ((mn.out (p:=.own ds.reverse) R1 g (dL hl fs.reverse)).h0 f1.dm)
 .exact q1.elim
abbrev FM:=List Nat->List D->(PV->Prop)->Prop
def LM(K:PySem.W.Frag)(r:V->List V->Hp->VK->Prop)(f:FM):Prop:=∀(O:Addr->Prop) (H:Hp) (l:List Nat) (xs:List V) (as:List D) (Q:PV->Prop) (Q':VK),(∀b,O b->H b≠none)->l.length<=1000000->zE K O H xs as->f l as Q ->
 (∀v H' p,Q p->Gr H H'->mn K O H H' p v->Q' v H')->r (.str (S l)) xs H Q'
def pSM(f:FM)(pe:PTE)(pr:PTA):PTE:=fun ρ Q=>pe ρ fun p ρ1=>match p with
 | .dat (.str l)=>pr ρ1 fun as ρ2=>(match conts ρ2 as with
  | some ds=>f l ds fun r=>Q r ρ2
  | none=>False)
 | _=>False
theorem Be{r:V->List V->Hp->VK->Prop}{f:FM}(o:LM K r f)(he:LE K ta pe)(hr:LAs K tr pr):LE K (tBM K "str" r ta tr) (pSM f pe pr):=fun A ρ σ H Q Q' R q k=>he A ρ σ H _ _ R q fun v H1 p ρ1 q1 f1 o1=>by
 split at q1
 .rename_i l;obtain⟨R1,fv⟩:=o1
  cases fv with
  | str _ hl =>
   refine⟨rfl,hr A ρ1 σ H1 _ _ R1 q1 fun vs H2 as ρ2 q2 f2 R2 o2=>?_⟩
   split at q2
   .rename_i ds e;exact o _ H2 l vs ds _ _ R2.dom2 hl (R2.conts o2 e) q2 fun z H3 p q3 g ov=>k z H3 p ρ2 q3 ((f1.trans f2).trans g.fr) ((ov.out R2 g).h0 fun b z=>f2.dm b (f1.dm b z))
   .exact q2.elim
 .exact q1.elim
def Bf:V->List V->Hp->VK->Prop:=fun x xs H Q=>∃a b,x=.str (S a)/\xs=[.str (S b)]/\Q (.bl (decide (b <:+ a))) H
def wJ:V->List V->Hp->VK->Prop:=fun x xs H Q=>∃a b,x=.str (S a)/\xs=[.str (S b)]/\Q (.int (fnd a b 0)) H
theorem yq:MtR X "str.endswith" Bf:=nK
theorem vv:MtR X "str.find" wJ:=u5
def yr:FM
 | a,[.str b],Q=>Q (.dat (.bl (decide (b <:+ a))))
 | _,_,_=>False
def tm:FM
 | a,[.str b],Q=>Q (.dat (.int (fnd a b 0)))
 | _,_,_=>False
theorem yt:LM K Bf yr:=by
 intro O H l xs as Q Q' dom hl fs q k;unfold yr at q
 split at q
 .cases fs with|cons a b=>cases b;rw [a.str.1];exact⟨_,_,rfl,rfl,k _ H _ q (Gr.refl _) (.bl _)⟩
 .exact q.elim
theorem vw:LM K wJ tm:=by
 intro O H l xs as Q Q' dom hl fs q k;unfold tm at q
 split at q
 .cases fs with|cons a b=>cases b;rw [a.str.1];exact⟨_,_,rfl,rfl,k _ H _ q (Gr.refl _) (.int _)⟩
 .exact q.elim
def dh(f:Str):List Str->Option Nat
 | []=>none
 | n::r=>if n=f then some 0 else (dh f r).map (·+1)
theorem jt{f:Str}:∀{fs:List (Str×V)}{k:Nat},dh f (fs.map Prod.fst)=some k->fs.lookup f=(fs.map Prod.snd)[k]?
 | [],k,h=>by cases h
 | (n,v)::r,k,h=>by
  unfold dh at h;rw [map_cons] at h;simp only at h;rw [lookup_cons]
  by_cases e:n=f
  .rw [if_pos e] at h;cases h;rw [show (f == n)=true by rw [e];exact beq_self_eq_true _];rfl
  .rw [if_neg e] at h;rw [show (f == n)=false from beq_eq_false_iff_ne.mpr fun z=>e z.symm]
   cases e2:dh f (r.map Prod.fst) with
   | none=>rw [e2] at h;cases h
   | some j=>rw [e2] at h;cases h;show List.lookup f r=_;rw [jt e2];simp
theorem ju{f:Str}:∀{fs:List (Str×V)},dh f (fs.map Prod.fst)=none->fs.lookup f=none
 | [],h=>rfl
 | (n,v)::r,h=>by
  unfold dh at h;rw [map_cons] at h;simp only at h;rw [lookup_cons]
  by_cases e:n=f
  .rw [if_pos e] at h;cases h
  .rw [if_neg e] at h;rw [show (f == n)=false from beq_eq_false_iff_ne.mpr fun z=>e z.symm]
   cases e2:dh f (r.map Prod.fst) with
   | none=>exact ju e2
   | some j=>rw [e2] at h;cases h
theorem lm{f:Str}{v:V}:∀{fs:List (Str×V)},dh f (fs.map Prod.fst)=none->km f v fs=fs++[(f,v)]
 | [],h=>rfl
 | (n,x)::r,h=>by
  unfold dh at h;rw [map_cons] at h;simp only at h
  by_cases e:n=f
  .rw [if_pos e] at h;cases h
  .rw [if_neg e] at h
   cases e2:dh f (r.map Prod.fst) with
   | none=>unfold km;rw [if_neg e,lm e2];rfl
   | some j=>rw [e2] at h;cases h
theorem FVc.obj{O:Addr->Prop}{H:Hp}{v:V}{c:Str}{ns:List Str}{ds:List D}(h:FVc K O H v (.obj c ns ds)):∃a dx fs,v=.ref a/\H a=some (.ins (aQ K c) dx fs)/\fs.map Prod.fst=ns/\FVs K O H (fs.map Prod.snd) ds:=by
 rcases h with h|⟨a,xs,ds',e1,e2,e3,f⟩|⟨a,dx,c,fs,ns,ds',e1,e2,e3,m,f⟩
 .cases h with
  | obj n e m f=>exact⟨_,_,_,rfl,e,m,f⟩
 .cases e2
 .cases e2;exact⟨a,dx,fs,e1,e3,m,f⟩
def rq(c0:Str)(ns0:List Str)(k:Nat)(pa:PA1):PTE:=fun ρ Q=>pa ρ fun x ρ1=>match cont ρ1 x with
 | some (.obj c ns ds)=>(c=c0/\ns=ns0)/\∃d,ds[k]?=some d/\Q (.dat d) ρ1
 | _=>False
theorem fe{c0 f:Str}{ns0:List Str}{i:Nat}(hc:Cls K (aQ K c0))(hn:du K (aQ K c0) f)(hk:dh f ns0=some i)(h:LA1 K ta pa):LE K (rV K ta f) (rq c0 ns0 i pa):=fun A ρ σ H Q Q' R q k=>h A ρ σ H _ _ R q fun v H1 a ρ1 q1 f1 R1 o1=>by
 split at q1
 .rename_i c ns ds e;obtain⟨⟨rfl,rfl⟩,d,hd,q1⟩:=q1;obtain⟨a,dx,fs,rfl,e1,m,f⟩:=(R1.cont o1 e).obj;obtain⟨v,hv,fv⟩:=f.getD hd;exact⟨a,_,dx,fs,v,rfl,e1,hc,hn,by rw [jt (k:=i) (by rw [m];exact hk)];exact hv,k v H1 _ ρ1 q1 f1 ⟨R1,fv⟩⟩
 .exact q1.elim
def jv(c0:Str)(ns0:List Str)(f:Str)(i:Nat)(pe:PTE):PTS:=fun D ρ=>pe ρ fun p ρ1=>match ρ1[i]? with
 | some (some (.ins c ns ds))=>(c=c0/\ns=ns0/\ns0.length<1000)/\D.nx (ρ1.set i (some (.ins c0 (ns0++[f]) (ds++[p.d]))))
 | _=>False
theorem hX{fs':List Nat}{c0 f:Str}{ns0:List Str}{i:Nat}(hc:Cls K (aQ K c0))(hn:du K (aQ K c0) f)(hk:dh f ns0=none)(h:LE K ta pe):LS K fs' (DO K (aV i) ta f) (jv c0 ns0 f i pe):=fun fx A R H0 ρ σ H D D' hf r F q k1 k2 k3 k4=>h A ρ σ H _ _ r q fun v H1 p ρ1 q1 f1 o1=>by
 obtain⟨R1,fv⟩:=o1.frz
 split at q1
 .rename_i c ns ds e;obtain⟨⟨rfl,rfl,hl⟩,q1⟩:=q1;obtain⟨w,s,a,dx,fs,rfl,g,m,ff⟩:=R1.get i _ e;have hk':dh f (fs.map Prod.fst)=none:=by rw [m];exact hk
  have wa:OO A ρ1 σ a:=.inr ⟨i,_,e,rfl,s⟩;have kw:∀o,aK (OO A ρ1 σ) H1 (OO A ρ1 σ) (upd H1 a o):=fun o b u n h=>⟨n,by rw [aj (fun z=>n (by rw [z];exact wa))];exact h⟩
  obtain⟨R2,f2⟩:=R1.write (o:=.ins (aQ K c) dx (km f v fs)) (q:=.ins c (ns++[f]) (ds++[p.d])) e rfl rfl s ⟨a,dx,km f v fs,rfl,aA,by rw [lm hk',map_append,m];rfl,by rw [lm hk',map_append];exact (ff.append (.cons fv .nil)).keeps (kw _)⟩;refine⟨_,s,a,_,dx,fs,rfl,g,hc,hn,?_,k1 _ _ _ q1 R2 ((F.fr f1).fr f2)⟩;have:fs.length=ns.length:=by rw [<- m,length_map]
  omega
 .exact q1.elim
def yu(c0:Str)(c:FR)(pr:PTA):PTE:=fun ρ Q=>pr ρ fun as ρ1=>match avD as with
 | some ds=>c (.ins c0 [] []) ds fun r p'=>(match r,p' with
  | .dat .non,.ins c1 ns es=>c1=c0/\Q (.ins c1 ns es) ρ1
  | _,_=>False)
 | none=>False
theorem tq{c0:Str}{c:FR}(h:LAs K tr pr):LE K (uN (aQ K c0) (spR K c) [] E0 tr) (yu c0 c pr):=fun A ρ σ H Q Q' R q k=>h A ρ σ H _ _ R q fun vs H1 as ρ1 q1 f1 R1 o1=>by
 split at q1
 .rename_i ds e;intro x dx hx hdx hne;rw [append_nil]
  let H2:=upd (upd H1 dx (.own x)) x (.ins (aQ K c0) dx [])
  have g2:Gr H1 H2:=fun b o z=>by
   show upd (upd H1 dx (.own x)) x _ b=_;rw [aj (aN z hx),aj (aN z hdx)];exact z
  have nx:¬ OO A ρ1 σ x:=R1.oo hx
  have keep2:aK (OO A ρ1 σ) H1 (eo (OO A ρ1 σ) x) H2:=fun b o n z=>by
   refine⟨fun y=>?_,g2 b o z⟩
   rcases y with y|y
   .exact n y
   .rw [y,hx] at z;cases z
  refine⟨OO A ρ1 σ,x,.ins c0 [] [],vs,ds,_,rfl,rfl,fun b z=>(g2.fr (ρ:=ρ1) (σ:=σ)).dm b (R1.dom2 b z),nx,⟨x,dx,[],rfl,aA,rfl,.nil⟩,(o1.avD e).keeps keep2,q1,fun r p' qr ow' v H' kp ha rs ov _=>?_⟩
  split at qr
  .obtain⟨rfl,qr⟩:=qr;cases ov;refine⟨rfl,?_⟩;obtain⟨a',dx',fs,ea,e2,m,f⟩:=rs;cases ea;have g:Gr H1 H':=fun b o z=>kp b o (aN z hx) (g2 b o z)
   have hx0:H x=none:=by
    cases eb:H x with
    | none=>rfl
    | some o=>exact absurd hx (f1.dm x (by rw [eb];exact nofun))
   refine k _ H' _ ρ1 qr (f1.trans g.fr) ⟨x,dx',fs,rfl,fun z=>nx (.inl z),hx0,e2,m,R1.grA g hx (by rw [e2];exact nofun),f.keeps (aK.less fun b z=>?_)⟩
   rcases z with (z|z)|z
   .exact .inl (.inl z)
   .exact .inr z
   .exact .inl (.inr z)
  .exact qr.elim
 .exact q1.elim
def wK(c0:Str)(ns0:List Str)(c:FN)(pe:PTE)(pr:PTA):PTE:=fun ρ Q=>pe ρ fun p ρ1=>match p.d with
 | .obj c1 ns ds=>(c1=c0/\ns=ns0)/\pr ρ1 fun as ρ2=>(match avD as with
  | some es=>c (.obj c1 ns ds::es) fun r=>Q r ρ2
  | none=>False)
 | _=>False
theorem vx{c0 m:Str}{ns0:List Str}{c:FN}(hm:dh m ns0=none)(he:LE K ta pe)(hr:LAs K tr pr):LE K (xD (aQ K c0) m (spP K c) [] E0 ta tr) (wK c0 ns0 c pe pr):=fun A ρ σ H Q Q' R q k=>he A ρ σ H _ _ R q fun v H1 p ρ1 q1 f1 o1=>by
 obtain⟨R1,fv⟩:=o1.frz
 split at q1
 .rename_i c1 ns ds e;rw [e] at fv;obtain⟨⟨rfl,rfl⟩,q1⟩:=q1;obtain⟨a,dx,fs,rfl,e1,mm,f⟩:=FVc.obj (.inl fv);refine⟨a,dx,fs,rfl,e1,ju (by rw [mm];exact hm),hr A ρ1 σ H1 _ _ R1 q1 fun vs H2 as ρ2 q2 f2 R2 o2=>?_⟩
  split at q2
  .rename_i es e3;rw [append_nil];exact⟨OO A ρ2 σ,_::es,_,R2.dom2,.cons (fv.keeps f2.keeps) (o2.avD e3),q2,fun r qr v H' g ov=>k v H' r ρ2 qr ((f1.trans f2).trans g.fr) ((ov.out R2 g).h0 fun b z=>f2.dm b (f1.dm b z))⟩
  .exact q2.elim
 .exact q1.elim
end
abbrev De:R2:=rI0 fun i j=>.int (i - j)
abbrev vy:R2:=rI (fun _ j=>0<j) fun i j=>.int (i % j)
abbrev Df:R2:=rI Cs fun i j=>.int (i / j)
abbrev Dg:R2:=rI Aa fun i j=>.int (i^j.toNat)
abbrev Dh:R2:=rI0 fun i j=>.bl (decide (j<i))
abbrev Ep:R2:=rI0 fun i j=>.bl (decide (j<=i))
abbrev yv:V->Hp->VK->Prop:=rU fun i=>.int (-i)
abbrev Bg:F2:=fI0 fun i j=>.int (i - j)
abbrev gH:F2:=fI (fun _ j=>0<j) fun i j=>.int (i % j)
abbrev Bh:F2:=fI (fun _ j=>0<j/\j<1073741824) fun i j=>.int (i / j)
abbrev Es:F2:=fI (fun i j=>0<=j/\j<=1000000/\i.natAbs<2^64) fun i j=>.int (i^j.toNat)
abbrev fGt:F2:=fI0 fun i j=>.bl (decide (j<i))
abbrev fGe:F2:=fI0 fun i j=>.bl (decide (j<=i))
def vz:D->(PV->Prop)->Prop
 | .int i,Q=>Q (.dat (.int (-i)))
 | _,_=>False
section
variable {K:PySem.W.Frag}{X:Cx}{ta:TE}{tr:TA}{pr:PTA}{ts:TS}{ps:PTS}
theorem tu:OpR X (binaryOp .Sub) De:=Ac
theorem cG:OpR X (binaryOp .Mod) vy:=Ae
theorem mB:OpR X (binaryOp .FloorDiv) Df:=xw
theorem Di:OpR X (binaryOp .Pow) Dg:=Af
theorem yw:OpR X (compareOp .Gt) Dh:=Cy
theorem Et:OpR X (compareOp .GtE) Ep:=Cz
theorem iC:LU K yv vz:=by
 intro O H x a Q Q' dom fx q k;unfold vz at q
 split at q
 .rename_i i;exact⟨i,fx.int,k _ H _ q (Gr.refl _) (.int _)⟩
 .exact q.elim
theorem pM{es:List Expr}{ct:Nat}{tp:Pos}(K:PySem.W.Frag)(e:X.K=K){a:Expr}{ta:TA}{p pos:Pos}(hg:Gl X "enumerate")(hm:X.mg "enumerate"=none)(ha:PA X [a] ta)(hs:starEach [a] X.env=[(false,eval a X.env)]:=by rfl) :
  PI X (.Tuple es ct tp) (.Call (.Name "enumerate" p) [a] [] pos) (xY K ta):=by subst e;exact xZ hg hm ha hs
theorem gI{ix:List (Option Nat)}{fs:List Nat}{i:Nat}(h:∀k∈fs,k∈zG ix)(hi:(zG ix).contains i=false):fs.contains i=false:=by
 cases e:fs.contains i with
 | false=>rfl
 | true =>
  have:=h i (contains_iff_mem.mp e);rw [contains_iff_mem.mpr this] at hi;cases hi
def wL(c:FN)(es:List D)(pr:PTA):PTE:=fun ρ Q=>pr ρ fun as ρ1=>match avD as with
 | some ds=>c (ds++es) fun r=>Q r ρ1
 | none=>False
theorem vA{c:FN}{vs0:List V}{ds:List D}(hd:∀{O:Addr->Prop}{H:Hp},FVs K O H vs0 ds)(h:LAs K tr pr):LE K (dY (spP K c) vs0 E0 tr) (wL c ds pr):=fun A ρ σ H Q Q' R q k=>h A ρ σ H _ _ R q fun vs H1 as ρ1 q1 f1 R1 o1=>by
 split at q1
 .rename_i es e;exact⟨OO A ρ1 σ,_,_,R1.dom2,(o1.avD e).append hd,q1,fun r qr v H' g ov=>k v H' r ρ1 qr (f1.trans g.fr) ((ov.out R1 g).h0 f1.dm)⟩
 .exact q1.elim
theorem jX{c:FN}{n:Nat}(hn:∀ds Q,c ds Q->ds.length=n){vs:List V}{H:Hp}{Q:VK}{E:XK}(h:spP K c vs H Q E):vs.length=n:=by
 obtain⟨O,ds,Qc,_,f,hq,_⟩:=h;rw [f.length];exact hn ds Qc hq
theorem zI{c:FR}{n:Nat}(hn:∀p ds Q,c p ds Q->ds.length+1=n){vs:List V}{H:Hp}{Q:VK}{E:XK}(h:spR K c vs H Q E):vs.length=n:=by
 obtain⟨A,a,p,ws,ds,Qc,rfl,_,_,_,_,f,hq,_⟩:=h;rw [length_cons,f.length];exact hn p ds Qc hq
abbrev dz(pp:PTS)(n:Nat)(ds:List D)(Q:PV->Prop):Prop:=pp { nx:=fun _=>Q (.dat .non),rt:=fun p _=>Q p } (cC n (ds.map .dat))
abbrev rz(pp:PTS)(n:Nat)(p:PV)(ds:List D)(Q:PV->PV->Prop):Prop:=pp { nx:=zH Q (.dat .non),rt:=zH Q } (cC n (p::ds.map .dat))
end
end L2
namespace L2
theorem Cal.imp{P:PySem.Program}{w:PySem.World}{K:PySem.W.Frag}{mg:PySem.Str->Option PySem.Value}{base:PySem.Heap}{k:Nat}{x:PySem.Str}{ps:List PySem.Str}{sp sp':Sp}(C:Cal P w K mg base k x ps sp)(h:∀vs H Q E,sp' vs H Q E->sp vs H Q E):Cal P w K mg base k x ps sp':=by
 obtain⟨f,fd,F,r⟩:=C.ex;exact⟨f,fd,F.imp h,r⟩
end L2
namespace L2
open PySem PySem.Spec PyProof.Rows
theorem cfm{ix:List (Option Nat)}{ρ1:PSt}{n:Nat}{it:Nat->D}{g:PTG}{pt:PTT}{pe:PTE}{Q:PKt}(T:PSt->Prop)(f:Nat->Option D)(h0:T (bH ix ρ1))
  (hs:∀k τ d,k<n->d=it k->T τ->∀(K1:D->PSt->Prop) (K2:PSt->Prop),(∀d τ',f k=some d->T τ'->K1 d τ')->(∀τ',f k=none->T τ'->K2 τ')->g (.dat d) τ fun τ2=>pt τ2 fun ok τ3=>fN ok (pe τ3 fun p τ4=>K1 p.d τ4) (K2 τ3))
  (hq:∀τ,T τ->Q (.own ((List.range n).filterMap f)) (eO ix ρ1 τ)) :
  j4 ix ρ1 n it g pt pe Q:=by
 refine⟨fun k ys τ=>ys=(List.range k).filterMap f/\T τ,⟨rfl,h0⟩,fun k ys τ dd hk ed ⟨e,t⟩=>?_,fun ys τ ⟨e,t⟩=>by rw [e];exact hq τ t⟩
 have r:(List.range (k+1)).filterMap f=(List.range k).filterMap f++(f k).toList:=by
  rw [range_succ,filterMap_append]
  cases e:f k with
  | none=>rw [show [k].filterMap f=[] by simp [e]];rfl
  | some d=>rw [show [k].filterMap f=[d] by simp [e]];rfl
 refine hs k τ dd hk ed t (fun d τ'=>(ys++[d]=(List.range (k+1)).filterMap f/\T τ')) (fun τ'=>(ys=(List.range (k+1)).filterMap f/\T τ')) (fun d τ' h t'=>⟨?_,t'⟩) (fun τ' h t'=>⟨?_,t'⟩)
 .rw [r,e,h];rfl
 .rw [r,e,h];simp
theorem vB{ix:List (Option Nat)}{ρ1:PSt}{n:Nat}{it:Nat->D}{g:PTG}{pe:PTE}{Q:PKt}(T:PSt->Prop)(f:Nat->D)(h0:T (bH ix ρ1))
  (hs:∀k τ d,k<n->d=it k->T τ->∀K1:D->PSt->Prop,(∀τ',T τ'->K1 (f k) τ')->g (.dat d) τ fun τ2=>pe τ2 fun p τ4=>K1 p.d τ4)
  (hq:∀τ,T τ->Q (.own ((List.range n).map f)) (eO ix ρ1 τ)) :
  j4 ix ρ1 n it g jr pe Q:=by
 refine cfm T (fun k=>some (f k)) h0 (fun k τ d hk ed t K1 K2 k1 k2=>?_) fun τ t=>?_
 .exact hs k τ d hk ed t K1 fun τ' t'=>k1 _ τ' rfl t'
 .have:(List.range n).filterMap (fun k=>some (f k))=(List.range n).map f:=by rw [<- filterMap_eq_map];rfl
  rw [this];exact hq τ t
theorem et{β:Type}(f:Nat->β)(l:List Nat):(List.range l.length).map (fun k=>f (l.getD k 0))=l.map f:=by
 apply ext_getElem?;intro i;rw [getElem?_map,getElem?_map]
 by_cases h:i<l.length
 .rw [getElem?_range h];show some (f (l.getD i 0))=_;rw [getD_eq_getElem?_getD,getElem?_eq_getElem h];rfl
 .rw [getElem?_eq_none (by rw [length_range];omega),getElem?_eq_none (by omega)];rfl
def pw(ws:List (List Nat))(k:Nat):List Nat:=ws.getD k []
theorem fR{ws:List (List Nat)}{k:Nat}(h:k<ws.length):ws[k]?=some (pw ws k):=by unfold pw;rw [getD_eq_getElem?_getD,getElem?_eq_getElem h];rfl
theorem gJ{ws:List (List Nat)}{k:Nat}(h:k<ws.length):pw ws k∈ws:=mem_of_getElem? (fR h)
theorem fg{ws:List (List Nat)}{k:Nat}(h:k<(ws.map D.str).length):itD (ws.map D.str) k=.str (pw ws k):=dP (by rw [getElem?_map,fR (by rwa [length_map] at h)];rfl)
theorem yx{ns:List Int}{k:Nat}(h:k<(ns.map D.int).length):itD (ns.map D.int) k=.int (ns.getD k 0):=dP (by
 have h:k<ns.length:=by rwa [length_map] at h
 rw [getElem?_map,getD_eq_getElem?_getD,getElem?_eq_getElem h];rfl)
theorem gf{ws:List (List Nat)}{i:Int}{k:Nat}(h:k<ws.length)(e:i=(k:Int)):atI (ws.map D.str) i=some (.str (pw ws k)):=gy (j:=k) (by rw [getElem?_map,fR h];rfl) e
def Pc(m:Nat)(w:List Nat):Prop:=0<w.length/\w.length<=m/\Lts w
def Pcs(m:Nat)(ws:List (List Nat)):Prop:=∀w∈ws,Pc m w
def ltB(c:Nat):Bool:=decide (97<=c) && decide (c<=122)
def vC:D->Int->Int->Bool
 | .str l,a,b=>(decide (a<=(l.length:Int)) && decide ((l.length:Int)<=b)) && l.all ltB
 | _,_,_=>false
theorem ln(l:List Nat)(a b:Int):vC (.str l) a b=((decide (a<=(l.length:Int)) && decide ((l.length:Int)<=b)) && l.all ltB):=rfl
def Dj:D->Nat
 | .str l=>l.length
 | _=>0
theorem yz{l:List Nat}:l.all ltB=true ↔ Lts l:=by
 rw [all_eq_true];unfold Lts ltB
 constructor
 .intro h c hc;have:=h c hc;rw [and_eq_true,decide_eq_true_eq,decide_eq_true_eq] at this;exact this
 .intro h c hc;rw [and_eq_true,decide_eq_true_eq,decide_eq_true_eq];exact h c hc
theorem tw{w:List Nat}:vC (.str w) 1 60=true ↔ Pc 60 w:=by
 unfold vC Pc;rw [and_eq_true,and_eq_true,decide_eq_true_eq,decide_eq_true_eq,yz]
 constructor
 .rintro⟨⟨h1,h2⟩,h3⟩;exact⟨by omega,by omega,h3⟩
 .rintro⟨h1,h2,h3⟩;exact⟨⟨by omega,by omega⟩,h3⟩
theorem n4(i j:Nat):(!decide (([j]:List Nat)<[i]))=decide (i<=j):=by
 by_cases h:i<=j
 .rw [decide_eq_true h]
  have:¬ ([j]:List Nat)<[i]:=by
   rw [cons_lt_cons_iff]
   rintro (z|⟨_,z⟩)
   .omega
   .exact absurd z (List.lt_irrefl _)
  rw [decide_eq_false this];rfl
 .rw [decide_eq_false h]
  have:([j]:List Nat)<[i]:=by
   rw [cons_lt_cons_iff];exact .inl (by omega)
  rw [decide_eq_true this];rfl
theorem n5:∀ws:List (List Nat),D.pys (ws.map .str)=ws.map fun w=>PyData.str (S w)
 | []=>rfl
 | w::r=>by rw [map_cons,map_cons,<- n5 r];rfl
theorem ky:∀ws:List (List Nat),D.plains (ws.map .str)=true
 | []=>rfl
 | w::r=>by rw [map_cons];show (true && D.plains (r.map .str))=true;rw [ky r];rfl
theorem tz:∀ns:List Int,D.pys (ns.map .int)=ns.map PyData.int
 | []=>rfl
 | n::r=>by rw [map_cons,map_cons,<- tz r];rfl
theorem kz:∀ns:List Int,D.plains (ns.map .int)=true
 | []=>rfl
 | n::r=>by rw [map_cons];show (true && D.plains (r.map .int))=true;rw [kz r];rfl
def Sh(d:D):Prop:=d.plain=true/\SeqAt.shaped d.py=true
theorem rn.of{a b:D}(h:Sh a)(h':Sh b):rn a b:=⟨h.1,h'.1,h.2,h'.2⟩
theorem Sh.lstS{ws:List (List Nat)}(h:∀w∈ws,Lts w):Sh (.lst (ws.map .str)):=⟨ky ws,by show SeqAt.shaped (.list (D.pys _))=true;rw [n5];exact ml h⟩
theorem Sh.lstI(ns:List Int):Sh (.lst (ns.map .int)):=⟨kz ns,by show SeqAt.shaped (.list (D.pys _))=true;rw [tz];exact (iS.list (sJ ns)).shaped (by decide)⟩
theorem pN{d:D}(h:Sh d):deq d d=true:=u7 h.2
theorem vD{α:Type}(c:α)(n:Nat):kZ [c] (n:Int)=List.replicate n c:=by
 unfold kZ;rw [toNat_natCast]
 induction n with
 | zero=>rfl
 | succ n ih=>rw [replicate_succ,flatten_cons,ih];rfl
section
variable {X:Cx}{K:PySem.W.Frag}
def tD(neg:Bool):R2:=fun x y H Q=>∃a b,x=.ref a/\y=.ref b/\H a=some (.dK [])/\H b=some (.dK [])/\Q (.bl (!neg)) H
theorem vE(hu:X.A.units+64<cLine):OpR X (compareOp .Eq) (tD false):=by
 intro pins s σ H x y v u Q I rx ry ⟨a,b,e1,e2,h1,h2,q⟩;subst e1 e2;cases rx;cases ry;obtain⟨_,y1,vs,r1,p1⟩:=(show bL X.prog X.w H s.heap a (.dK []) from I.hok a _ h1)
 obtain⟨_,y2,ws,r2,p2⟩:=(show bL X.prog X.w H s.heap b (.dK []) from I.hok b _ h2)
 cases r1;cases r2;exact PySem.W.keq_eq (r:=true) y1 y2 p1 p2 (by omega) (fun _=>.nil) ⟨.bl true,H,I,rfl,q⟩
theorem vF(hu:X.A.units+64<cLine):OpR X (compareOp .NotEq) (tD true):=by
 intro pins s σ H x y v u Q I rx ry ⟨a,b,e1,e2,h1,h2,q⟩;subst e1 e2;cases rx;cases ry;obtain⟨_,y1,vs,r1,p1⟩:=(show bL X.prog X.w H s.heap a (.dK []) from I.hok a _ h1)
 obtain⟨_,y2,ws,r2,p2⟩:=(show bL X.prog X.w H s.heap b (.dK []) from I.hok b _ h2)
 cases r1;cases r2;exact PySem.W.keq_ne (r:=true) y1 y2 p1 p2 (by omega) (fun _=>.nil) ⟨.bl false,H,I,rfl,q⟩
def qK(K:PySem.W.Frag)(neg:Bool):R2:=fun x y H Q=>AU K neg x y H Q\/tD neg x y H Q
theorem qL(K:PySem.W.Frag)(e:X.K=K)(hu:X.A.units+64<cLine):OpR X (compareOp .Eq) (qK K false):=OpR.or (El K e hu) (vE hu)
theorem tE(K:PySem.W.Frag)(e:X.K=K)(hu:X.A.units+64<cLine):OpR X (compareOp .NotEq) (qK K true):=OpR.or (Em K e hu) (vF hu)
def wM:F2
 | .dic [] [],.dic [] [],Q=>Q (.dat (.bl true))
 | a,b,Q=>fEq a b Q
def yA:F2
 | .dic [] [],.dic [] [],Q=>Q (.dat (.bl false))
 | a,b,Q=>fNe a b Q
theorem FVc.dic0{O:Addr->Prop}{H:Hp}{v:V}(h:FVc K O H v (.dic [] [])):∃a,v=.ref a/\H a=some (.dK []):=by
 cases h.fv nofun nofun with
 | dic n e m f =>
  rename_i a kvs
  cases kvs with
  | nil=>exact⟨a,rfl,e⟩
  | cons x r=>cases m
theorem kA:LO K (qK K false) wM:=by
 intro O H x y a b Q Q' dom fx fy q k;unfold wM at q
 split at q
 .obtain⟨a,rfl,e1⟩:=fx.dic0;obtain⟨b,rfl,e2⟩:=fy.dic0;exact .inr ⟨a,b,rfl,rfl,e1,e2,k _ H _ q (Gr.refl _) (.bl _)⟩
 .exact .inl (CZ O H x y _ _ Q Q' dom fx fy q k)
theorem mC:LO K (qK K true) yA:=by
 intro O H x y a b Q Q' dom fx fy q k;unfold yA at q
 split at q
 .obtain⟨a,rfl,e1⟩:=fx.dic0;obtain⟨b,rfl,e2⟩:=fy.dic0;exact .inr ⟨a,b,rfl,rfl,e1,e2,k _ H _ q (Gr.refl _) (.bl _)⟩
 .exact .inl (C1 O H x y _ _ Q Q' dom fx fy q k)
end
theorem n6:∀ds:List D,D.pys ds=ds.map D.py
 | []=>rfl
 | d::r=>by rw [map_cons,<- n6 r];rfl
theorem hZ:∀ds:List D,D.plains ds=ds.all D.plain
 | []=>rfl
 | d::r=>by rw [all_cons,<- hZ r];rfl
def Fl(n:Nat)(d:D):Prop:=d.plain=true/\iS n d.py
theorem Fl.sh{n:Nat}{d:D}(h:Fl n d)(hn:n<=64):Sh d:=⟨h.1,h.2.shaped hn⟩
theorem Fl.mono{n m:Nat}{d:D}(h:Fl n d)(hn:n<=m):Fl m d:=⟨h.1,h.2.1,Nat.le_trans h.2.2 hn⟩
theorem Fl.int{n:Nat}(i:Int):Fl n (.int i):=(show Fl 0 (.int i) from ⟨rfl,iS.int i⟩).mono (zero_le _)
theorem Fl.lst{n:Nat}{ds:List D}(h:∀d∈ds,Fl n d):Fl (n+1) (.lst ds):=by
 refine⟨?_,?_⟩
 .show D.plains ds=true;rw [hZ,all_eq_true];exact fun d hd=>(h d hd).1
 .show iS (n+1) (.list (D.pys ds));rw [n6];refine iS.list fun d hd=>?_;obtain⟨x,hx,rfl⟩:=mem_map.mp hd;exact (h x hx).2
theorem Fl.tup{n:Nat}{ds:List D}(h:∀d∈ds,Fl n d):Fl (n+1) (.tup ds):=by
 refine⟨?_,?_⟩
 .show D.plains ds=true;rw [hZ,all_eq_true];exact fun d hd=>(h d hd).1
 .show iS (n+1) (.tuple (D.pys ds));rw [n6];refine iS.tuple fun d hd=>?_;obtain⟨x,hx,rfl⟩:=mem_map.mp hd;exact (h x hx).2
theorem Fl.ints{n:Nat}(zs:List Int):∀d∈zs.map D.int,Fl n d:=fun d hd=>by
 obtain⟨i,_,rfl⟩:=mem_map.mp hd;exact Fl.int i
def pO:D->List D
 | .lst ds=>ds
 | .tup ds=>ds
 | _=>[]
section
variable {X:Cx}{K:PySem.W.Frag}{te:TE}{pe:PTE}
def Bi(K:PySem.W.Frag):List V->Hp->VK->Prop:=fun xs H Q=>∃(p:Addr) (ns:List Int),xs=[.ref p]/\SqL K H p (ns.map V.int)/\0<ns.length/\∀m:Int,m∈ns->(∀a∈ns,a<=m)->Q (.int m) H
theorem Bj(K:PySem.W.Frag)(e:X.K=K)(hc:X.calm=true):bP X (.builtin "max") (Bi K):=by
 subst e;intro pins s σ H xs us Q I r h;obtain⟨p,ns,rfl,hS,hne,q⟩:=h;obtain⟨u,rfl,ru⟩:=gu r;cases (show u=Value.ref p from ru);obtain⟨its,rv,pl,hz⟩:=I.list hS;have hi:=fA rv;have hl:=pl.isList;obtain⟨ys,e⟩:=hi.allInts.items;have hns:ns=ys.toList.map (·.1):=by rw [<- hi.numsOf,<- nums_intItems,<- e]
 have hsz:0<ys.size:=by
  have h3:=hne;rw [hns,length_map,Array.length_toList] at h3;exact h3
 rw [e] at hl;refine max_intList (by exact I.ok.hd hc) hl hsz fun v h' tk hv hk=>?_;obtain⟨t,rfl⟩:=intItems_at hv;obtain⟨h1,h2⟩:=argBest_gt (numAt ys) (ys.size - 1)
 refine⟨.int _,H,I.kept (t':=tk) hk,⟨t,rfl⟩,q _ ?_ fun a ha=>?_⟩
 .rw [hns,numAt_eq];exact getD_mem (by rw [length_map,Array.length_toList];omega)
 .rw [hns] at ha;obtain⟨j,hj,rfl⟩:=mem_getD ha;rw [length_map,Array.length_toList] at hj;rw [<- numAt_eq];exact h2 j (by omega)
def yB:FN
 | [.lst ds],Q=>∃ns:List Int,ds=ns.map .int/\0<ns.length/\∀m:Int,m∈ns->(∀a∈ns,a<=m)->Q (.dat (.int m))
 | _,_=>False
theorem yC:LC K (Bi K) yB:=by
 intro O H xs as Q Q' dom fs q k;unfold yB at q
 split at q
 .obtain⟨ns,rfl,h0,q⟩:=q
  cases fs with
  | cons a b =>
   cases b;obtain⟨p,ys,rfl,e1,f1⟩:=a.lst;rw [f1.ints] at e1;exact⟨p,ns,rfl,SqL.of e1,h0,fun m h1 h2=>k _ H _ (q m h1 h2) (Gr.refl _) (.int _)⟩
 .exact q.elim
def tF(i:Nat)(pe:PTE):PTE:=fun ρ Q=>match ρ[i]? with
 | some (some (.own _))=>pe ρ fun p ρ1=>(match ρ1[i]?,p with
  | some (some (.own ds)),.dat (.int j)=>∃k d,(ixN ds.length j=some k/\ds.length<=1000000)/\ds[k]?=some d/\Q (.dat d) (ρ1.set i (some (.own (ds.eraseIdx k))))
  | _,_=>False)
 | _=>False
theorem FVs.eraseIdx{O:Addr->Prop}{H:Hp}:∀{xs:List V}{ds:List D} (k:Nat),FVs K O H xs ds->FVs K O H (xs.eraseIdx k) (ds.eraseIdx k)
 | _,_,_,.nil=>.nil
 | _,_,0,.cons a b=>b
 | _,_,k+1,.cons a b=>.cons a (FVs.eraseIdx k b)
theorem vG{i:Nat}(h:LE K te pe):LE K (tBM K "list" wB (aV i) (ba te dN)) (tF i pe):=fun A ρ σ H Q Q' R q k=>by
 unfold tF at q
 split at q
 .rename_i ds0 e0;obtain⟨a0,xs0,s0,g0,f0⟩:=R.ownAt e0;refine⟨_,s0,.inl ⟨rfl,xs0,SqL.of g0⟩,h A ρ σ H _ _ R q fun v H1 p ρ1 q1 f1 o1=>?_⟩;obtain⟨R1,fv⟩:=o1.frz
  split at q1
  .rename_i ds j e1;obtain⟨a,xs,s,g,f⟩:=R1.ownAt e1;rw [s0] at s;cases s;obtain⟨m,d,⟨hm,hl⟩,hd,q1⟩:=q1;obtain⟨w,hw,fw⟩:=f.getD hd;cases (show FV K _ H1 v (.int j) from fv);obtain⟨t1,t2,t3,t4⟩:=nG hm;obtain⟨R2,f2⟩:=R1.lstw (es:=ds.eraseIdx m) (ys:=xs.eraseIdx m) e1 s0 (f.eraseIdx m);have hx:xs.length=ds.length:=f.length;exact⟨a0,xs,j,m,w,rfl,rfl,g,by omega,by omega,by rw [hx];exact t1,hw,k _ _ _ _ q1 (f1.trans f2) ⟨R2,(fw.keeps f2.keeps)⟩⟩
  .exact q1.elim
 .exact q.elim
end
section
variable {X:Cx}{K:PySem.W.Frag}{te:TE}{pe:PTE}{fs:List Nat}
abbrev Bk:R2:=rI Aa fun i j=>.int (i*2^j.toNat)
abbrev zJ:F2:=fI (fun i j=>0<=j/\j<=1000000/\i.natAbs<2^64) fun i j=>.int (i*2^j.toNat)
theorem qM:OpR X (binaryOp .LShift) Bk:=Ag
theorem kB:LO K Bk zJ:=AS fun _ _ _ _=>.int _
abbrev Ch:R2:=rI (fun _ j=>0<=j) fun i j=>.int (i / 2^j.toNat)
abbrev Dl:F2:=fI (fun _ j=>0<=j) fun i j=>.int (i / 2^j.toNat)
theorem Bl:OpR X (binaryOp .RShift) Ch:=Ah
theorem wN:LO K Ch Dl:=AS fun _ _ _ _=>.int _
abbrev vH:R2:=rI0 fun i j=>.int (Builtin.bitAnd i j)
abbrev yD:F2:=fI0 fun i j=>.int (Builtin.bitAnd i j)
theorem wO:OpR X (binaryOp .BitAnd) vH:=Aj
theorem tG:LO K vH yD:=vg fun _ _ _ _=>.int _
end
section
variable {prog:Program}{w:World}{A:Around}{E:Value->Shared->Prop}{s:Shared}
theorem mD{it t:Addr}{items:Array Value}(hne:t≠it):∀(n i:Nat) (s:Shared) (Q:List Value->Shared->Prop),s.heap.IsListIter it t i->s.heap.IsList t items->i+n<=items.size ->
  (∀h',h'.IsListIter it t (i+n)->Heap.SameBut it s.heap h'->Q ((items.toList.drop i).take n) { s with heap:=h' })->wpAny (model prog w) A (draw (.ref it) n) Q E s
 | 0,i,s,Q,hit,_,_,hQ=>by
  show wpAny _ _ (pure []) Q E s;exact wpAny_pure (by simpa using hQ s.heap hit (Heap.SameBut.refl ..))
 | n+1,i,s,Q,hit,ht,hle,hQ=>by
  have hlt:i<items.size:=by omega
  show wpAny _ _ (pyNext (.ref it) >>= _) Q E s;refine wpAny_bind (wpAny_pyNext_list_item hit ht (x:=items[i]) (by simp [hlt]) fun h₁ hit₁ hs₁=>?_);refine wpAny_bind (wpAny_holding (mD hne n (i+1) _ _ hit₁ (ht.extBut hs₁.extBut hne) (by omega) fun h₂ hit₂ hs₂=>wpAny_pure ?_));have hd:items.toList.drop i=items[i]::items.toList.drop (i+1):=by simp [drop_eq_getElem_cons,hlt]
  have:=hQ h₂ (by rw [show i+(n+1)=i+1+n by omega];exact hit₂) (hs₁.trans hs₂);rw [hd,take_succ_cons] at this;exact this
theorem iV{t:Addr}{items:Array Value}{Q:List Value->Shared->Prop}(hh:A.handled=none)(ht:s.heap.IsList t items)
  (hQ:∀h',Heap.ExtBut s.heap.objs.size s.heap h'->Q items.toList { s with heap:=h' }):wpAny (model prog w) A (unpackItems (.ref t) items.size none) Q E s:=by
 have hlt:t≠s.heap.objs.size:=by obtain⟨o,ho,_⟩:=ht;exact ne_of_lt (Heap.lt_size ho)
 unfold unpackItems
 refine wpAny_bind ?_
 .unfold notIterableAtAll;refine wpAny_bind (wpAny_specialOf ht.typeIs PySem.F.slot_list_iter.lookup ?_);refine wpAny_pure ?_;simp only [false_eq_true,if_false];refine wpAny_bind (wpAny_holding (wpAny_pyIter_list ht ?_));refine wpAny_bind (wpAny_holding (mD hlt items.size 0 _ _ ⟨_,Heap.get?_push_size _ rfl,rfl,rfl⟩ (ht.push _) (by omega) fun h₁ hit₁ hs₁=>?_))
  have hall:List.take items.size (List.drop 0 items.toList)=items.toList:=by
   rw [drop_zero];exact take_of_length_le (by simp)
  rw [hall];rw [if_neg (by simp)];have ht₁:h₁.IsList t items:=(ht.push _).extBut hs₁.extBut hlt;refine wpAny_bind (wpAny_holding (wpAny_pyNext_list_end hh hit₁ ht₁ (by simp) fun h₂ he₂=>?_));simp only [Option.isSome_none,false_eq_true,if_false];refine wpAny_pure (hQ h₂ fun b o hb e=>he₂ b o hb (hs₁.extBut b o hb (Heap.get?_push_of_some _ e)))
theorem h7{env:Env}{elts:List Expr}{x1}{pos:Pos}{t:Addr}{items:Array Value}{Q:Unit->Shared->Prop}(hh:A.handled=none)(ht:s.heap.IsList t items)
  (hn:(assignEach elts env).length=items.size) (hstar:(assignEach elts env).findIdx? (·.1)=none)
  (h:∀h',Heap.ExtBut s.heap.objs.size s.heap h'->wpAny (model prog w) A (assignInOrder ((assignEach elts env).map (·.2)) items.toList) Q E { s with heap:=h' }) :
  wpAny (model prog w) A (assign (.Tuple elts x1 pos) env (.ref t)) Q E s:=by
 rw [assign_Tuple];refine wpAny_bind (wpAny_standAt ?_);unfold unpack;rw [hn,hstar];exact wpAny_bind (wpAny_holding (iV hh ht h))
end
def D3(K:PySem.W.Frag)(n:Nat)(t:TGs):TG:=fun v σ H Q=>∃b a xs,v=.ref a/\Sq b K H a xs/\xs.length=n/\t xs σ H Q
section
variable {X:Cx}
theorem tH(K:PySem.W.Frag)(eK:X.K=K){es:List Expr}{k:Nat}{t:TGs}{n:Nat}{pos:Pos}(hc:X.calm=true)(h:PGs X es t)
  (hn:(assignEach es X.env).length=n:=by rfl) (hst:(assignEach es X.env).findIdx? (·.1)=none:=by rfl):PG X (.Tuple es k pos) (D3 K n t):=by
 subst eK;intro pins s σ H v u Q I r hw;obtain⟨b,a,xs,e1,hq,hl,hw⟩:=hw
 cases b with
 | true=>exact zZ hc h hn hst pins s σ H v u Q I r ⟨a,xs,e1,hq,hl,hw⟩
 | false =>
  subst e1;cases r;obtain⟨its,rv,ht,hz⟩:=I.list hq;refine h7 (I.ok.hd hc) ht.isList (by simp [hn,<- hl,rv.length]) hst fun h' hx=>?_;have I1:Inv X pins σ H { s with heap:=h' }:=I.kept (t':=s.toks) fun b o e=>hx b o (ne_of_lt (Heap.lt_size e)) e;exact h pins _ σ H xs _ Q I1 (by simpa using rv) hw
def qN(n:Nat)(gs:yf):PTG:=fun p ρ Q=>match p with|.dat (.tup ds)=>ds.length=n/\gs ds ρ Q|.dat (.lst ds)=>ds.length=n/\gs ds ρ Q|.own ds=>ds.length=n/\gs ds ρ Q|_=>False
end
section
variable {K:PySem.W.Frag}{fs:List Nat}
theorem n8{n:Nat}{gs:TGs}{pgs:yf}(h:LGs K fs gs pgs):LGd K fs (D3 K n gs) (qN n pgs):=fun fx A R H0 ρ σ H d v Q Q' hf F r fv q k=>by
 unfold qN at q
 split at q
 .rename_i e;cases e
  cases fv with
  | tup nn e f=>exact⟨true,_,_,rfl,SqT.of e,by rw [f.length];exact q.1,h fx A R H0 ρ σ H _ _ Q Q' hf F r f q.2 k⟩
 .rename_i e;cases e
  cases fv with
  | lst nn e f=>exact⟨false,_,_,rfl,SqL.of e,by rw [f.length];exact q.1,h fx A R H0 ρ σ H _ _ Q Q' hf F r f q.2 k⟩
 .rename_i e;cases e
 .exact q.elim
end
def tI(d:D)(xs:List D):Prop:=d=.lst xs\/d=.tup xs
theorem Bm{d:D}{xs:List D}{i:Int}{Q:PV->Prop}(h:tI d xs)(q:∃x,atI xs i=some x/\Q (.dat x)):fIx d (.int i) Q:=by
 rcases h with rfl|rfl <;> exact q
theorem tI.lst(xs:List D):tI (.lst xs) xs:=.inl rfl
theorem tI.tup(xs:List D):tI (.tup xs) xs:=.inr rfl
def nSt:Expr->Bool
 | .Starred _ _=>false
 | _=>true
theorem ey{e:Expr}{es:List Expr}{env:Env}(h:nSt e=true):starEach (e::es) env=(false,eval e env)::starEach es env:=by
 cases e <;> first|rfl|cases h
theorem dA{env:Env}{pos:Pos}:∀{es:List Expr},es.all nSt=true->(backTo pos (starEach es env)).any (·.1)=false
 | [],_=>rfl
 | e::es,h=>by
  rw [all_cons,and_eq_true] at h;rw [ey h.1];show (false || (backTo pos (starEach es env)).any (·.1))=false;rw [dA h.2];rfl
section
variable {X:Cx}{k:Nat}{x:Str}{ps:List Str}{sp:Sp}{e:Expr}{es:List Expr}{te:TE}{t:TA}{p pos:Pos}{dvs:List V}{C:Addr}{id T:String}{r:List V->Hp->VK->Prop}
theorem paC(ha:PE X e te)(hr:PA X es t)(hn:nSt e=true:=by rfl):PA X (e::es) (ba te t):=xB ha hr (ey hn)
theorem aG(C:Cal X.prog X.w X.K X.mg X.base k x ps sp)(hr:dX k X.A)(ha:PA X (e::es) t)(hg:Gl X x:=by rfl)(hdb:(x == ("__debug__":Str))=false:=by decide)(hn:nSt e=true:=by rfl)(hp:es.all nSt=true:=by rfl) :
  PE X (.Call (.Name x p) (e::es) [] pos) (dY sp [] E0 t):=AI C hr ha hg hdb (ey hn) (dA hp)
theorem vI(j:Nat)(C:AN X.prog X.w X.K X.mg X.base k x ps dvs sp)(hr:dX k X.A)(hj:j<=dvs.length)(ha:PA X (e::es) t)(hg:Gl X x:=by rfl)(hdb:(x == ("__debug__":Str))=false:=by decide)(hn:nSt e=true:=by rfl)(hp:es.all nSt=true:=by rfl) :
  PE X (.Call (.Name x p) (e::es) [] pos) (dY sp (dvs.drop j) E0 t):=xW j C hr hj ha hg hdb (ey hn) (dA hp)
theorem pP(M:AO X.prog X.w X.K X.mg X.base k C x ps sp)(hr:dX (k+1) X.A)(ha:PA X (e::es) t)(hg:Gl X x:=by rfl)(hdb:(x == ("__debug__":Str))=false:=by decide)(hn:nSt e=true:=by rfl)(hp:es.all nSt=true:=by rfl) :
  PE X (.Call (.Name x p) (e::es) [] pos) (uN C sp [] E0 t):=xX M hr ha hg hdb (ey hn) (dA hp)
theorem ay(hc:bP X (.builtin id) r)(hg:Gl X x)(hm:X.mg x=none)(hv:bootBuiltins x=some (.builtin id))(ha:PA X (e::es) t)(hnn:x≠"__name__":=by decide)(hdb:(x == ("__debug__":Str))=false:=by decide)(hn:nSt e=true:=by rfl)(hp:es.all nSt=true:=by rfl) :
  PE X (.Call (.Name x p) (e::es) [] pos) (tCB r t):=uQ hc hg hm hv ha hnn hdb (ey hn) (dA hp)
theorem bi(hc:bP X (.type T) r)(hg:Gl X x)(hm:X.mg x=none)(hv:bootBuiltins x=some (.type T))(ha:PA X (e::es) t)(hnn:x≠"__name__":=by decide)(hdb:(x == ("__debug__":Str))=false:=by decide)(hn:nSt e=true:=by rfl)(hp:es.all nSt=true:=by rfl) :
  PE X (.Call (.Name x p) (e::es) [] pos) (tCB r t):=r0 hc hg hm hv ha hnn hdb (ey hn) (dA hp)
end
def plT:Expr->Bool
 | .Call _ _ _ _=>true
 | .Name _ _=>true
 | .Subscript _ _ _=>true
 | .Attribute _ _ _=>true
 | _=>false
theorem yE{e:Expr}{env:Env}(h:plT e=true):∀whole,isTrue e env whole=(do let v <- whole;standAt e.pos;holding [v] (truthy v)):=by
 cases e <;> first|(intro _;rfl)|cases h
theorem fh{X:Cx}{e:Expr}{t:TE}(h:PE X e t)(hp:plT e=true:=by rfl):PT X e (tB t):=zU h (yE hp)
def eY(a b:List Nat):Bool:=decide (0<=fnd b a 0)
def cH(ps:List (List Nat))(i:Nat):Bool:=!decide (pw ps i∈ps.take i) && !(ps.filter fun o=>decide ((pw ps i).length<o.length)).any fun o=>eY (pw ps i) o
theorem lq{a b:List Nat}:eY a b=true ↔ ∃k,stA b a k=true:=by
 unfold eY
 constructor
 .intro h;have h0:fnd b a 0≠-1:=fun z=>by rw [z] at h;exact absurd (of_decide_eq_true h) (by decide)
  obtain⟨k,_,_,h1,_⟩:=pD h0;exact⟨k,h1⟩
 .rintro⟨k,hk⟩
  by_cases h0:fnd b a 0=-1
  .rw [u6 h0 k (zero_le _)] at hk;cases hk
  .obtain⟨j,e,_⟩:=pD h0;rw [e];exact decide_eq_true (by omega)
theorem vJ(a:List Nat):eY a a=true:=lq.mpr ⟨0,decide_eq_true ⟨by omega,by rw [drop_zero,take_length]⟩⟩
theorem tJ{a b c:List Nat}(h1:eY a b=true)(h2:eY b c=true):eY a c=true:=by
 obtain⟨k1,e1⟩:=lq.mp h1;obtain⟨k2,e2⟩:=lq.mp h2;obtain⟨l1,t1⟩:=of_decide_eq_true e1;obtain⟨l2,t2⟩:=of_decide_eq_true e2;refine lq.mpr ⟨k2+k1,decide_eq_true ⟨by omega,?_⟩⟩
 have hb:b.drop k1=(c.drop (k2+k1)).take (b.length - k1):=by
  rw [<- t2,drop_take,drop_drop,t2]
 have ha:a=((c.drop (k2+k1)).take (b.length - k1)).take a.length:=by rw [<- hb,t1]
 rw [take_take,show min a.length (b.length - k1)=a.length by omega] at ha;exact ha.symm
theorem vK{ps:List (List Nat)}{i:Nat}:cH ps i=true ↔ pw ps i∉ps.take i/\∀o∈ps,(pw ps i).length<o.length->eY (pw ps i) o=false:=by
 unfold cH;rw [and_eq_true,Bool.not_eq_true',Bool.not_eq_true',decide_eq_false_iff_not,any_eq_false]
 constructor
 .rintro⟨h1,h2⟩;refine⟨h1,fun o ho hl=>?_⟩;have:=h2 o (mem_filter.mpr ⟨ho,decide_eq_true hl⟩);simpa using this
 .rintro⟨h1,h2⟩;refine⟨h1,fun o ho=>?_⟩;obtain⟨m1,m2⟩:=mem_filter.mp ho;rw [h2 o m1 (of_decide_eq_true m2)];decide
theorem tK{ps:List (List Nat)}(hw:∀w∈ps,w.length<=60):∀(m i:Nat),i<ps.length->(61 - (pw ps i).length)*(ps.length+1)+i<=m->∃j,j<ps.length/\cH ps j=true/\eY (pw ps i) (pw ps j)=true:=by
 intro m
 induction m with
 | zero =>
  intro i hi h;have hl:=hw _ (mem_of_getElem? (fR hi));have:0<(61 - (pw ps i).length)*(ps.length+1):=mul_pos (by omega) (by omega);omega
 | succ m ih =>
  intro i hi h;have hl:=hw _ (mem_of_getElem? (fR hi))
  by_cases hk:cH ps i=true
  .exact⟨i,hi,hk,vJ _⟩
  .by_cases h1:pw ps i∈ps.take i
   .obtain⟨i',hi'⟩:=mem_iff_getElem?.mp h1
    have hlt:i'<i:=by
     have:=(List.getElem?_eq_some_iff.mp hi').1;rw [length_take] at this;omega
    have he:pw ps i'=pw ps i:=by
     rw [getElem?_take,if_pos hlt] at hi';have:=fR (ws:=ps) (k:=i') (by omega);rw [hi'] at this;exact (Option.some.inj this).symm
    obtain⟨j,a1,a2,a3⟩:=ih i' (by omega) (by rw [he];omega);exact⟨j,a1,a2,by rw [<- he];exact a3⟩
   .have h2:∃o∈ps,(pw ps i).length<o.length/\eY (pw ps i) o=true:=by
     apply Classical.byContradiction;intro z;refine hk (vK.mpr ⟨h1,fun o ho hlo=>?_⟩)
     cases hs:eY (pw ps i) o with
     | false=>rfl
     | true=>exact absurd ⟨o,ho,hlo,hs⟩ z
    obtain⟨o,ho,hlo,hs⟩:=h2;obtain⟨i',hi'⟩:=mem_iff_getElem?.mp ho;have hlt:i'<ps.length:=(List.getElem?_eq_some_iff.mp hi').1
    have he:pw ps i'=o:=by
     have:=fR hlt;rw [hi'] at this;exact (Option.some.inj this).symm
    have hm:(61 - o.length+1)*(ps.length+1)<=(61 - (pw ps i).length)*(ps.length+1):=mul_le_mul_right _ (by have:=hw o ho;omega);rw [add_mul,Nat.one_mul] at hm;obtain⟨j,a1,a2,a3⟩:=ih i' hlt (by rw [he];omega);rw [he] at a3;exact⟨j,a1,a2,tJ hs a3⟩
def n9(a b:List Nat)(k:Nat):Prop:=k<min a.length b.length/\b.take k <:+ a/\∀j,j<min a.length b.length->b.take j <:+ a->j<=k
theorem n9.uniq{a b:List Nat}{j k:Nat}(x:n9 a b j)(y:n9 a b k):j=k:=le_antisymm (y.2.2 j x.1 x.2.1) (x.2.2 k y.1 y.2.1)
def gg(a b:List Nat):Nat:=open Classical in if h:∃k,n9 a b k then Classical.choose h else 0
theorem yF{a b:List Nat}(ha:0<a.length)(hb:0<b.length):n9 a b (gg a b):=by
 obtain⟨k,h1,h2,h3⟩:=jo (fun k=>b.take k <:+ a) (by rw [take_zero];exact nil_suffix) (min a.length b.length) (by omega);have h:∃k,n9 a b k:=⟨k,h1,h2,h3⟩
 unfold gg;rw [dif_pos h];exact Classical.choose_spec h
theorem lr{a b:List Nat}{k:Nat}(h:n9 a b k):gg a b=k:=(yF (by have:=h.1;omega) (by have:=h.1;omega)).uniq h
def aI(ps:List (List Nat)):List Nat:=(List.range ps.length).filter (cH ps)
def tL(ps:List (List Nat)):List Nat:=(List.range ps.length).filter fun i=>!decide (i∈aI ps)
def aB(ps:List (List Nat)):List (List Nat):=(aI ps).map (pw ps)
theorem fi{ps:List (List Nat)}{i:Nat}(h:i∈aI ps):i<ps.length:=mem_range.mp (mem_filter.mp h).1
theorem h9(ps:List (List Nat)):(aI ps).length<=ps.length:=Nat.le_trans (length_filter_le ..) (by rw [length_range];omega)
theorem fE{m:Nat}{ps:List (List Nat)}(h:Pcs m ps):Pcs m (aB ps):=fun w hw=>by
 obtain⟨i,hi,rfl⟩:=mem_map.mp hw;exact h _ (gJ (fi hi))
theorem fF(ps:List (List Nat)):(aB ps).length<=ps.length:=by unfold aB;rw [length_map];exact h9 ps
def jw(ps:List (List Nat))(i:Nat):List Nat:=(aI ps).filter fun j=>eY (pw ps i) (pw ps j)
def pQ(ps:List (List Nat))(i:Nat):Nat:=(jw ps i).headD 0
theorem vL{l:List Nat}(h:l.Pairwise (·<·)){m:Nat}(hm:m∈l)(hle:∀a∈l,m<=a):l.headD 0=m:=by
 cases l with
 | nil=>cases hm
 | cons x r =>
  show x=m;have h1:=hle x (mem_cons_self ..)
  rcases mem_cons.mp hm with e|e
  .exact e.symm
  .have:=(pairwise_cons.mp h).1 m e;omega
theorem mE(ps:List (List Nat)):(aI ps).Pairwise (·<·):=pairwise_lt_range.filter _
theorem tM{ps:List (List Nat)}{i m:Nat}(hm:m∈jw ps i)(hle:∀a∈jw ps i,m<=a):pQ ps i=m:=vL ((mE ps).filter _) hm hle
theorem qO{ps:List (List Nat)}(hw:∀w∈ps,w.length<=60){i:Nat}(hi:i<ps.length):∃j,j∈jw ps i:=by
 obtain⟨j,h1,h2,h3⟩:=tK hw _ i hi (Nat.le_refl _);exact⟨j,mem_filter.mpr ⟨mem_filter.mpr ⟨mem_range.mpr h1,h2⟩,h3⟩⟩
def di(ps:List (List Nat))(i:Nat):D:=.tup [.int (i:Int),.int (pQ ps i:Int),.int (fnd (pw ps (pQ ps i)) (pw ps i) 0)]
def Bn(ws:List (List Nat)):D:=.tup (ws.map fun w=>.tup (ws.map fun v=>.int (gg w v:Int)))
def yG(ps:List (List Nat)):Int:=((aB ps).map fun w=>(w.length:Int)).sum
def nD(k:Nat):D:=.int (k:Int)
def oa:List Str:=["pieces","kept","words","left","laps","total"]
def og(ps:List (List Nat)):List D:=[.tup (ps.map .str),.tup ((aI ps).map nD),.tup ((aB ps).map .str),.tup ((tL ps).map (di ps)),Bn (aB ps),.int (yG ps)]
theorem tN{ks:List Nat}{k:Nat}(h:k<(ks.map nD).length):itD (ks.map nD) k=.int ((ks.getD k 0:Nat):Int):=dP (by
 have h:k<ks.length:=by rwa [length_map] at h
 rw [getElem?_map,getD_eq_getElem?_getD,getElem?_eq_getElem h];rfl)
theorem lu(w:List Nat):∀ws:List (List Nat),inD (.str w) (ws.map .str)=decide (w∈ws)
 | []=>by simp [inD]
 | v::r=>by
  have ih:=lu w r;unfold inD at ih ⊢;rw [map_cons,any_cons,ih];show ((v == w) || decide (w∈r))=_
  by_cases h:v=w
  .subst h;simp
  .rw [beq_eq_false_iff_ne.mpr h,Bool.false_or]
   by_cases h2:w∈r
   .rw [decide_eq_true h2,decide_eq_true (mem_cons_of_mem _ h2)]
   .rw [decide_eq_false h2,decide_eq_false (fun z=>(mem_cons.mp z).elim (fun e=>h e.symm) h2)]
theorem mF(k:Nat):∀ks:List Nat,inD (.int (k:Int)) (ks.map nD)=decide (k∈ks)
 | []=>by simp [inD]
 | v::r=>by
  have ih:=mF k r;unfold inD at ih ⊢;rw [map_cons,any_cons,ih];show (((v:Int) == (k:Int)) || decide (k∈r))=_
  by_cases h:v=k
  .subst h;simp
  .rw [show ((v:Int) == (k:Int))=false from beq_eq_false_iff_ne.mpr (by omega),Bool.false_or]
   by_cases h2:k∈r
   .rw [decide_eq_true h2,decide_eq_true (mem_cons_of_mem _ h2)]
   .rw [decide_eq_false h2,decide_eq_false (fun z=>(mem_cons.mp z).elim (fun e=>h e.symm) h2)]
theorem tO(ws:List (List Nat)):(ws.map D.str).all D.fl=true:=by rw [all_map];exact all_eq_true.mpr fun _ _=>rfl
theorem vM(ks:List Nat):(ks.map nD).all D.fl=true:=by rw [all_map];exact all_eq_true.mpr fun _ _=>rfl
theorem pR(ws:List (List Nat)):(List.range ws.length).map (pw ws)=ws:=by
 apply ext_getElem?;intro k;rw [getElem?_map]
 by_cases hk:k<ws.length
 .rw [getElem?_range hk,fR hk];rfl
 .rw [getElem?_eq_none (by rw [length_range];omega),getElem?_eq_none (by omega)];rfl
theorem vN{β:Type}(f:List Nat->Option β)(ws:List (List Nat)):(List.range ws.length).filterMap (fun k=>f (pw ws k))=ws.filterMap f:=by
 conv=>rhs;rw [<- pR ws]
 rw [filterMap_map];rfl
theorem cq{α β:Type}(p:α->Bool)(g:α->β):∀l:List α,l.filterMap (fun a=>if p a=true then some (g a) else none)=(l.filter p).map g
 | []=>rfl
 | a::r=>by
  rw [filterMap_cons,filter_cons]
  cases h:p a with
  | true=>simp [cq p g r]
  | false=>simp [cq p g r]
theorem vO{β:Type}(f:Nat->Option β)(ks:List Nat):(List.range ks.length).filterMap (fun k=>f (ks.getD k 0))=ks.filterMap f:=by
 have e:(List.range ks.length).map (fun k=>ks.getD k 0)=ks:=by
  have:=et (fun k=>k) ks;rw [List.map_id'] at this;exact this
 conv=>rhs;rw [<- e]
 rw [filterMap_map];rfl
theorem ia(n:Nat):(rp 0 n).length=n:=by unfold rp;rw [length_map,length_range]
theorem lv{n j:Nat}(h:j<(rp 0 n).length):itD (rp 0 n) j=.int (j:Int):=dP (by
 rw [ia] at h;unfold rp;rw [getElem?_map,getElem?_range h];show some (D.int (0+(j:Int)))=_;rw [Int.zero_add])
abbrev vmB:List Value:=[.type "ValueError",.type "Exception",.type "BaseException",.type "object"]
section
variable {prog:Program}{w:World}{A:Around}{E:Value->Shared->Prop}{K:PySem.W.Frag}{h:Heap}{g:Array GenState}{d:Drawn}{t:Nat}{os:OsState}
variable {nm q:Str}{C N:Addr}{bs bm:List Value}{sn:List Str}{sub:List Value}{ab:Bool}{col:Option Bool}{k0 k1 k2 k3 k5:Option Value}
theorem oh{rest:List Value}{fI:Addr}{Q:Fin->Shared->Prop}(X:K.In h)(hC:h.get? C=some (excClassObj nm q C N bs bm true sn sub ab col none k0 k1 k2 k3 k5 "ValueError.__new__"))(T:OwnTail h vmB bm)
  (hi:PySem.W.findIn K (.ref C) "__init__"=some (some (.ref fI))) (hf:PySem.W.typeIn K (.ref fI)=some (.type "function")) (hrest:rest.length<=sizeLine)
  (hq:∀h',Heap.MadeExcOf h h' (h.objs.size+1) (.ref C) rest->wpAny (model prog w) A (call (.ref fI) (.ref (h.objs.size+1)::rest)) (fun r s'=>r=.none/\Q (.done (.ret (.ref (h.objs.size+1)))) s') E ⟨h',g,d,t,os⟩) :
  wpAny (model prog w) A (Builtin.«type.__call__» ⟨.ref C::rest,[]⟩) Q E ⟨h,g,d,t,os⟩:=by
 have FV:=PySem.F.excBase_ValueError
 repeat (first
  | with_reducible refine wpAny_loadPart_at hC ?_
  | with_reducible refine wpAny_madeBy_exc hC ?_
  | wp_step)
 refine codeAny_call_builtin_code (Code.quiet_builtin _ FV.quiet) (wpAny_check_new_subT FV T hC ?_);refine codeAny_exc_new_subT FV T hC ?_ hrest;show wpAny _ _ _ _ _ _;generalize hh1:(h.push { cls:=.type "tuple",data:=.seq rest.toArray })=h1;generalize hh2:(h1.push { cls:=.ref C,data:=.fields #[.ref h.objs.size,.none,.none,.none,.bool false,.none] })=h2
 have kp:∀b o,h.get? b=some o->h2.get? b=some o:=fun b o e=>by
  rw [<- hh2,<- hh1];exact Heap.get?_push_of_some _ (Heap.get?_push_of_some _ e)
 have hC2:=kp _ _ hC;have X2:K.In h2:=X.keeps kp;have sz:h1.objs.size=h.objs.size+1:=by rw [<- hh1];exact Heap.size_push ..
 have ge:h2.get? (h.objs.size+1)=some { cls:=.ref C,data:=.fields #[.ref h.objs.size,.none,.none,.none,.bool false,.none] }:=by
  rw [<- hh2,<- sz];exact Heap.get?_push_size _ rfl
 have gt:h2.get? h.objs.size=some { cls:=.type "tuple",data:=.seq rest.toArray }:=by
  rw [<- hh2,<- hh1];exact Heap.get?_push_of_some _ (Heap.get?_push_size _ rfl)
 have cc:(Value.ref C::bm).contains (.ref C)=true:=by simp
 unfold isInstance
 repeat (first
  | with_reducible refine wpAny_loadPart_at ge ?_
  | (with_reducible refine wpAny_isSubtype_exc hC2 ?_;rw [cc])
  | wp_step)
 show wpAny _ _ (typeLookup (.ref C) _) _ _ _;refine (PySem.W.looks_findIn X2 hi).at ?_;refine wpAny_holding (wpAny_bind ((PySem.W.bind_fn X2 _ hf).at ?_));refine wpAny_bind (wpAny_mono (hq h2 ⟨kp,Heap.get?_none_of_le (le_succ _),h.objs.size,ge,Heap.get?_none_of_le (Nat.le_refl _),gt⟩) (fun r s' hr=>?_) fun _ _ x=>x);obtain⟨rfl,hQ⟩:=hr
 wp_walk
 exact hQ
theorem yH{rest:List Value}{fI:Addr}{Q:Value->Shared->Prop}(X:K.In h)(hC:h.get? C=some (excClassObj nm q C N bs bm true sn sub ab col none k0 k1 k2 k3 k5 "ValueError.__new__"))(T:OwnTail h vmB bm)
  (hi:PySem.W.findIn K (.ref C) "__init__"=some (some (.ref fI))) (hf:PySem.W.typeIn K (.ref fI)=some (.type "function")) (hrest:rest.length<=sizeLine)
  (hq:∀h',Heap.MadeExcOf h h' (h.objs.size+1) (.ref C) rest->wpAny (model prog w) (A.under (.builtin "type.__call__" ⟨.ref C::rest,[]⟩)) (call (.ref fI) (.ref (h.objs.size+1)::rest)) (fun r s'=>r=.none/\Q (.ref (h.objs.size+1)) s') E ⟨h',g,d,t,os⟩) :
  wpAny (model prog w) A (call (.ref C) rest) Q E ⟨h,g,d,t,os⟩:=by
 have u1:=tc_lookup;have u2:=tc_bind (.ref C);have hT:(⟨h,g,d,t,os⟩:Shared).TypeIs (.ref C) "type":=⟨_,hC,rfl⟩
 refine wpAny_call (codeAny_of_tree ?_);show wpAny _ _ (callAny (.ref C) _) _ _ _
 repeat (any_goals (first
  | assumption
  | with_reducible refine wpAny_loadPart_at hC ?_
  | wp_step))
 refine⟨rfl,?_⟩;refine codeAny_call_builtin_at (Code.quiet_builtin _ (by decide +kernel)) entry_typeCall ?_;refine wpAny_check_type_call_sub hC (oh X hC T hi hf hrest fun h' hm=>?_);exact hq h' hm
end
open PySem.Builtin PySem.Builtin.ObjectAttr
section
variable {prog:Program}{w:World}{A:Around}{E:Value->Shared->Prop}{K:PySem.W.Frag}{h:Heap}{g:Array GenState}{d:Drawn}{t:Nat}{os:OsState}
variable {nm q:Str}{C G N x:Addr}{bs:List Value}{sn:List Str}{sub:List Value}{ab:Bool}{col:Option Bool}{k0 k1 k2 k3 k5:Option Value}{name:Str}{v:Value}{o:Obj}{vs:Array Value}
def D4(h h':Heap)(x:Addr)(o:Obj)(name:Str)(v:Value)(dx:Addr):Prop :=
 h'.get? x=some { o with dict:=some dx }/\h.objs.size<=dx/\dx≠x/\h'.Ns1 dx (fun y=>if y=name then some v else none)/\∀b ob,b≠x->h.get? b=some ob->h'.get? b=some ob
theorem lw{tk:Tok}{Q:Fin->Shared->Prop}(X:K.In h)(hC:h.get? C=some (excClassObj nm q C N bs (.ref G::vmB) true sn sub ab col none k0 k1 k2 k3 k5 "ValueError.__new__"))
  (hna:PySem.W.findIn K (.ref C) name=some none) (hx:h.get? x=some o) (hc:o.cls=.ref C) (hd:o.data=.fields vs) (hdn:o.dict=none)
  (hq:∀h' tk' dx,D4 h h' x o name v dx->Q (.done (.ret .none)) ⟨h',g,d,tk',os⟩) :
  wpAny (model prog w) A (Builtin.«object.__setattr__» ⟨[.ref x,.str name tk,v],[]⟩) Q E ⟨h,g,d,t,os⟩:=by
 have hpass:=PySem.F.store_ValueError.passes (.ref x);unfold Builtin.«object.__setattr__»
 repeat (first
  | rw [refuse_eq]
  | (rw [refuseLoop_ref,refuseLoop_ref,hpass])
  | (with_reducible refine wpAny_loadPart_at hx ?_;rw [hc])
  | with_reducible refine wpAny_mroOf_exc hC ?_
  | (with_reducible refine (PySem.W.looks_findIn X hna).at ?_)
  | wp_step)
 rw [hdn,if_neg (by simp [typeHasDict])]
 split
 .rename_i hcd;cases hcd
 split
 .rename_i c hcd;rw [hd] at hcd;cases hcd
 .have hx1:(h.push { cls:=.type "dict",data:=.dict #[] }).get? x=some o:=Heap.get?_push_of_some _ hx;have hxs:x≠h.objs.size:=ne_of_lt (Heap.lt_size hx);refine wpAny_bind (wpAny_alloc' ?_);refine wpAny_bind (wpAny_update' hx1 ?_);refine wpAny_pure ?_;generalize hg2:((h.push { cls:=.type "dict",data:=.dict #[] }).update x fun o=>{ cls:=o.cls,dict:=some h.objs.size,data:=o.data,slots:=o.slots })=h2
  have gd:h2.get? h.objs.size=some { cls:=.type "dict",data:=.dict #[] }:=by
   rw [<- hg2];exact (Heap.get?_update_ne _ _ _ _ hxs.symm).trans (Heap.get?_push_at rfl rfl)
  have gx:h2.get? x=some { o with dict:=some h.objs.size }:=by
   rw [<- hg2];refine Heap.get?_update_self _ hx1 ?_;have hfr:=(Heap.get?_some_iff.mp hx).2;obtain⟨oc,od,odt,osl⟩:=o;cases odt <;> first|rfl|exact hfr
  have kp:∀b ob,b≠x->h.get? b=some ob->h2.get? b=some ob:=fun b ob hb e=>by
   rw [<- hg2];exact (Heap.get?_update_ne _ _ _ _ hb).trans (Heap.get?_push_of_some _ e)
  have hnd:h2.Ns h.objs.size (fun _=>none):=⟨_,#[],_,gd,rfl,fun e he=>absurd he (by simp),fun _=>rfl⟩
  show wpAny _ _ (storeInDict h.objs.size (.str name tk) name v) _ _ _;unfold storeInDict newKeyGuard;refine wpAny_bind (wpAny_pure (wpAny_bind (wpAny_nsSet1 (Heap.Ns1.of_empty hnd) fun h' hn' hs=>?_)));obtain⟨oD,esD,epD,hoD,hdD,hcD⟩:=hn'.count (Within.cons name v Within.nil)
  refine wpAny_bind (wpAny_lookBehind hoD (by
   rw [hdD];exact pastItsLine_dict (Nat.le_trans hcD (by rw [length_cons,length_nil,sizeLine_eq];omega))) ?_)
  wp_walk
  exact hq h' _ h.objs.size ⟨(hs.2 x hxs).trans gx,Nat.le_refl _,hxs.symm,hn',fun b ob hb e=>(hs.2 b (ne_of_lt (Heap.lt_size e))).trans (kp b ob hb e)⟩
theorem yI{Q:Unit->Shared->Prop}(X:K.In h)(hC:h.get? C=some (excClassObj nm q C N bs (.ref G::vmB) true sn sub ab col none k0 k1 k2 k3 k5 "ValueError.__new__"))
  (hsa:PySem.W.findIn K (.ref C) "__setattr__"=some (some (.builtin "object.__setattr__"))) (hna:PySem.W.findIn K (.ref C) name=some none)
  (hx:h.get? x=some o) (hc:o.cls=.ref C) (hd:o.data=.fields vs) (hdn:o.dict=none)
  (hq:∀h' tk' dx,D4 h h' x o name v dx->Q () ⟨h',g,d,tk',os⟩) :
  wpAny (model prog w) A (setAttr (.ref x) name v) Q E ⟨h,g,d,t,os⟩:=by
 have SF:=PySem.F.store_ValueError;have u3:=SF.slot.bind (.ref x);unfold setAttr callSpecial? specialOf;refine wpAny_bind (wpAny_mkText (wpAny_bind (wpAny_bind (wpAny_bind (wpAny_typeOf_ref hx ?_)))));rw [hc];refine (PySem.W.looks_findIn X hsa).at ?_;refine wpAny_holding (wpAny_bind (wpAny_of_eq u3 (wpAny_bind (wpAny_call ?_))))
 have own:(Value.ref C::.ref G::vmB).contains (.type "object")=true:=by
  rw [contains_cons,contains_cons,SF.hasOwner,Bool.or_true,Bool.or_true]
 refine codeAny_call_builtin SF.slot.plain SF.entry ?_;simp only [checkBuiltinCall,SF.kind,SF.split];have ha:=SF.args (.ref x) (.str name t) v;show wpAny _ _ (isInstance (.ref x) (.type "object") >>= _) _ _ _;refine wpAny_bind ?_;unfold isInstance;refine wpAny_bind (wpAny_typeOf_ref hx ?_);rw [hc];refine wpAny_isSubtype_exc hC ?_;rw [own]
 have step:∀{Q':Fin->Shared->Prop},(∀s',Q () s'->Q' (.done (.ret .none)) s')->wpAny (model prog w) A.in1 (Builtin.«object.__setattr__» ⟨[.ref x,.str name t,v],[]⟩) Q' E ⟨h,g,d,t+1,os⟩:=fun k =>
  lw X hC hna hx hc hd hdn fun h' tk' dx z=>k _ (hq h' tk' dx z)
 show wpAny _ _ (match Manifest.signature? "object.__setattr__" with|some sig=>Bind.checkArgs "object.__setattr__" sig { pos:=[Value.ref x]++[Value.str name t,v] }|x=>pure ()) _ _ _
 cases hsig:Manifest.signature? "object.__setattr__" with
 | none=>exact wpAny_pure (step fun s' z=>wpAny_pure (wpAny_pure z))
 | some sig =>
  simp only [argsOk,hsig] at ha;have h2:Bind.checkArgs "object.__setattr__" sig ⟨[.ref x,.str name t,v],[]⟩=pure ():=ha;show wpAny _ _ (Bind.checkArgs "object.__setattr__" sig ⟨[.ref x,.str name t,v],[]⟩) _ _ _;rw [h2];exact wpAny_pure (step fun s' z=>wpAny_pure (wpAny_pure z))
end
open PySem.Builtin PySem.Builtin.ObjectAttr
section
variable {prog:Program}{w:World}{A:Around}{E:Value->Shared->Prop}{K:PySem.W.Frag}{h:Heap}{g:Array GenState}{d:Drawn}{t:Nat}{os:OsState}
variable {nm q:Str}{C G N x dx:Addr}{bs:List Value}{sn:List Str}{sub:List Value}{ab:Bool}{col:Option Bool}{k0 k1 k2 k3 k5:Option Value}{name:Str}{v:Value}{o:Obj}{vs:Array Value}{mA:Str->Option Value}
theorem mG{tk:Tok}{Q:Fin->Shared->Prop}(X:K.In h)(hC:h.get? C=some (excClassObj nm q C N bs (.ref G::vmB) true sn sub ab col none k0 k1 k2 k3 k5 "ValueError.__new__"))
  (hna:PySem.W.findIn K (.ref C) name=some none) (hx:h.get? x=some o) (hc:o.cls=.ref C) (hd:o.data=.fields vs) (hdx:o.dict=some dx) (hns:h.Ns dx mA) (hv:mA name=some v)
  (hq:Q (.done (.ret v)) ⟨h,g,d,t,os⟩):wpAny (model prog w) A (Builtin.«object.__getattribute__» ⟨[.ref x,.str name tk],[]⟩) Q E ⟨h,g,d,t,os⟩:=by
 unfold Builtin.«object.__getattribute__»
 repeat (first
  | (with_reducible refine wpAny_loadPart_at hx ?_;rw [hc])
  | (with_reducible refine (PySem.W.looks_findIn X hna).at ?_)
  | wp_step)
 rw [hd];show wpAny _ _ (instanceDict x false) _ _ _;unfold instanceDict
 repeat (first
  | (with_reducible refine wpAny_loadPart_at hx ?_;rw [hc])
  | with_reducible refine wpAny_loadPart_at hC ?_
  | wp_step)
 rw [hdx]
 repeat (first
  | (with_reducible refine wpAny_nsGet hns ?_;rw [hv])
  | wp_step)
 exact hq
end
open PySem.Builtin PySem.Builtin.ObjectAttr
open PySem.Builtin PySem.Builtin.ObjectAttr
section
variable {prog:Program}{w:World}{A:Around}{E:Value->Shared->Prop}{K:PySem.W.Frag}{h:Heap}{g:Array GenState}{d:Drawn}{t:Nat}{os:OsState}
variable {nm q:Str}{C G N x dx:Addr}{bs:List Value}{sn:List Str}{sub:List Value}{ab:Bool}{col:Option Bool}{k0 k1 k2 k3 k5:Option Value}{name:Str}{v:Value}{o:Obj}{vs:Array Value}{mA:Str->Option Value}
theorem Eu{fill expr:Bool}{tk:Tok}{Q:Value->Shared->Prop}(X:K.In h)(hC:h.get? C=some (excClassObj nm q C N bs (.ref G::vmB) true sn sub ab col none k0 k1 k2 k3 k5 "ValueError.__new__"))
  (hga:PySem.W.findIn K (.ref C) "__getattribute__"=some (some (.builtin "BaseException.__getattribute__"))) (hgh:PySem.W.findIn K (.ref C) "__getattr__"=some none)
  (hx:h.get? x=some o) (hc:o.cls=.ref C) (hh:handedOut v=pure v)
  (step:∀{Q':Fin->Shared->Prop}{E':Value->Shared->Prop},Q' (.done (.ret v)) ⟨h,g,d,t,os⟩->wpAny (model prog w) A.in1 (Builtin.«object.__getattribute__» ⟨[.ref x,.str name tk],[]⟩) Q' E' ⟨h,g,d,t,os⟩)
  (hq:Q v ⟨h,g,d,t,os⟩):wpAny (model prog w) A (getAttrBy (.ref x) (.str name tk) fill expr) Q E ⟨h,g,d,t,os⟩:=by
 unfold getAttrBy;refine wpAny_holding (wpAny_bind (wpAny_typeOf_ref hx ?_));rw [hc];refine wpAny_bind ((PySem.W.looks_findIn X hga).at ?_);have hx2:(Value.builtin "BaseException.__getattribute__" == Value.builtin "object.__getattribute__")=false:=by decide +kernel
 show wpAny _ _ (if (onTheHeap (.ref C) && (Value.builtin "BaseException.__getattribute__" == Value.builtin "object.__getattribute__"))=true then _ else _) _ _ _;rw [hx2,Bool.and_false,if_neg (by decide)];unfold getAttrByItsOwn;refine wpAny_bind ((PySem.W.looks_hook X (r:=none) (by rw [if_pos (by rfl)];exact hgh)).at ?_);refine wpAny_bind (wpAny_attempt ?_);unfold callGetattribute;refine wpAny_holding ?_
 rw [if_neg (by cases expr <;> decide)];unfold boundAndCalled;have FB:=PySem.F.attrBase_ValueError
 have own:(Value.ref C::.ref G::vmB).contains (.type "BaseException")=true:=by
  rw [contains_cons,contains_cons,FB.hasBase,Bool.or_true,Bool.or_true]
 have ha:=PySem.F.args_bexc_ga (.ref x) (.str name tk);have hk:builtinKind "BaseException.__getattribute__"=some .slot:=by decide +kernel
 have hsp:splitId "BaseException.__getattribute__"=some ("BaseException","__getattribute__"):=by decide +kernel
 refine wpAny_bind (wpAny_of_eq (FB.ga.bind (.ref x)) ?_);refine wpAny_call (codeAny_call_builtin FB.ga.plain PySem.F.entry_bexc_ga ?_);simp only [checkBuiltinCall,hk,hsp];show wpAny _ _ (isInstance (.ref x) (.type "BaseException") >>= _) _ _ _;refine wpAny_bind ?_;unfold isInstance;refine wpAny_bind (wpAny_typeOf_ref hx ?_);rw [hc];refine wpAny_isSubtype_exc hC ?_;rw [own];have done:wpAny (model prog w) A (handedOut v) Q E ⟨h,g,d,t,os⟩:=by rw [hh];exact wpAny_pure hq
 show wpAny _ _ (match Manifest.signature? "BaseException.__getattribute__" with|some sig=>Bind.checkArgs "BaseException.__getattribute__" sig { pos:=[Value.ref x]++[Value.str name tk] }|x=>pure ()) _ _ _
 cases hsig:Manifest.signature? "BaseException.__getattribute__" with
 | none=>exact wpAny_pure (step done)
 | some sig =>
  simp only [argsOk,hsig] at ha;have h2:Bind.checkArgs "BaseException.__getattribute__" sig ⟨[.ref x,.str name tk],[]⟩=pure ():=ha;show wpAny _ _ (Bind.checkArgs "BaseException.__getattribute__" sig ⟨[.ref x,.str name tk],[]⟩) _ _ _;rw [h2];exact wpAny_pure (step done)
structure XC (K:PySem.W.Frag) (C G:Addr):Prop where
 obj:∃nm q N bs sn sub ab col k0 k1 k2 k3 k5,K.lookup C=some (excClassObj nm q C N bs (.ref G::vmB) true sn sub ab col none k0 k1 k2 k3 k5 "ValueError.__new__")
 ga:PySem.W.findIn K (.ref C) "__getattribute__"=some (some (.builtin "BaseException.__getattribute__"))
 gh:PySem.W.findIn K (.ref C) "__getattr__"=some none
 sa:PySem.W.findIn K (.ref C) "__setattr__"=some (some (.builtin "object.__setattr__"))
 cl:PySem.W.findIn K (.ref C) "__class__"=some (some (.builtin "object.__class__"))
end
theorem tP{v:V}{u:Value}(r:cJ v u):handedOut u=pure u:=by
 cases v with
 | non=>cases (show u=Value.none from r);rfl
 | bl b=>cases (show u=Value.bool b from r);rfl
 | int i=>obtain⟨t,e⟩:=(show ∃t,u=Value.int i t from r);subst e;rfl
 | str x=>obtain⟨t,e⟩:=(show ∃t,u=Value.str x t from r);subst e;rfl
 | flt x=>obtain⟨t,e⟩:=(show ∃t,u=Value.float x t from r);subst e;rfl
 | ty n=>cases (show u=Value.type n from r);rfl
 | byt b=>obtain⟨t,e⟩:=(show ∃t,u=Value.bytes b t from r);subst e;rfl
 | ref a=>cases (show u=Value.ref a from r);rfl
theorem XAt.ok{P:Program}{w:World}{H:Hp}{h:Heap}{x C:Addr}{dd:Option Addr}{new:Bool}(p:XAt x C dd new h):bL P w H h x (.ext (XAt x C dd new)):=by
 obtain⟨o,vs,h1,h2,h3,h4⟩:=id p;exact⟨p,⟨o,h1⟩,fun g1 g2 ⟨o',vs',a1,a2⟩ k=>⟨o',vs',k _ a1,a2⟩⟩
section
variable {X:Cx}{pins:List (Addr×Obj)}{σ:St}{H:Hp}{s:Shared}{a dx C G:Addr}{f:Str}{v:V}{fs:List (Str×V)}{A:Around}{E:Value->Shared->Prop}
theorem Ev{b new:Bool}{Q:Value->Shared->Prop}(I:Inv X pins σ H s)(ea:H a=some (.ext (XAt a C (some dx) new)))(ed:H dx=some (.xd fs))(c:XC X.K C G)(n:PySem.W.findIn X.K (.ref C) f=some none)(l:fs.lookup f=some v)
  (h:∀u s',Inv X pins σ H s'->cJ v u->Q u s'):wpAny (model X.prog X.w) A (getAttr (.ref a) f b) Q E s:=by
 obtain⟨⟨o,vs,h1,h2,h3,h4,h5⟩,_,_⟩:=(show bL X.prog X.w H s.heap a (.ext (XAt a C (some dx) new)) from I.hok a _ ea)
 obtain⟨mA,hns,r⟩:=(show bL X.prog X.w H s.heap dx (.xd fs) from I.hok dx _ ed)
 obtain⟨u,hu,ru⟩:=qc.some_of (v:=v) (o:=mA f) (by rw [<- l];exact r f);obtain⟨nm,q,N,bs,sn,sub,ab,col,k0,k1,k2,k3,k5,e⟩:=c.obj;have I2:=I.tok (s.toks+1);have X2:=I.kIn;obtain⟨hh,g,d,t,os⟩:=s;unfold getAttr;refine wpAny_bind (wpAny_mkText ?_);exact Eu X2 (X2 _ _ e) c.ga c.gh h1 h2 (tP ru) (fun k=>mG X2 (X2 _ _ e) n h1 h2 h4 h3 hns.ns hu k) (h u _ I2 ru)
theorem Un.setX{h h':Heap}{fs ex:List Addr}{o:HO}{o2:HO}(mu:Mut (H a))(hx:H dx=none)(hd:h.get? dx=none)(k:∀b ob,b≠a->h.get? b=some ob->h'.get? b=some ob)(ha:∃o,h'.get? a=some o):Un fs ex H (upd (upd H dx o) a o2) h h':=by
 have na:∀b,H b=none->b≠a:=fun b n z=>by subst z;rw [n] at mu;exact mu
 have nd:∀b ob,h.get? b=some ob->b≠dx:=fun b ob e z=>by rw [z,hd] at e;cases e
 have hm:∀b u,H b=some u->¬ Mut (some u)->b≠a/\b≠dx:=fun b u q nm=>⟨fun z=>by subst z;rw [q] at mu;exact nm mu,fun z=>by subst z;rw [hx] at q;cases q⟩
 refine⟨fun b u q n _ _=>k b u (na b n) q,fun b u q n _ _=>⟨u.slots,k b u (na b n) q⟩,fun b u q n _=>by rw [aj (na b n),aj (nd b u q)];exact n,fun b u q _=>?_,
  fun b xs q=>by rw [aj (hm b _ q fun z=>z).1,aj (hm b _ q fun z=>z).2];exact q,fun b u xs q=>by rw [aj (hm b _ q fun z=>z).1,aj (hm b _ q fun z=>z).2];exact q,
  fun b ps q=>⟨#[],by rw [aj (hm b _ q fun z=>z).1,aj (hm b _ q fun z=>z).2,q];simp⟩⟩
 by_cases hb:b=a
 .subst hb;exact ha
 .exact⟨u,k b u hb q⟩
theorem setX{new:Bool}{y:V}{u:Value}{Q:Unit->Shared->Prop}(I:Inv X pins σ H s)(ea:H a=some (.ext (XAt a C none new)))(c:XC X.K C G)(n:PySem.W.findIn X.K (.ref C) f=some none)(ry:cJ y u)
  (h:∀dx s',H dx=none->Inv X pins σ (upd (upd H dx (.xd [(f,y)])) a (.ext (XAt a C (some dx) new))) s'->Q () s'):wpAny (model X.prog X.w) A (setAttr (.ref a) f u) Q E s:=by
 obtain⟨⟨o,vs,h1,h2,h3,h4,h5⟩,_,_⟩:=(show bL X.prog X.w H s.heap a (.ext (XAt a C none new)) from I.hok a _ ea)
 obtain⟨nm,q,N,bs,sn,sub,ab,col,k0,k1,k2,k3,k5,e⟩:=c.obj;have X2:=I.kIn;obtain⟨hh,g,d,t,os⟩:=s;refine yI X2 (X2 _ _ e) c.sa n h1 h2 h4 h3 fun h' tk' dx z=>?_;obtain⟨z1,z2,z3,z4,z5⟩:=z;have hdx:H dx=none:=I.hok.fresh z2;have hg0:hh.get? dx=none:=Heap.get?_none_of_le z2;have hne:dx≠a:=z3;have mu:Mut (H a):=by rw [ea];exact True.intro
 refine h dx _ hdx (I.un (t':=tk') (Un.setX mu hdx hg0 z5 ⟨_,z1⟩) fun b ob eb=>?_)
 by_cases hb:b=a
 .subst hb;rw [aA] at eb;cases eb;exact XAt.ok ⟨_,vs,z1,h2,rfl,h4,h5⟩
 .rw [aj hb] at eb
  by_cases hb2:b=dx
  .subst hb2;rw [aA] at eb;cases eb;refine⟨_,z4,fun y'=>?_⟩;show qc (List.lookup y' [(f,y)]) _
   by_cases q:y'=f
   .subst q;rw [if_pos rfl];have e1:List.lookup y' [(y',y)]=some y:=by simp [List.lookup]
    rw [e1];exact ry
   .rw [if_neg q];have:(y' == f)=false:=beq_eq_false_iff_ne.mpr q;simp [List.lookup,this,qc]
  .rw [aj hb2] at eb
   refine (I.hok b ob eb).stay (fun c w hc e=>?_) (fun c e=>?_) fun c xs e=>?_
   .refine z5 c w ?_ e;rintro rfl
    rcases hc with hc|hc
    .exact hb hc.symm
    .rw [ea] at hc;cases hc
   .rw [aj,aj]
    .exact e
    .rintro rfl;rw [hdx] at e;cases e
    .rintro rfl;rw [ea] at e;cases e
   .rw [aj,aj]
    .exact e
    .rintro rfl;rw [hdx] at e;cases e
    .rintro rfl;rw [ea] at e;cases e
end
section
variable {X:Cx}{o e value:Expr}{f:Str}{pos pos':Pos}{ta tv:TE}
def yJ(K:PySem.W.Frag)(ta:TE)(f:Str):TE:=fun σ H Q=>ta σ H fun x H1=>∃a C G dx new fs v,x=.ref a/\H1 a=some (.ext (XAt a C (some dx) new))/\H1 dx=some (.xd fs)/\XC K C G/\PySem.W.findIn K (.ref C) f=some none/\fs.lookup f=some v/\Q v H1
theorem yK(he:PE X e ta)(hb:attributeBase e f X.env (eval e X.env)=eval e X.env):PE X (.Attribute e f pos) (yJ X.K ta f):=by
 intro pins s σ H Q I h;refine rT hb (thn (he pins s σ H _ I h) fun u s1 ⟨x,H1,I1,rx,a,C,G,dx,new,fs,v,ex,ea,ed,c,n,l,q⟩=>?_);subst ex;obtain rfl:u=Value.ref a:=rx;exact Ev I1 ea ed c n l fun u' s2 I2 ru=>⟨v,H1,I2,ru,q⟩
def yL(K:PySem.W.Frag)(ta tv:TE)(f:Str):TS:=fun D σ H=>tv σ H fun y H1=>ta σ H1 fun x H2=>∃a C G new,x=.ref a/\H2 a=some (.ext (XAt a C none new))/\XC K C G/\PySem.W.findIn K (.ref C) f=some none /\
 ∀dx,H2 dx=none->D.nx σ (upd (upd H2 dx (.xd [(f,y)])) a (.ext (XAt a C (some dx) new)))
theorem yM(ha:PE X o ta)(hv:PE X value tv)(hs:swapsWith value (some (.Attribute o f pos')) pos.line X.env=pure false):PS X (.Assign [.Attribute o f pos'] value pos) (yL X.K ta tv f):=by
 intro pins s σ H D I h;refine plainObj_wpAny_Assign_Attribute (thn (hv pins s σ H _ I h) fun u s1 ⟨y,H1,I1,ry,q⟩=>thn (ha pins s1 σ H1 _ I1 q) fun ov s2 ⟨x,H2,I2,rx,a,C,G,new,ex,ea,c,n,q2⟩=>?_) hs;subst ex;obtain rfl:ov=Value.ref a:=rx;exact setX I2 ea c n ry fun dx s3 hdx I3=>⟨σ,_,I3,q2 dx hdx⟩
end
theorem bL.there{P:Program}{w:World}{H:Hp}{h:Heap}{a:Addr}{o:HO}(x:bL P w H h a o):∃ob,h.get? a=some ob:=by
 cases o with
 | lst xs=>obtain⟨_,_,_,_,e⟩:=x;exact⟨_,e⟩
 | tup xs=>obtain⟨_,_,_,ob,e,_⟩:=x;exact⟨ob,e⟩
 | dK kvs=>obtain⟨_,_,_,_,o,_,_,e,_⟩:=x;exact⟨o,e⟩
 | dT kvs=>obtain⟨_,_,_,_,o,_,_,e,_⟩:=x;exact⟨o,e⟩
 | set S n=>obtain⟨o,_,_,_,e,_⟩:=x;exact⟨o,e⟩
 | ins C dx fs=>obtain⟨_,_,_,e,_⟩:=x;exact⟨_,e⟩
 | own y=>exact x
 | xd fs=>obtain⟨_,⟨o,_,_,e,_⟩,_⟩:=x;exact⟨o,e⟩
 | rng lo hi=>obtain⟨_,_,_,e⟩:=x;exact⟨_,e⟩
 | frz ob u=>obtain⟨e,_⟩:=x;exact⟨ob,e⟩
 | tbl ps=>exact⟨_,(show h.get? a=some _ from x)⟩
 | met f y=>exact⟨_,(show h.get? a=some _ from x)⟩
 | ext φ=>exact x.2.1
theorem HOk.not{P:Program}{w:World}{H:Hp}{h:Heap}{a:Addr}(x:HOk P w H h)(e:h.get? a=none):H a=none:=by
 cases q:H a with
 | none=>rfl
 | some u=>obtain⟨ob,e2⟩:=(x a u q).there;rw [e] at e2;cases e2
section
variable {X:Cx}{pins:List (Addr×Obj)}{σ:St}{H:Hp}{s:Shared}{h':Heap}{a:Addr}{o:HO}
theorem Inv.news{t':Nat}(I:Inv X pins σ H s)(k:∀b u,s.heap.get? b=some u->h'.get? b=some u)(hn:s.heap.get? a=none)(new:bL X.prog X.w (upd H a o) h' a o):Inv X pins σ (upd H a o) { s with heap:=h',toks:=t' }:=by
 have ha:=I.hok.not hn
 refine I.un ⟨fun b u q _ _ _=>k b u q,fun b u q _ _ _=>⟨u.slots,k b u q⟩,fun b u q n _=>?_,fun b u q _=>⟨u,k b u q⟩,fun b xs q=>?_,fun b u xs q=>?_,fun b ps q=>⟨#[],?_⟩⟩ fun b u q=>?_
 .rw [aj (fun z=>by rw [z,hn] at q;cases q)];exact n
 .rw [aj (aN q ha)];exact q
 .rw [aj (aN q ha)];exact q
 .rw [aj (aN q ha),q];simp
 .by_cases hb:b=a
  .subst hb;rw [aA] at q;cases q;exact new
  .rw [aj hb] at q;exact (I.hok b u q).stay (fun c v _ e=>k c v e) (fun c e=>by rw [aj (aN e ha)];exact e) fun c xs e=>by rw [aj (aN e ha)];exact e
end
structure XM (K:PySem.W.Frag) (C G fI:Addr):Prop where
 c:XC K C G
 tail:∀h:Heap,K.In h->OwnTail h vmB (.ref G::vmB)
 init:PySem.W.findIn K (.ref C) "__init__"=some (some (.ref fI))
 fn:PySem.W.typeIn K (.ref fI)=some (.type "function")
 kp:PySem.W.keepIn K (.ref C)=true
def wP(K:PySem.W.Frag)(f:Str):Sp:=fun vs H Q _=>∃a C G new v,vs=[.ref a,v]/\H a=some (.ext (XAt a C none new))/\XC K C G/\PySem.W.findIn K (.ref C) f=some none/\∀dx,H dx=none->Q .non (upd (upd H dx (.xd [(f,v)])) a (.ext (XAt a C (some dx) new)))
structure Bo (P:Program) (w:World) (K:PySem.W.Frag) (mg:Str->Option Value) (base:Heap) (k:Nat) (C:Addr) (x f:Str):Prop where
 ex:∃(G fI:Addr) (fd:FuncData) (ps:List Str),jY P w K mg base CX0 k fI fd ps (wP K f)/\gv K fd ps []/\XM K C G fI/\PySem.W.findIn K (.ref C) f=some none/\mg x=some (.ref C)
def Bp(C:Addr)(f:Str)(t:TA):TE:=fun σ H Q=>t σ H fun vs H1=>∃v,vs=[v]/\∀e dx,H1 e=none->H1 dx=none->dx≠e->Q (.ref e) (upd (upd H1 dx (.xd [(f,v)])) e (.ext (XAt e C (some dx) true)))
section
variable {X:Cx}{k:Nat}{C:Addr}{x f:Str}{p pos:Pos}{e:Expr}{es:List Expr}{t:TA}
theorem vP{pins:List (Addr×Obj)}{σ:St}{H:Hp}{s:Shared}{Q:VK}{u:Value}{v:V}(M:Bo X.prog X.w X.K X.mg X.base k C x f)(hr:dX (k+1) X.A)(I:Inv X pins σ H s)(r:cJ v u)
  (h:∀e dx,H e=none->H dx=none->dx≠e->Q (.ref e) (upd (upd H dx (.xd [(f,v)])) e (.ext (XAt e C (some dx) true)))):wpAny (model X.prog X.w) X.A (call (.ref C) [u]) (EP X pins σ Q) X.xe s:=by
 obtain⟨G,fI,fd,ps,F,hb,m,na,hm⟩:=M.ex;obtain⟨nm,q,N,bs,sn,sub,ab,col,k0,k1,k2,k3,k5,ob⟩:=m.c.obj;have X2:=I.kIn;have I0:=I;have hz:s.heap.get? (s.heap.objs.size+1)=none:=Heap.get?_none_of_le (le_succ _);have he0:=I.hok.not hz;obtain⟨hh,g,d,tk,os⟩:=s;refine yH X2 (X2 _ _ ob) (m.tail hh X2) m.init m.fn (by show 1<=sizeLine;decide) fun h' made=>?_;obtain⟨tt,m1,m2,m3⟩:=made.there;have new:XAt (hh.objs.size+1) C none true h':=⟨_,_,m1,rfl,rfl,rfl,(by show 1<6;decide),fun _=>rfl⟩
 have I2:Inv X pins σ (upd H (hh.objs.size+1) (.ext (XAt (hh.objs.size+1) C none true))) { heap:=h',gens:=g,drawn:=d,toks:=tk,os:=os }:=I0.news (t':=tk) made.keeps hz new.ok
 have hsp:wP X.K f [V.ref (hh.objs.size+1),v] (upd H (hh.objs.size+1) (.ext (XAt (hh.objs.size+1) C none true))) (fun y H2=>y=.non/\Q (.ref (hh.objs.size+1)) H2) E0:=by
  refine⟨_,C,G,true,v,rfl,aA,m.c,na,fun dx hdx=>⟨rfl,?_⟩⟩;have hne:dx≠hh.objs.size+1:=fun z=>by rw [z,aA] at hdx;cases hdx
  rw [aj hne] at hdx
  have e1:upd (upd (upd H (hh.objs.size+1) (.ext (XAt (hh.objs.size+1) C none true))) dx (.xd [(f,v)])) (hh.objs.size+1) (.ext (XAt (hh.objs.size+1) C (some dx) true))=upd (upd H dx (.xd [(f,v)])) (hh.objs.size+1) (.ext (XAt (hh.objs.size+1) C (some dx) true)):=by
   funext b;unfold upd
   by_cases z:b=hh.objs.size+1
   .rw [if_pos z,if_pos z]
   .rw [if_neg z,if_neg z,if_neg z]
  rw [e1];exact h _ dx he0 hdx hne
 have hl:[Value.ref (hh.objs.size+1),u].length=ps.length:=(F.len _ _ _ E0 hsp).symm ▸ rfl;refine wpAny_call (codeAny_mono (F.run _ X.stack _ _ ⟨[Value.ref (hh.objs.size+1),u],[]⟩ [Value.ref (hh.objs.size+1),u] [V.ref (hh.objs.size+1),v] _ E0 (hr.make C [u] []) (I2.env0.make C [u] []) (hb _ [Value.ref (hh.objs.size+1),u] I2.kIn (by rw [append_nil];exact hl)) (.cons rfl (.cons r .nil)) hsp) fun r s' hq=>?_)
 cases r with
 | error e=>exact hq.elim
 | ok fl =>
  cases fl with
  | ret w =>
   obtain⟨y,H',I3,rv,ev,q3⟩:=I2.after hq;subst ev;exact⟨rv,V.ref (hh.objs.size+1),H',I3,rfl,q3⟩
  | next=>exact False.elim hq
  | brk=>exact False.elim hq
  | cont=>exact False.elim hq
theorem yN(M:Bo X.prog X.w X.K X.mg X.base k C x f)(hr:dX (k+1) X.A)(ha:PA X (e::es) t)(hg:Gl X x:=by rfl)(hdb:(x == ("__debug__":Str))=false:=by decide)(hn:nSt e=true:=by rfl)(hp:es.all nSt=true:=by rfl) :
  PE X (.Call (.Name x p) (e::es) [] pos) (Bp C f t):=by
 intro pins s σ H Q I h;obtain⟨G,fI,fd,ps,F,hb,m,na,hm⟩:=id M.ex;refine wpAny_Call_Name_kw (gX I hg hm ?_ hdb);refine PySem.W.callWith_K (h₀:=X.base) I.ok.mod.kin m.kp (thn (ha pos pins s σ H _ I h) fun us s1 ⟨vs,H1,I1,r,q⟩=>⟨I1.kIn,?_⟩) (ey hn) (dA hp);obtain⟨v,rfl,q⟩:=q
 cases r with
 | cons r rr =>
  cases rr;exact vP M hr I1 r q
end
def X0(K:PySem.W.Frag)(C:Addr):Prop:=∀h:Heap,K.In h->∃bm N nm q bs hd sn sub ab col dd k0 k1 k2 k3 k5 mN,
 h.get? C=some (excClassObj nm q C N bs bm hd sn sub ab col dd k0 k1 k2 k3 k5 "ValueError.__new__")/\h.Ns N mN/\mN "__init__"=none/\OwnTail h vmB bm
theorem Dm{K:PySem.W.Frag}{C:Addr}(q:PySem.W.excIn K C vmB "ValueError.__new__"=true):X0 K C:=fun h X=>by
 unfold PySem.W.excIn at q;split at q
 case h_2=>cases q
 case h_1 dd cd sl ho =>
  split at q
  case h_2=>cases q
  case h_1 C' bm k0 k1 k2 k3 n k5 hm hs =>
   simp only [and_eq_true,beq_iff_eq,Bool.not_eq_true'] at q;obtain⟨⟨⟨⟨⟨e1,e2⟩,hdel⟩,ht⟩,hok⟩,hni⟩:=q;subst e1 e2
   cases cd with
   | mk nm bs mro ns qn hd sn sub ab col del =>
    cases sl with
    | mk l =>
     have hs:l=[k0,k1,k2,k3,some (.builtin "ValueError.__new__"),k5]:=hs;have hm:mro=.ref C'::bm:=hm;have hdel:del=false:=hdel;subst hs hm hdel;refine⟨bm,ns,nm,qn,bs,hd,sn,sub,ab,col,dd,k0,k1,k2,k3,k5,_,X _ _ ho,.of_isNs (PySem.W.isNs_of_in X hok),PySem.W.nsMap_none_of_in X hok hni,PySem.W.tail_of_in X ht⟩
theorem yO{K:PySem.W.Frag}{G:Addr}(q:PySem.W.excIn K G vmB "ValueError.__new__"=true)(hg:∃nm q N bs sn sub ab col k0 k1 k2 k3 k5,K.lookup G=some (excClassObj nm q G N bs vmB true sn sub ab col none k0 k1 k2 k3 k5 "ValueError.__new__")) :
  ∀h:Heap,K.In h->OwnTail h vmB (.ref G::vmB):=fun h X=>by
 obtain⟨bm,N,nm,qn,bs,hd,sn,sub,ab,col,dd,k0,k1,k2,k3,k5,mN,h1,h2,h3,_⟩:=Dm q h X;exact .own h1 h2 h3 .base
def XCl(K:PySem.W.Frag)(c:Str):Prop:=∃dd cd sl,K.lookup (aQ K c)=some ⟨.type "type",dd,.cls cd,sl⟩/\cd.name=c
structure Bq (K:PySem.W.Frag) (cs:List Str):Prop where
 g:XCl K "GlueError"
 n:∀c∈cs,XCl K c
 c:∀c∈cs,XC K (aQ K c) (aQ K "GlueError")
section
variable {K:PySem.W.Frag}{C G D:Addr}{c d:Str}
theorem XCl.ne(h1:XCl K c)(h2:XCl K d)(n:c≠d):aQ K c≠aQ K d:=fun e=>by
 obtain⟨_,cd,_,l1,n1⟩:=h1;obtain⟨_,cd2,_,l2,n2⟩:=h2;rw [e,l2] at l1;cases l1;exact n (n1.symm.trans n2)
end
def Dn(c d:Str):Bool:=decide (c=d) || decide (d="GlueError")
section
variable {K:PySem.W.Frag}{ta:TA}{te:TE}{pa:PTA}{pe:PA1}{cs:List Str}
theorem FVc.exc{O:Addr->Prop}{H:Hp}{v:V}{c:Str}{ns:List Str}{ds:List D}(h:FVc K O H v (.exc c ns ds)):FV K O H v (.exc c ns ds):=h.fv nofun nofun
def Br(c f:Str)(pa:PTA):PTE:=fun ρ Q=>pa ρ fun as ρ1=>match avD as with
 | some [d]=>Q (.dat (.exc c [f] [d])) ρ1
 | _=>False
def Bs(cs:List Str)(ats:List (Str×Str))(f:Str)(pa:PA1):PTE:=fun ρ Q=>pa ρ fun x ρ1=>match cont ρ1 x with
 | some (.exc c ns ds)=>(cs.contains c=true/\ats.contains (c,f)=true)/\∃i,dh f ns=some i/\∃d,ds[i]?=some d/\Q (.dat d) ρ1
 | _=>False
theorem yP{ats:List (Str×Str)}{f:Str}(X:Bq K cs)(hat:∀c g,(c,g)∈ats->PySem.W.findIn K (.ref (aQ K c)) g=some none)(h:LA1 K te pe):LE K (yJ K te f) (Bs cs ats f pe):=fun A ρ σ H Q Q' R q k=>h A ρ σ H _ _ R q fun v H1 a ρ1 q1 f1 R1 o1=>by
 split at q1
 .rename_i c ns ds e;obtain⟨⟨hc,ha⟩,i,hi,d,hd,q1⟩:=q1;have hc:c∈cs:=contains_iff_mem.mp hc
  cases (R1.cont o1 e).exc with
  | exc0 n1 e1=>cases hd
  | exc1 n1 n2 e1 e2 m f =>
   obtain⟨v,hv,fv⟩:=f.getD hd;exact⟨_,_,_,_,_,_,v,rfl,e1,e2,X.c c hc,hat c _ (contains_iff_mem.mp ha),by rw [jt (k:=i) (by rw [m];exact hi)];exact hv,k v H1 _ ρ1 q1 f1 ⟨R1,fv⟩⟩
 .exact q1.elim
end
section
variable {P:Program}{w:World}{K:PySem.W.Frag}{mg:Str->Option Value}{base:Heap}{x qual nm:Str}{C G fI:Addr}{st:Stmt}{fd:FuncData}{N ps:List Str}
theorem yQ(F:Fun K "__init__" qual st fI fd)(S:aJ N ps (ai st))(hl:ps.length=2)
  (hb:∀(kV doc pm:Value) (an:Option Addr) (cdv ct:Value) (us:List Value),us.length=ps.length->bindArgs (PySem.W.fnOf "__init__" qual (bQ st) (bf st) (ai st) .none kV doc pm an cdv ct) ⟨us,[]⟩=pure (ps.zip us))
  (hp:∀(cdv:Value) (A:Around) (outer:List Env) (s:Shared) (H:Hp) (E:XK),PSs (nF CX0 P w K mg base N qual (ai st) fI cdv A outer s H E).nox (bf st) (yL K (aV 0) (aV 1) nm))
  (m:XM K C G fI) (na:PySem.W.findIn K (.ref C) nm=some none) (hm:mg x=some (.ref C)):Bo P w K mg base 1 C x nm:=by
 refine⟨G,fI,fd,ps,F.ok (k:=0) S (fun vs H Q E h=>?_) (fun cdv A outer s H vs Q E hr h=>⟨_,hp cdv A outer s H E,?_⟩),F.binds hb,m,na,hm⟩
 .obtain⟨a,C,G,new,v,rfl,_⟩:=h;exact hl.symm
 .obtain⟨a,C,G,new,v,rfl,ea,c,n,q⟩:=h;exact⟨v,rfl,.ref a,rfl,a,C,G,new,rfl,ea,c,n,fun dx hdx=>q dx hdx⟩
end
section
variable {X:Cx}{e:Expr}{f:Str}{pos:Pos}{ta:TE}
theorem vQ(K:PySem.W.Frag)(ek:X.K=K)(he:PE X e ta)(hb:attributeBase e f X.env (eval e X.env)=eval e X.env):PE X (.Attribute e f pos) (yJ K ta f):=by subst ek;exact yK he hb
theorem vR(K:PySem.W.Frag)(ek:X.K=K){o value:Expr}{pos':Pos}{tv:TE}(ha:PE X o ta)(hv:PE X value tv)(hs:swapsWith value (some (.Attribute o f pos')) pos.line X.env=pure false):PS X (.Assign [.Attribute o f pos'] value pos) (yL K ta tv f):=by subst ek;exact yM ha hv hs
end
def uB(h:Heap)(e T:Addr)(fl:Value):Prop:=∃oe vs oT ts,h.get? e=some oe/\oe.data=.fields vs/\vs[1]?=some (.ref T)/\T≠e/\h.get? T=some oT/\oT.data=.fields ts/\ts[3]?=some fl
structure Moved (fs:List Addr) (e:Addr) (T0:Option Addr) (h h':Heap):Prop where
 kp:∀b o,b∉fs->b≠e->T0≠some b->h.get? b=some o->h'.get? b=some o
 sl:∀b o,b∈fs->h.get? b=some o->∃sl,h'.get? b=some { o with slots:=sl }
 ex:∀oe vs,h.get? e=some oe->oe.data=.fields vs->∃oe' vs',h'.get? e=some oe'/\oe'.cls=oe.cls/\oe'.dict=oe.dict/\oe'.data=.fields vs'/\vs'.size=vs.size
section
variable {M:Model}{A:Around}{E:Value->Shared->Prop}{s:Shared}{base:Heap}{env:Env}{outer:List Env}{L e T0:Addr}{oe:Obj}{vs:Array Value}
theorem tQ{head:Value}{hadNext:Bool}{Q:Unit->Shared->Prop}(hfr:A.frames=some (env::outer))(hl:s.heap.FunFrames base (env::outer))(hf:env.frame=some L)
  (he:s.heap.get? e=some oe) (hd:oe.data=.fields vs) (hsz:1<vs.size)
  (h:∀h' T,s.heap.objs.size<=T->Moved (frs (env::outer)) e none s.heap h'->uB h' e T (rawInt L)->Q () { s with heap:=h' }) :
  wpAny M A (do let a <- frameOf env;let pl <- entryPlaceOf L hadNext;let b <- EntryCells.newEntry head a .none (rawInt L) .none pl;setField (.ref e) 1 b) Q E s:=by
 have nf:e∉frs (env::outer):=fun hm=>by
  obtain⟨_,o,ho,hn⟩:=hl.mem hm;rw [he] at ho;cases ho;exact hn vs hd
 refine wpAny_bind (wpAny_frameOf_fun hfr hl hf fun g1 hs1=>?_);refine wpAny_bind (wpAny_entryPlaceOf fun pl hpl=>?_);have e1:g1.get? e=some oe:=(hs1.2.1 e nf).trans he;unfold EntryCells.newEntry newFields;refine wpAny_bind (wpAny_newObj_type ?_ (hpl.sizeOk5 _ _ _ _ _))
 have hts:∃ts:Array Value,([head,.ref L,.none,rawInt L,.none]++(if pl.isEmpty then List.replicate 6 Value.none else pl)).toArray=ts/\ts[3]?=some (rawInt L):=⟨_,rfl,by
  rcases hpl with rfl|⟨_,_,_,_,_,_,_,rfl⟩ <;> simp⟩
 obtain⟨ts,ets,t3⟩:=hts;rw [ets];generalize hg2:g1.push { cls:=.type "traceback",dict:=none,data:=.fields ts }=g2;have sz1:g1.objs.size=s.heap.objs.size:=hs1.1;have k2:∀b o,g1.get? b=some o->g2.get? b=some o:=fun b o q=>by rw [<- hg2];exact Heap.get?_push_of_some _ q
 have gT:g2.get? g1.objs.size=some { cls:=.type "traceback",dict:=none,data:=.fields ts }:=by rw [<- hg2];exact Heap.get?_push_size _ rfl
 refine wpAny_setField (k2 _ _ e1) hd hsz ?_;have ne:g1.objs.size≠e:=ne_of_gt (Heap.lt_size e1);generalize hg3:g2.update e (Obj.mapFields (·.setIfInBounds 1 (Value.ref g1.objs.size)))=g3;have d3:=Obj.data_mapFields hd (·.setIfInBounds 1 (Value.ref g1.objs.size));have e3:g3.get? e=some (oe.mapFields (·.setIfInBounds 1 (Value.ref g1.objs.size))):=by rw [<- hg3];exact Heap.get?_update_self _ (k2 _ _ e1) (Obj.isFreed_of_fields d3)
 have k3:∀b o,b≠e->g2.get? b=some o->g3.get? b=some o:=fun b o hb q=>by rw [<- hg3];exact (Heap.get?_update_ne _ _ _ _ hb).trans q
 refine h g3 g1.objs.size (by rw [sz1];exact Nat.le_refl _) ⟨fun b o hb hbe _ q=>k3 b o hbe (k2 b o ((hs1.2.1 b hb).trans q)),fun b o hb q=>?_,fun oe' vs' q1 q2=>?_⟩ ⟨_,_,_,ts,e3,d3,by simp [hsz],ne,k3 _ _ ne gT,rfl,t3⟩
 .obtain⟨sl,q'⟩:=hs1.2.2 b o q;exact⟨sl,k3 b _ (fun z=>nf (by rw [<- z];exact hb)) (k2 b _ q')⟩
 .rw [he] at q1;cases q1;rw [hd] at q2;cases q2;obtain⟨c,dc,dt,sl⟩:=oe;cases hd;exact⟨_,_,e3,rfl,rfl,d3,by simp⟩
theorem yR{Q:Unit->Shared->Prop}(hfr:A.frames=some (env::outer))(hl:s.heap.FunFrames base (env::outer))(hf:env.frame=some L)
  (he:s.heap.get? e=some oe) (hd:oe.data=.fields vs) (h1:vs[1]?=some .none)
  (h:∀h' T,s.heap.objs.size<=T->Moved (frs (env::outer)) e none s.heap h'->uB h' e T (rawInt L)->Q () { s with heap:=h' }):wpAny M A (noteFrame (.ref e) env) Q E s:=by
 unfold noteFrame;simp only [hf];refine wpAny_bind (wpAny_field he hd h1 ?_);rw [if_neg (by decide)];exact tQ hfr hl hf he hd (Array.getElem?_eq_some_iff.mp h1).1 h
theorem yS{Q:Unit->Shared->Prop}(hfr:A.frames=some (env::outer))(hl:s.heap.FunFrames base (env::outer))(hf:env.frame=some L)(fly:uB s.heap e T0 .none)(nT:T0∉frs (env::outer))
  (h:∀h' T,s.heap.objs.size<=T->Moved (frs (env::outer)) e (some T0) s.heap h'->uB h' e T (rawInt L)->Q () { s with heap:=h' }):wpAny M A (noteFrame (.ref e) env) Q E s:=by
 obtain⟨oe,vs,oT,ts,he,hd,h1,ne,hT,hdT,h3⟩:=fly;have hsz:1<vs.size:=(Array.getElem?_eq_some_iff.mp h1).1;unfold noteFrame;simp only [hf];refine wpAny_bind (wpAny_field he hd h1 ?_);rw [if_pos (show (Value.ref T0 != Value.none)=true by simp)];refine wpAny_bind (wpAny_field hT hdT h3 ?_);rw [if_neg (show ¬ ((Value.none == rawInt L)=true) by simp [rawInt])];refine wpAny_bind (wpAny_setField hT hdT (Array.getElem?_eq_some_iff.mp h3).1 ?_)
 have ot:∀b,b≠T0->(s.heap.update T0 (Obj.mapFields (·.setIfInBounds 3 Value.none))).get? b=s.heap.get? b:=fun b hb=>Heap.get?_update_ne _ _ _ _ hb;have sz:(s.heap.update T0 (Obj.mapFields (·.setIfInBounds 3 Value.none))).objs.size=s.heap.objs.size:=by simp [Heap.update]
 have hl2:(s.heap.update T0 (Obj.mapFields (·.setIfInBounds 3 Value.none))).FunFrames base (env::outer):=hl.of_keeps fun b o q nf=>⟨o,(ot b (fun z=>by rw [z,hT] at q;cases q;exact nf ts hdT)).trans q,rfl⟩
 refine tQ hfr hl2 hf ((ot e (Ne.symm ne)).trans he) hd hsz fun h' T hT' mv fly=>h h' T (by rw [<- sz];exact hT') ⟨fun b o h1 h2 h3 q=>mv.kp b o h1 h2 (by simp) ((ot b (fun z=>h3 (by rw [z]))).trans q),fun b o h1 q=>mv.sl b o h1 ((ot b (fun z=>nT (by rw [<- z];exact h1))).trans q),fun oe' vs' q1 q2=>mv.ex oe' vs' ((ot e (Ne.symm ne)).trans q1) q2⟩ fly
theorem oi{fl:Value}{T:Addr}{Q:Unit->Shared->Prop}(fly:uB s.heap e T fl)(h:∀h',(∀b o,b≠T->s.heap.get? b=some o->h'.get? b=some o)->uB h' e T .none->Q () { s with heap:=h' }):wpAny M A (setFlight (.ref e) none) Q E s:=by
 obtain⟨oe,vs,oT,ts,he,hd,h1,ne,hT,hdT,h3⟩:=fly;unfold setFlight;refine wpAny_bind (wpAny_field he hd h1 ?_);rw [if_pos (show (Value.ref T != Value.none)=true by simp)];have hs3:3<ts.size:=(Array.getElem?_eq_some_iff.mp h3).1;refine wpAny_setField hT hdT hs3 (h _ (fun b o hb q=>(Heap.get?_update_ne _ _ _ _ hb).trans q) ?_);have dT:=Obj.data_mapFields hdT (·.setIfInBounds 3 ((none:Option Addr).elim Value.none fun f=>rawInt f))
 exact⟨oe,vs,_,_,(Heap.get?_update_ne _ _ _ _ (Ne.symm ne)).trans he,hd,h1,ne,Heap.get?_update_self _ hT (Obj.isFreed_of_fields dT),dT,by simp [hs3]⟩
end
def CXe(P:Program)(w:World):CXT:=fun outer H s E e s'=>∃(ea C:Addr) (dd:Option Addr) (H':Hp) (T:Addr),e=.ref ea/\s'.os=s.os/\AllBare s'.gens/\Un (frs outer) [] H H' s.heap s'.heap/\HOk P w H' s'.heap /\
 H' ea=some (.ext (XAt ea C dd false))/\uB s'.heap ea T .none/\s.heap.get? T=none/\H' T=none/\E (.ref ea) dd H'
theorem tR{l:List Env}{h base:Heap}(hl:h.FunFrames base l){b:Addr}(hb:b∈frs l):∃o,h.get? b=some o:=by
 obtain⟨_,o,ho,_⟩:=hl.mem hb;exact⟨o,ho⟩
theorem XAt.moved{fs:List Addr}{ea C:Addr}{dd:Option Addr}{new:Bool}{T0:Option Addr}{h h':Heap}(x:XAt ea C dd new h)(mv:Moved fs ea T0 h h'):XAt ea C dd false h':=by
 obtain⟨o,vs,h1,h2,h3,h4,h5,_⟩:=x;obtain⟨o',vs',q1,q2,q3,q4,q5⟩:=mv.ex o vs h1 h4;exact⟨o',vs',q1,q2.trans h2,q3.trans h3,q4,by rw [q5];exact h5,nofun⟩
theorem HOk.moved{P:Program}{w:World}{H H':Hp}{h h1 h2:Heap}{fs:List Addr}{ea C T:Addr}{dd:Option Addr}{new:Bool}{T0:Option Addr}(ok:HOk P w H h)(hea:H ea=some (.ext (XAt ea C dd new)))(mv:Moved fs ea T0 h h1)(hT:h.objs.size<=T)(un:∀b o,b≠T->h1.get? b=some o->h2.get? b=some o)
  (hfs:∀b∈fs,H b=none) (hT0:∀b,T0=some b->H b=none) (fly:uB h2 ea T .none) (hH:H'=upd H ea (.ext (XAt ea C dd false))):HOk P w H' h2:=fun b o eb=>by
 subst hH;have ne:∀c u,H c=some u->c≠T:=fun c u q=>ne_of_lt (lt_of_lt_of_le (ok.lt q) hT);have kp:∀c u,c≠ea->H c=some u->∀v,h.get? c=some v->h2.get? c=some v:=fun c u hc q v z=>un c v (ne c u q) (mv.kp c v (fun m=>by rw [hfs c m] at q;cases q) hc (fun e=>by rw [hT0 c e] at q;cases q) z)
 by_cases hb:b=ea
 .subst hb;rw [aA] at eb;cases eb;have x:XAt b C dd new h:=(ok b _ hea).1;obtain⟨o',vs',q1,q2,q3,q4,q5,q6⟩:=x.moved mv;exact XAt.ok ⟨o',vs',un b o' (ne b _ hea) q1,q2,q3,q4,q5,q6⟩
 .rw [aj hb] at eb
  refine (ok b o eb).stay (fun c v hc q=>?_) (fun c q=>?_) fun c xs q=>?_
  .rcases hc with rfl|hc
   .exact kp c o hb eb v q
   .exact kp c _ (fun z=>by rw [z,hea] at hc;cases hc) hc v q
  .rw [aj (fun z=>by rw [z,hea] at q;cases q)];exact q
  .rw [aj (fun z=>by rw [z,hea] at q;cases q)];exact q
section
variable {P:Program}{w:World}{K:PySem.W.Frag}{mg:Str->Option Value}{base:Heap}{N:List Str}{qual:Str}{scope:Scope}{f:Addr}{cd:Value}{A:Around}{outer:List Env}{s0:Shared}{H0:Hp}{E:XK}{pins:List (Addr×Obj)}{σ:St}{H:Hp}{s:Shared}
theorem tS{ea C:Addr}{dd:Option Addr}(I:Inv (nF (CXe P w) P w K mg base N qual scope f cd A outer s0 H0 E) pins σ H s)(hea:H ea=some (.ext (XAt ea C dd true)))(hE:E (.ref ea) dd (upd H ea (.ext (XAt ea C dd false)))) :
  (nF (CXe P w) P w K mg base N qual scope f cd A outer s0 H0 E).xe (.ref ea) s:=by
 obtain⟨⟨o,vs,h1,h2,h3,h4,h5,h6⟩,_,_⟩:=(show bL P w H s.heap ea (.ext (XAt ea C dd true)) from I.hok ea _ hea)
 show wpAny (model P w) _ (leaving _ (.ref ea)) _ _ s;unfold leaving;refine wpAny_bind (yR I.ok.frames I.stack rfl h1 h4 (h6 rfl) fun g1 T hT mv fly=>?_);refine oi fly fun g2 un fly2=>?_;have hf2:∀b∈frs (envOfC qual scope s0.heap.objs.size f cd::outer),H b=none:=I.stkFree;have hok:=I.hok.moved hea mv hT un hf2 (fun b e=>nomatch e) fly2 rfl;have old:∀b o,s0.heap.get? b=some o->b≠s0.heap.objs.size:=fun b o q=>ne_of_lt (Heap.lt_size q)
 have bT:∀b o,s.heap.get? b=some o->b≠T:=fun b o q=>ne_of_lt (lt_of_lt_of_le (Heap.lt_size q) hT);have nea:∀b,H b=none->b≠ea:=fun b n z=>by rw [z,hea] at n;cases n
 have sub:∀b,b∈frs outer->b∈frs (envOfC qual scope s0.heap.objs.size f cd::outer):=fun b hb=>mem_cons_of_mem _ hb
 have nsub:∀b o,s0.heap.get? b=some o->b∉frs outer->b∉frs (envOfC qual scope s0.heap.objs.size f cd::outer):=fun b o q hb z=>by
  rcases mem_cons.mp (show b∈s0.heap.objs.size::frs outer from z) with z|z
  .exact old b o q z
  .exact hb z
 have un0:Un (frs outer) [] H0 (upd H ea (.ext (XAt ea C dd false))) s0.heap g2:=by
  refine⟨fun b ob q n hb hx=>?_,fun b ob q n hb hx=>?_,fun b ob q n hx=>?_,fun b ob q hx=>?_,fun b xs q=>?_,fun b ob u q=>?_,fun b ps q=>?_⟩
  .have q1:=I.base.keep b ob q n hb hx;have n1:=I.base.free b ob q n hx;exact un b ob (bT b ob q1) (mv.kp b ob (nsub b ob q hb) (nea b n1) (by simp) q1)
  .obtain⟨sl,q1⟩:=I.base.slot b ob q n hb hx;obtain⟨sl2,q2⟩:=mv.sl b _ (sub b hb) q1;exact⟨sl2,un b _ (bT b _ q1) q2⟩
  .have n1:=I.base.free b ob q n hx;rw [aj (nea b n1)];exact n1
  .obtain⟨o1,q1⟩:=I.base.there b ob q hx
   by_cases hbe:b=ea
   .subst hbe;obtain⟨o2,vs2,q2,_⟩:=mv.ex o vs h1 h4;exact⟨o2,un b o2 (bT b _ q1) q2⟩
   .by_cases hb:b∈frs (envOfC qual scope s0.heap.objs.size f cd::outer)
    .obtain⟨sl2,q2⟩:=mv.sl b _ hb q1;exact⟨_,un b _ (bT b _ q1) q2⟩
    .exact⟨o1,un b o1 (bT b _ q1) (mv.kp b o1 hb hbe (by simp) q1)⟩
  .have q1:=I.base.tups b xs q;rw [aj (fun z=>by rw [z,hea] at q1;cases q1)];exact q1
  .have q1:=I.base.frzs b ob u q;rw [aj (fun z=>by rw [z,hea] at q1;cases q1)];exact q1
  .obtain⟨m,q1⟩:=I.base.tbls b ps q;exact⟨m,by rw [aj (fun z=>by rw [z,hea] at q1;cases q1)];exact q1⟩
 refine⟨ea,C,dd,_,T,rfl,I.os,I.bare,un0,hok,aA,fly2,?_,?_,hE⟩
 .cases q:s0.heap.get? T with
  | none=>rfl
  | some ob =>
   obtain⟨o1,q1⟩:=I.base.there T ob q (show T∉([]:List Addr) by simp);exact absurd rfl (bT T o1 q1)
 .rw [aj (fun z=>by
   have:=I.hok.lt hea;rw [<- z] at this;exact absurd (lt_of_lt_of_le this hT) (Nat.lt_irrefl _))]
  exact I.hok.fresh hT
end
section
variable {prog:Program}{w:World}{A:Around}{E:Value->Shared->Prop}{K:PySem.W.Frag}{env:Env}
theorem yT{Q:Flow->Shared->Prop}{x:Sem Value}{s:Shared}(hh:A.handled=none)
  (hx:wpAny (model prog w) A x (fun v s₁=>∃ea C G dd,v=.ref ea/\K.In s₁.heap/\XC K C G/\XAt ea C dd true s₁.heap/\E (.ref ea) s₁) E s):wpAny (model prog w) A (raiseStmt env (some x) none) Q E s:=by
 unfold raiseStmt;refine wpAny_bind (wpAny_mono hx (fun v s1 h1=>?_) fun _ _ z=>z);obtain⟨ea,C,G,dd,rfl,X,c,⟨o,vs,q1,q2,q3,q4,q5,q6⟩,hE⟩:=h1;obtain⟨nm,q,N,bs,sn,sub,ab,col,k0,k1,k2,k3,k5,e⟩:=c.obj;have hC:=X _ _ e;obtain⟨hp,g,d,tk,os⟩:=s1;have own:(Value.ref C::.ref G::vmB).contains (.type "BaseException")=true:=rfl;have qn:=q6 rfl
 repeat (first
  | (with_reducible refine wpAny_loadPart_at q1 ?_;first | rw [q2] | rw [q4] | skip)
  | with_reducible refine wpAny_loadPart_at hC ?_
  | (with_reducible refine wpAny_isSubtype_exc hC ?_;rw [own])
  | with_reducible refine wpAny_field q1 q4 qn ?_
  | wp_step)
 exact wpAny_raiseNew_none hh hE
end
def RX(X:Cx)(J:St->XK):Prop:=∀(pins:List (Addr×Obj)) (σ:St) (H:Hp) (s:Shared) (ea C:Addr) (dd:Option Addr),Inv X pins σ H s->H ea=some (.ext (XAt ea C dd true))->J σ (.ref ea) dd (upd H ea (.ext (XAt ea C dd false)))->X.xe (.ref ea) s
def wQ(K:PySem.W.Frag)(te:TE)(J:St->XK):TS:=fun D σ H=>te σ H fun v H1=>∃ea C G dd,v=.ref ea/\H1 ea=some (.ext (XAt ea C dd true))/\XC K C G/\J σ (.ref ea) dd (upd H1 ea (.ext (XAt ea C dd false)))
section
variable {X:Cx}{J:St->XK}{x:Expr}{pos:Pos}{te:TE}
theorem vS(K:PySem.W.Frag)(ek:X.K=K)(hc:X.calm=true)(hx:RX X J)(he:PE X x te):PS X (.Raise (some x) none pos) (wQ K te J):=by
 subst ek;intro pins s σ H D I h
 have key:wpAny (model X.prog X.w) X.A (raiseStmt X.env (some (do let v <- eval x X.env;standAt pos;pure v)) none) (SP X pins D) X.xe s:=by
  refine yT (K:=X.K) (I.ok.hd hc) (wpAny_bind (wpAny_mono (he pins s σ H _ I h) (fun u s1 ⟨v,H1,I1,rv,ea,C,G,dd,ev,hea,c,hj⟩=>wpAny_bind (wpAny_standAt (wpAny_pure ?_))) fun _ _ z=>z));subst ev;obtain rfl:u=Value.ref ea:=rv;have ok:=(show bL X.prog X.w H1 s1.heap ea (.ext (XAt ea C dd true)) from I1.hok ea _ hea)
  exact⟨ea,C,G,dd,rfl,I1.kIn,c,ok.1,hx pins σ H1 s1 ea C dd I1 hea hj⟩
 rw [arm_exec_Raise]
 first
  | exact wpAny_bind (wpAny_standAt key)
  | (simp only [evalOpt,Option.map];exact wpAny_bind (wpAny_standAt key))
  | (show wpAny _ _ (do standAt pos;raiseStmt X.env (some (do let v <- eval x X.env;standAt pos;pure v)) none) _ _ s;exact wpAny_bind (wpAny_standAt key))
theorem Bt{P:Program}{w:World}{K:PySem.W.Frag}{mg:Str->Option Value}{base:Heap}{N:List Str}{qual:Str}{scope:Scope}{f:Addr}{cd:Value}{A:Around}{outer:List Env}{s0:Shared}{H0:Hp}{E:XK} :
  RX (nF (CXe P w) P w K mg base N qual scope f cd A outer s0 H0 E) (fun _=>E):=fun pins σ H s ea C dd I hea hj=>tS I hea hj
end
def PX(CX:CXT)(X:Cx)(J:St->XK):Prop:=∀(pins:List (Addr×Obj)) (σ:St) (H:Hp) (s:Shared) (e:Value) (s':Shared),Inv X pins σ H s->CX X.stack H s (J σ) e s'->X.xe e s'
def tT(sp:Sp)(J:St->XK)(t:TA):TE:=fun σ H Q=>t σ H fun vs H1=>sp vs H1 Q (J σ)
structure Bu (P:Program) (w:World) (K:PySem.W.Frag) (mg:Str->Option Value) (base:Heap) (k:Nat) (x:Str) (ps:List Str) (sp:Sp):Prop where
 ex:∃(f:Addr) (fd:FuncData),jY P w K mg base (CXe P w) k f fd ps sp/\gv K fd ps []/\PySem.W.keepIn K (.ref f)=true/\mg x=some (.ref f)
section
variable {X:Cx}{k:Nat}{x:Str}{ps:List Str}{sp:Sp}{p pos:Pos}{e:Expr}{es:List Expr}{t:TA}{J:St->XK}
theorem tU(C:Bu X.prog X.w X.K X.mg X.base k x ps sp)(hr:dX k X.A)(hx:PX (CXe X.prog X.w) X J)(ha:PA X (e::es) t)(hg:Gl X x:=by rfl)(hdb:(x == ("__debug__":Str))=false:=by decide)(hn:nSt e=true:=by rfl)(hp:es.all nSt=true:=by rfl) :
  PE X (.Call (.Name x p) (e::es) [] pos) (tT sp J t):=by
 obtain⟨f,fd,F,hb,hk,hm⟩:=C.ex;intro pins s σ H Q I h;refine wpAny_Call_Name_kw (gX I hg hm ?_ hdb);refine PySem.W.callWith_K (h₀:=X.base) I.ok.mod.kin hk (thn (ha pos pins s σ H _ I h) fun us s1 ⟨vs,H1,I1,r,q⟩=>⟨I1.kIn,?_⟩) (ey hn) (dA hp);have hl:us.length=ps.length:=by rw [<- r.length];exact F.len _ _ _ _ q
 refine wpAny_call (codeAny_mono (F.run X.A X.stack s1 H1 ⟨us,[]⟩ us vs Q (J σ) hr I1.env0 ?_ r q) fun r s' hq=>?_)
 .have:=hb s1 us I1.kIn (by rw [append_nil];exact hl);rw [append_nil] at this;exact this
 .cases r with
  | error e=>exact hx pins σ H1 s1 e s' I1 hq
  | ok fl =>
   cases fl with
   | ret u=>exact I1.after hq
   | next=>exact False.elim hq
   | brk=>exact False.elim hq
   | cont=>exact False.elim hq
end
section
variable {X:Cx}{pins:List (Addr×Obj)}{σ:St}{H:Hp}{s:Shared}
abbrev Cx.mk'(X:Cx)(e:Value):Cx:={ X with A:=X.A.mark (some e),calm:=false }
theorem Inv.mark(I:Inv X pins σ H s)(e:Value):Inv (X.mk' e) pins σ H s :=
 ⟨⟨I.ok.mod,I.ok.kind,I.ok.glob,I.ok.blt,I.ok.above,I.ok.inj,I.ok.has,I.ok.cab,nofun,I.ok.frames,I.ok.stk,I.ok.exf,I.ok.bs,I.ok.bsz,I.ok.noex,I.ok.exfs,I.ok.funs,I.ok.frf⟩,I.os,I.bare,I.base,I.loc,I.cell,I.free,I.freeC,I.pin,I.hok,I.len⟩
theorem Inv.unmark{e:Value}(I:Inv (X.mk' e) pins σ H s)(hd:X.calm=true->X.A.handled=none):Inv X pins σ H s :=
 ⟨⟨I.ok.mod,I.ok.kind,I.ok.glob,I.ok.blt,I.ok.above,I.ok.inj,I.ok.has,I.ok.cab,hd,I.ok.frames,I.ok.stk,I.ok.exf,I.ok.bs,I.ok.bsz,I.ok.noex,I.ok.exfs,I.ok.funs,I.ok.frf⟩,I.os,I.bare,I.base,I.loc,I.cell,I.free,I.freeC,I.pin,I.hok,I.len⟩
theorem gK{M:Model}{A:Around}{E:Value->Shared->Prop}{i:Nat}{x:Str}{pos:Pos}{Q:Unit->Shared->Prop}(I:Inv X pins σ H s)(hN:X.N.Nodup)(hi:X.N[i]?=some x)(hk:X.env.scope.names.lookup x=some .local)
  (h:∀s',Inv X pins (σ.set i none) H s'->Q () s'):wpAny M A (do bindName X.env x .none;unbindBehindTheSuite X.env x pos) Q E s:=by
 refine wpAny_bind (wpAny_bindName (gq I hN hi (.inl hk) (v:=.non) rfl (fun s1 I1=>?_) (.inr hk)));have hiσ:i<σ.length:=by rw [I.len];exact (List.getElem?_eq_some_iff.mp hi).1
 obtain⟨m,hn,hl⟩:=id I1.loc;obtain⟨u,ru,lk⟩:=hl i x .non hi (getElem?_set_self hiσ) (.inl hk)
 have hm:m x=some u:=by
  rcases lk with ⟨_,z⟩|⟨z,_⟩
  .exact z
  .have z':X.env.scope.names.lookup x=some .cell\/X.env.scope.names.lookup x=some .free:=z;rw [hk] at z';rcases z' with z'|z' <;> cases z'
 unfold unbindBehindTheSuite;refine wpAny_onRaise (wpAny_unbindName_local hk hn hm (by rw [I.ok.kind];rfl) fun h' u' hn' hs=>?_);have cne:=I1.cne;obtain⟨oL,_,_,hoL,_⟩:=id hn;have big:∀b o,X.s₀.heap.get? b=some o->b≠X.env.locals:=fun b o q=>ne_of_lt (lt_of_lt_of_le (Heap.lt_size q) I.ok.above)
 refine h _ ⟨I1.ok,I1.os,I1.bare,⟨fun b o q n hb hx=>(hs.2 b (big b o q)).trans (I1.base.keep b o q n hb hx),fun b o q n hb hx=>?_,I1.base.free,fun b o q hx=>?_,I1.base.tups,I1.base.frzs,I1.base.tbls⟩,⟨_,hn',fun j y v' e1 e2 e3=>?_⟩,fun y c q=>?_,I1.free,I1.freeC,fun p hp=>?_,fun b ob q=>?_,by simpa using I.len⟩
 .obtain⟨sl,q1⟩:=I1.base.slot b o q n hb hx;exact⟨sl,(hs.2 b (big b o q)).trans q1⟩
 .obtain⟨o',q1⟩:=I1.base.there b o q hx;exact⟨o',(hs.2 b (big b o q)).trans q1⟩
 .by_cases hj:j=i
  .subst hj;rw [getElem?_set_self hiσ] at e2;cases e2
  .rw [getElem?_set_ne (Ne.symm hj)] at e2;obtain⟨u2,r2,q⟩:=hl j y v' e1 (by rw [getElem?_set_ne (Ne.symm hj)];exact e2) e3;refine⟨u2,r2,?_⟩
   rcases q with ⟨k,z⟩|⟨k,c,z1,z2⟩
   .have:y≠x:=fun z=>hj (kS hN e1 (z ▸ hi));exact .inl ⟨k,by simp [this,z]⟩
   .exact .inr ⟨k,c,z1,z2.sameBut hs (cne y c z1)⟩
 .obtain⟨w',z⟩:=I1.cell y c q;exact⟨w',z.sameBut hs (cne y c q)⟩
 .obtain⟨q,n,ne,nf,dd⟩:=I1.pin p hp;exact⟨(hs.2 p.1 ne).trans q,n,ne,nf,dd⟩
 .refine (I1.hok b ob q).stay (fun c w' hc z=>(hs.2 c ?_).trans z) (fun _ z=>z) fun _ _ z=>z;rintro rfl
  rcases hc with hc|hc
  .rw [<- hc,I1.free] at q;cases q
  .rw [I1.free] at hc;cases hc
end
section
variable {M:Model}{A:Around}{E:Value->Shared->Prop}{K:PySem.W.Frag}{C G D:Addr}
theorem tV{h:Heap}{g:Array GenState}{d:Drawn}{t:Nat}{os:OsState}{ea:Addr}{dd:Option Addr}{new:Bool}{Q:Bool->Shared->Prop}(X:K.In h)(c:XC K C G)(x:XAt ea C dd new h)
  (hD:∃nm q N bs bm hd sn sub ab col d0 k0 k1 k2 k3 k5 nw,K.lookup D=some (excClassObj nm q D N bs bm hd sn sub ab col d0 k0 k1 k2 k3 k5 nw)/\(Value.ref D::bm).contains (.type "BaseException")=true)
  (hq:Q ((Value.ref C::.ref G::vmB).contains (.ref D)) ⟨h,g,d,t,os⟩):wpAny M A (excMatches (.ref ea) (.ref D)) Q E ⟨h,g,d,t,os⟩:=by
 obtain⟨nm,q,N,bs,sn,sub,ab,col,k0,k1,k2,k3,k5,e⟩:=c.obj;obtain⟨nm',q',N',bs',bm',hd',sn',sub',ab',col',d0',k0',k1',k2',k3',k5',nw',e2,hb⟩:=hD;obtain⟨o,vs,q1,q2,_⟩:=x;have hC:=X _ _ e;have hDo:=X _ _ e2;have f:=tc_notTuple;generalize hbb:(Value.ref C::.ref G::vmB).contains (.ref D)=b at hq;unfold excMatches
 repeat (first
  | (with_reducible refine wpAny_loadPart_at q1 ?_;rw [q2])
  | with_reducible refine wpAny_loadPart_at hDo ?_
  | with_reducible refine wpAny_loadPart_at hC ?_
  | (with_reducible refine wpAny_isSubtype_exc hDo ?_;rw [hb])
  | (with_reducible refine wpAny_isSubtype_exc hC ?_;rw [hbb])
  | wp_step)
 cases b <;> (wp_walk;exact hq)
end
structure FTk (X:Cx) (pins:List (Addr×Obj)) (H:Hp) (T:Addr):Prop where
 nt:H T=none
 sz:X.s₀.heap.objs.size<=T
 nl:T≠X.env.locals
 nc:∀x c,X.env.cells.lookup x=some c->c≠T
 np:∀p∈X.pn++pins,p.1≠T
section
variable {X:Cx}{pins:List (Addr×Obj)}{σ:St}{H:Hp}{s:Shared}
theorem Ew{M:Model}{Er:Value->Shared->Prop}{E1:XK}{e:Value}{s':Shared}{Q:Unit->Shared->Prop}(hst:X.stack=X.env::X.outer)(hfm:X.env.frame=some X.env.locals)(I:Inv X pins σ H s)(h:CXe X.prog X.w X.stack H s E1 e s')
  (k:∀ea C dd H' T s2,e=.ref ea->Inv X pins σ H' s2->H' ea=some (.ext (XAt ea C dd false))->uB s2.heap ea T .none->FTk X pins H' T->E1 (.ref ea) dd H'->Q () s2) :
  wpAny M X.A (noteFrame e X.env) (fun _ s1=>wpAny M X.A (setFlight e none) Q Er s1) Er s':=by
 obtain⟨ea,C,dd,H',T0,rfl,os,bare,un1,hok1,hea,fly0,hT0,hT0',hE1⟩:=h;have hf1:∀b∈frs X.stack,H b=none:=I.stkFree;have hss:=I.stack
 have hl:s'.heap.FunFrames X.base X.stack:=by
  have all:∀l:List Env,(∀b∈frs l,b∈frs X.stack)->s.heap.FunFrames X.base l->s'.heap.FunFrames X.base l:=by
   intro l
   induction l with
   | nil=>intro _ _;trivial
   | cons en r ih =>
    intro hs hl;obtain⟨hk,⟨L,o,hf,hn,ho,hd⟩,hr⟩:=hl;have hL:L∈frs (en::r):=by unfold frs;rw [filterMap_cons,hf];exact mem_cons_self
    obtain⟨sl,q⟩:=un1.slot L o ho (hf1 L (hs L hL)) (hs L hL) (by simp);exact⟨hk,⟨L,_,hf,hn,q,hd⟩,ih (fun b hb=>hs b (by unfold frs;rw [filterMap_cons,hf];exact mem_cons_of_mem _ hb)) hr⟩
  exact all _ (fun _ hb=>hb) hss
 have nT0:T0∉frs X.stack:=fun z=>by
  obtain⟨o,q⟩:=tR hss z;rw [hT0] at q;cases q
 have hf2:∀b∈frs X.stack,H' b=none:=fun b hb=>by
  obtain⟨o,q⟩:=tR hss hb;exact un1.free b o q (hf1 b hb) (by simp)
 have fr:=I.ok.frames;rw [hst] at fr hl nT0 hf2;refine yS fr hl hfm fly0 nT0 fun g1 T hT mv fly=>?_;refine oi fly fun g2 un fly2=>?_;have hok:=hok1.moved hea mv hT un hf2 (fun b e=>by cases e;exact hT0') fly2 rfl
 have upe:upd H' ea (.ext (XAt ea C dd false))=H':=by
  funext b
  by_cases z:b=ea
  .subst z;rw [aA,hea]
  .rw [aj z]
 rw [upe] at hok;have bT:∀b o,s'.heap.get? b=some o->b≠T:=fun b o q=>ne_of_lt (lt_of_lt_of_le (Heap.lt_size q) hT);have bT0:∀b o,s.heap.get? b=some o->some T0≠some b:=fun b o q z=>by cases z;rw [hT0] at q;cases q
 have nea:∀b,H' b=none->b≠ea:=fun b n z=>by rw [z,hea] at n;cases n
 obtain⟨oe,vs,oT,ts,he1,he2,_⟩:=id fly0
 have u:Un (frs X.stack) [] H H' s.heap g2:=by
  rw [hst] at un1 ⊢
  refine⟨fun b ob q n hb hx=>?_,fun b ob q n hb hx=>?_,un1.free,fun b ob q hx=>?_,un1.tups,un1.frzs,un1.tbls⟩
  .have q2:=un1.keep b ob q n hb hx;exact un b ob (bT b ob q2) (mv.kp b ob hb (nea b (un1.free b ob q n hx)) (bT0 b ob q) q2)
  .obtain⟨sl1,q2⟩:=un1.slot b ob q n hb hx;obtain⟨sl2,q3⟩:=mv.sl b _ hb q2;exact⟨sl2,un b _ (bT b _ q2) q3⟩
  .obtain⟨o2,q2⟩:=un1.there b ob q hx
   by_cases hbe:b=ea
   .subst hbe;obtain⟨o3,vs3,q3,_⟩:=mv.ex oe vs he1 he2;exact⟨o3,un b o3 (bT b _ q2) q3⟩
   .by_cases hb:b∈frs (X.env::X.outer)
    .obtain⟨sl2,q3⟩:=mv.sl b _ hb q2;exact⟨_,un b _ (bT b _ q2) q3⟩
    .exact⟨o2,un b o2 (bT b _ q2) (mv.kp b o2 hb hbe (bT0 b ob q) q2)⟩
 have far:∀b o,s.heap.get? b=some o->b<T:=fun b o q=>by
  obtain⟨o2,q2⟩:=un1.there b o q (by simp);exact lt_of_lt_of_le (Heap.lt_size q2) hT
 have hL:X.env.locals<T:=by
  obtain⟨m,⟨o,_,_,ho,_⟩,_⟩:=I.loc;exact far _ o ho
 refine k ea C dd H' T { s' with heap:=g2 } rfl (I.call' (s':={ s' with heap:=g2 }) os u hok bare (fun b z=>nomatch z)) hea fly2 ⟨hok1.fresh hT,le_of_lt (Nat.lt_of_le_of_lt I.ok.above hL),Ne.symm (ne_of_lt hL),fun x c q=>?_,fun p hp=>?_⟩ hE1
 .obtain⟨v,o,ho,_⟩:=I.cell x c q;exact ne_of_lt (far c o ho)
 .exact ne_of_lt (far _ _ (I.pin p hp).1)
end
abbrev THd:=Addr->Addr->Option Addr->rD->St->Hp->Prop
def PH(X:Cx)(hs:List ExceptHandler)(th:THd):Prop:=∀(pins:List (Addr×Obj)) (s:Shared) (σ:St) (H:Hp) (ea C:Addr) (dd:Option Addr) (T:Addr) (D:rD),Inv X pins σ H s->H ea=some (.ext (XAt ea C dd false))->uB s.heap ea T .none->FTk X pins H T->th ea C dd D σ H ->
 wpAny (model X.prog X.w) X.A (handleBy (.ref ea) X.env hs) (SP X pins D) X.xe s
def hAs(K:PySem.W.Frag)(C0:Addr)(i:Nat)(ts:TS)(tr:THd):THd:=fun ea C dd D σ H=>∃G,XC K C G /\
 ((Value.ref C::.ref G::vmB).contains (.ref C0)=true->ts { nx:=fun σ' H'=>D.nx (σ'.set i none) H',bk:=fun σ' H'=>D.bk (σ'.set i none) H',ct:=fun σ' H'=>D.ct (σ'.set i none) H',rt:=D.rt } (σ.set i (some (.ref ea))) H) /\
 ((Value.ref C::.ref G::vmB).contains (.ref C0)=false->tr ea C dd D σ H)
def XD(K:PySem.W.Frag)(D:Addr):Prop:=∃nm q N bs bm hd sn sub ab col d0 k0 k1 k2 k3 k5 nw,K.lookup D=some (excClassObj nm q D N bs bm hd sn sub ab col d0 k0 k1 k2 k3 k5 nw)/\(Value.ref D::bm).contains (.type "BaseException")=true
section
variable {X:Cx}{C0:Addr}{cn n:Str}{np pos:Pos}{b0:Stmt}{suite:List Stmt}{rest:List ExceptHandler}{i:Nat}{ts:TS}{tr:THd}
theorem Do(K:PySem.W.Frag)(ek:X.K=K)(hx:XD K C0)(hm:X.mg cn=some (.ref C0))(hN:X.N.Nodup)(hi:X.N[i]?=some n)(hk:X.env.scope.names.lookup n=some .local)(hs:∀e,PSs (X.mk' e).nox (b0::suite) ts)(hr:PH X rest tr)
  (hg:Gl X cn:=by rfl) (hdb:(cn == ("__debug__":Str))=false:=by decide):PH X (.ExceptHandler (some (.Name cn np)) (some n) (b0::suite) pos::rest) (hAs K C0 i ts tr):=by
 subst ek;intro pins s σ H ea C dd T D I hea fly ft h;obtain⟨G,c,h1,h2⟩:=h;have xa:XAt ea C dd false s.heap:=(show bL X.prog X.w H s.heap ea (.ext (XAt ea C dd false)) from I.hok ea _ hea).1;refine wpAny_handleBy_cons (codeAny_handlers_test ?_) (by intro z;cases z);refine gX (X:=X.mk' (.ref ea)) (I.mark (.ref ea)) hg hm ?_ hdb;have X2:=I.kIn;have I0:=I;obtain⟨hh,g,d,tk,os⟩:=s;refine tV X2 c xa hx ?_
 cases hb:(Value.ref C::.ref G::vmB).contains (.ref C0) with
 | false=>exact hr pins _ σ H ea C dd T D I0 hea fly ft (h2 hb)
 | true =>
  refine codeAny_handlers_suite_as ?_;refine oi fly fun g2 un fly2=>?_;have I1:Inv X pins σ H { heap:=g2,gens:=g,drawn:=d,toks:=tk,os:=os }:=I0.turned (it:=T) (t':=tk) un ft.nt ft.nl (.inr ft.sz) ft.nc ft.np;refine gq (X:=X) (v:=.ref ea) I1 hN hi (.inl hk) rfl (fun s2 I2=>?_) (.inr hk);refine wpAny_mono (hs (.ref ea) pins s2 _ H _ ((I2.mark (.ref ea)).wish _) (h1 hb)) (fun f s3 hf=>?_) fun _ _ z=>False.elim z
  have un1:∀{σ' H'},Inv (X.mk' (.ref ea)).nox pins σ' H' s3->Inv X pins σ' H' s3:=fun J=>(Inv.unwish J).unmark I0.ok.hd;show wpAny _ X.A (do bindName X.env n .none;unbindBehindTheSuite X.env n pos) (fun _ s4=>SP X pins D f s4) X.xe s3
  cases f with
  | next =>
   obtain⟨σ',H',J,q⟩:=hf;exact gK (un1 J) hN hi hk fun s4 I4=>⟨_,H',I4,q⟩
  | brk =>
   obtain⟨σ',H',J,q⟩:=hf;exact gK (un1 J) hN hi hk fun s4 I4=>⟨_,H',I4,q⟩
  | cont =>
   obtain⟨σ',H',J,q⟩:=hf;exact gK (un1 J) hN hi hk fun s4 I4=>⟨_,H',I4,q⟩
  | ret u =>
   obtain⟨v,σ',H',J,r,q⟩:=hf;exact gK (un1 J) hN hi hk fun s4 I4=>⟨v,_,H',I4,r,q⟩
theorem Bv:PH X [] (fun _ _ _ _ _ _=>False):=fun _ _ _ _ _ _ _ _ _ _ _ _ _ h=>h.elim
end
abbrev Cx.tryb(X:Cx)(pn:List (Addr×Obj))(E:Value->Shared->Prop):Cx:={ X with pn:=pn,xe:=E }
def D5(tb:(St->XK)->TS)(th:THd):TS:=fun D σ H=>∃J:St->XK,tb J D σ H/\∀(σ':St) (ea:Addr) (dd:Option Addr) (H':Hp),J σ' (.ref ea) dd H'->∃C,H' ea=some (.ext (XAt ea C dd false))/\th ea C dd D σ' H'
section
variable {X:Cx}{C0:Addr}{cn n:Str}{np pos:Pos}{b0:Stmt}{suite body:List Stmt}{rest:List ExceptHandler}{h0:ExceptHandler}{hs:List ExceptHandler}{i:Nat}{ts:TS}{tr th:THd}{tb:(St->XK)->TS}
theorem Bw(hst:X.stack=X.env::X.outer)(hfm:X.env.frame=some X.env.locals)
  (hb:∀J pn E,PX (CXe X.prog X.w) (X.tryb pn E) J->PSs (X.tryb pn E) body (tb J)) (hh:PH X (h0::hs) th):PS X (.Try body (h0::hs) [] [] pos) (D5 tb th):=by
 intro pins s σ H D I h;obtain⟨J,h1,h2⟩:=h
 have mk:∀{E σ H s},Inv X pins σ H s->Inv (X.tryb (X.pn++pins) E) [] σ H s:=fun I =>
  ⟨⟨I.ok.mod,I.ok.kind,I.ok.glob,I.ok.blt,I.ok.above,I.ok.inj,I.ok.has,I.ok.cab,I.ok.hd,I.ok.frames,I.ok.stk,I.ok.exf,I.ok.bs,I.ok.bsz,I.ok.noex,I.ok.exfs,I.ok.funs,I.ok.frf⟩,I.os,I.bare,I.base,I.loc,I.cell,I.free,I.freeC,fun p hp=>I.pin p (by simpa using hp),I.hok,I.len⟩
 have un:∀{E pins' σ H s},Inv (X.tryb (X.pn++pins) E) pins' σ H s->Inv X pins σ H s:=fun {E pins' σ H s} I =>
  ⟨⟨I.ok.mod,I.ok.kind,I.ok.glob,I.ok.blt,I.ok.above,I.ok.inj,I.ok.has,I.ok.cab,I.ok.hd,I.ok.frames,I.ok.stk,I.ok.exf,I.ok.bs,I.ok.bsz,I.ok.noex,I.ok.exfs,I.ok.funs,I.ok.frf⟩,I.os,I.bare,I.base,I.loc,I.cell,I.free,I.freeC,fun p hp=>I.pin p (mem_append_left pins' hp),I.hok,I.len⟩
 let XE:Value->Shared->Prop:=fun e s1=>∃σ H s,Inv X pins σ H s/\CXe X.prog X.w X.stack H s (J σ) e s1
 have px:PX (CXe X.prog X.w) (X.tryb (X.pn++pins) XE) J:=fun pins' σ' H' s' e s1 I' h=>⟨σ',H',s',un I',h⟩
 refine wpAny_Try_except (wpAny_mono (hb J _ _ px [] s σ H D (mk I) h1) (fun f s1 hf=>?_) fun e s1 he=>?_)
 .cases f with
  | next =>
   obtain⟨σ',H',I',q⟩:=hf;rw [arm_execs_nil];exact wpAny_pure ⟨σ',H',un I',q⟩
  | brk =>
   obtain⟨σ',H',I',q⟩:=hf;exact⟨σ',H',un I',q⟩
  | cont =>
   obtain⟨σ',H',I',q⟩:=hf;exact⟨σ',H',un I',q⟩
  | ret u =>
   obtain⟨v,σ',H',I',r,q⟩:=hf;exact⟨v,σ',H',un I',r,q⟩
 .obtain⟨σ',H',s',I',cx⟩:=he;refine Ew hst hfm I' cx fun ea C dd H2 T s2 ee I2 hea fly ft hJ=>?_;subst ee;obtain⟨C2,hea2,ht⟩:=h2 σ' ea dd H2 hJ;exact hh pins s2 σ' H2 ea C2 dd T D I2 hea2 fly ft ht
end
def XR(K:PySem.W.Frag)(O:Addr->Prop)(H:Hp)(ea:Addr)(dd:Option Addr)(d:D):Prop:=∃c ns ds,d=.exc c ns ds/\H ea=some (.ext (XAt ea (aQ K c) dd false))/\FV K O H (.ref ea) d
theorem XR.keeps{K:PySem.W.Frag}{O O':Addr->Prop}{H H':Hp}{ea:Addr}{dd:Option Addr}{d:D}(k:aK O H O' H')(h:XR K O H ea dd d):XR K O' H' ea dd d:=by
 obtain⟨c,ns,ds,rfl,e,f⟩:=h
 have n:¬ O ea:=by cases f with
  | exc0 n _=>exact n
  | exc1 n _ _ _ _ _=>exact n
 exact⟨c,ns,ds,rfl,(k _ _ n e).2,f.keeps k⟩
def LSX(K:PySem.W.Frag)(E:D->Prop)(Eo:XK)(fs:List Nat)(ts:TS)(ps:PTS):Prop:=∀(fx:List (Nat×V)) (A R:Addr->Prop) (H0:Hp) (ρ:PSt) (σ:St) (H:Hp) (D:vn) (D':rD),fx.map Prod.fst=fs->Rel K A ρ σ H->ck fx R H0 ρ σ H->ps D ρ ->
 (∀ρ' σ' H',D.nx ρ'->Rel K A ρ' σ' H'->ck fx R H0 ρ' σ' H'->D'.nx σ' H') ->
 (∀v p ρ' σ' H',D.rt p ρ'->Out K A ρ' σ' H0 H' p v->ck fx R H0 ρ' σ' H'->D'.rt v H') ->
 (∀ρ' σ' H',D.bk ρ'->Rel K A ρ' σ' H'->ck fx R H0 ρ' σ' H'->D'.bk σ' H') ->
 (∀ρ' σ' H',D.ct ρ'->Rel K A ρ' σ' H'->ck fx R H0 ρ' σ' H'->D'.ct σ' H') ->
 (∀ρ' σ' H' ea dd d,E d->Rel K A ρ' σ' H'->ck fx R H0 ρ' σ' H'->H0 ea=none->XR K (OO A ρ' σ') H' ea dd d->Eo (.ref ea) dd H')->ts D' σ H
theorem ck.nn{fx:List (Nat×V)}{R:Addr->Prop}{H0 H:Hp}{ρ:PSt}{σ:St}(F:ck fx R H0 ρ σ H){b:Addr}(h:H b=none):H0 b=none:=by
 cases e:H0 b with
 | none=>rfl
 | some o=>exact absurd h (F.dm b (by rw [e];exact nofun))
section
variable {K:PySem.W.Frag}{E:D->Prop}{Eo:XK}{fs:List Nat}{ta tb ts:TS}{pa pb ps:PTS}{te:TE}{pe:PTE}{tt:TT}{pt:PTT}{wi:TI}{pi:PTI}{g:TG}{pg:PTG}
theorem LS.x(h:LS K fs ts ps):LSX K E Eo fs ts ps:=fun fx A R H0 ρ σ H D D' hf r F q k1 k2 k3 k4 _=>h fx A R H0 ρ σ H D D' hf r F q k1 k2 k3 k4
theorem pS(ha:LSX K E Eo fs ta pa)(hb:LSX K E Eo fs tb pb):LSX K E Eo fs (zy ta tb) (aH pa pb):=fun fx A R H0 ρ σ H D D' hf r F q k1 k2 k3 k4 k5 =>
 ha fx A R H0 ρ σ H _ _ hf r F q (fun ρ1 σ1 H1 q1 r1 F1=>hb fx A R H0 ρ1 σ1 H1 _ _ hf r1 F1 q1 k1 k2 k3 k4 k5) k2 k3 k4 k5
theorem Dp(ht:LT K tt pt)(ha:LSX K E Eo fs ta pa)(hb:LSX K E Eo fs tb pb):LSX K E Eo fs (Cm tt ta tb) (ku pt pa pb):=fun fx A R H0 ρ σ H D D' hf r F q k1 k2 k3 k4 k5=>ht A ρ σ H _ _ r q fun c H1 ρ1 q1 f1 r1=>by
 cases c with
 | true=>exact ha fx A R H0 ρ1 σ H1 D D' hf r1 (F.fr f1) q1 k1 k2 k3 k4 k5
 | false=>exact hb fx A R H0 ρ1 σ H1 D D' hf r1 (F.fr f1) q1 k1 k2 k3 k4 k5
theorem Bx(hi:LI K wi pi)(hg:LGd K fs g pg)(hb:LSX K E Eo fs tb pb):LSX K E Eo fs (B8 wi g tb) (gc pi pg pb):=fun fx A R H0 ρ σ H D D' hf r F q k1 k2 k3 k4 k5=>hi A ρ σ H _ _ r q fun J H1 n it ρ1 q1 f1 r1 W=>by
 obtain⟨I,i0,turn,after⟩:=q1;have F1:=F.fr f1;refine⟨fun i m σ' H'=>i+m=n/\∃ρ',I i ρ'/\Rel K A ρ' σ' H'/\ck fx (Wr ρ1 σ) H1 ρ' σ' H',⟨n,Nat.zero_add n,ρ1,i0,r1,ck.start F1.fx⟩,fun i m σ' H' ⟨him,ρ',iv,r',F'⟩=>?_⟩;obtain⟨go,stop⟩:=W _ H' F'.keeps r'.dom2
 by_cases hk:i<n
 .obtain⟨g1,g2⟩:=go i hk;refine .inr ⟨g1,fun σ'' H''=>∃ρ'',I (i+1) ρ''/\Rel K A ρ'' σ'' H''/\ck fx (Wr ρ1 σ) H1 ρ'' σ'' H'',fun σ'' H'' z=>⟨m - 1,by omega,by omega,z⟩,fun x H'' y=>?_⟩;obtain⟨gr,fv⟩:=g2 x H'' y;refine hg fx A (Wr ρ1 σ) H1 ρ' σ' H'' _ x _ _ hf (F'.fr gr.fr) (r'.gr gr) fv (turn i ρ' _ hk rfl iv) fun ρ2 σ2 q2 r2 F2 _=>?_
  refine hb fx A (Wr ρ1 σ) H1 ρ2 σ2 H'' _ _ hf r2 F2 q2 (fun ρ3 σ3 H3 q3 r3 F3=>⟨ρ3,q3,r3,F3⟩) (fun v p ρ3 σ3 H3 q3 o3 F3=>k2 v p ρ3 σ3 H3 q3 (o3.h0 F1.dm) (F1.trans F3 F3.fx)) (fun ρ3 σ3 H3 q3 r3 F3=>k1 ρ3 σ3 H3 q3 r3 (F1.trans F3 F3.fx)) (fun ρ3 σ3 H3 q3 r3 F3=>⟨ρ3,q3,r3,F3⟩)
   (fun ρ3 σ3 H3 ea dd d q3 r3 F3 n3 x3=>k5 ρ3 σ3 H3 ea dd d q3 r3 (F1.trans F3 F3.fx) (F1.nn n3) x3)
 .have e:i=n:=by omega
  subst e;exact .inl ⟨stop,k1 ρ' σ' H' (after ρ' iv) r' (F1.trans F' F'.fx)⟩
end
def tW(E:D->Prop)(pe:PTE):PTS:=fun _ ρ=>pe ρ fun p _=>match p with
 | .dat d=>E d
 | _=>False
section
variable {K:PySem.W.Frag}{E:D->Prop}{Eo:XK}{fs:List Nat}{ta:TA}{pa:PTA}{cs:List Str}{c f:Str}
theorem Dq{H:Hp}{a:Addr}{o o':HO}:upd (upd H a o) a o'=upd H a o':=by
 funext b
 by_cases z:b=a
 .subst z;rw [aA,aA]
 .rw [aj z,aj z,aj z]
theorem tX(X:Bq K cs)(hc:c∈cs)(h:LAs K ta pa):LSX K E Eo fs (wQ K (Bp (aQ K c) f ta) (fun _=>Eo)) (tW E (Br c f pa)):=fun fx A R H0 ρ σ H D D' hf r F q k1 k2 k3 k4 k5 =>
 h A ρ σ H _ _ r q fun vs H1 as ρ1 q1 f1 R1 o1=>by
  split at q1
  .rename_i d e1;have fs:=o1.avD e1
   cases fs with
   | @cons v _ _ _ fv fr =>
    cases fr;refine⟨_,rfl,fun e dx he hdx hne=>⟨e,aQ K c,aQ K "GlueError",some dx,rfl,aA,X.c c hc,?_⟩⟩;rw [Dq];have he2:upd H1 dx (.xd [(f,v)]) e=none:=by rw [aj (fun z=>hne z.symm)];exact he
    have g1:Gr H1 (upd H1 dx (.xd [(f,v)])):=Gr.new hdx;have g2:=Gr.new (o:=.ext (XAt e (aQ K c) (some dx) false)) he2;have g:Gr H1 (upd (upd H1 dx (.xd [(f,v)])) e (.ext (XAt e (aQ K c) (some dx) false))):=fun b o z=>g2 b o (g1 b o z);have F1:=F.fr f1;exact k5 ρ1 σ _ e _ _ q1 (R1.gr g) (F1.fr g.fr) (F1.nn he) ⟨_,_,_,rfl,aA,.exc1 (fs:=[(f,v)]) (fun z=>R1.dom2 e z he) (fun z=>R1.dom2 dx z hdx) aA (by rw [aj hne];exact aA) rfl (.cons (fv.keeps fun b o n z=>⟨n,g b o z⟩) .nil)⟩
  .exact q1.elim
end
abbrev FX:=List D->(PV->Prop)->(D->Prop)->Prop
def spX(K:PySem.W.Frag)(c:FX):Sp:=fun vs H Q E=>∃(O:Addr->Prop) (ds:List D) (Qc:PV->Prop) (Ec:D->Prop),(∀b,O b->H b≠none)/\FVs K O H vs ds/\c ds Qc Ec/\(∀r,Qc r->∀v H',Gr H H'->mn K O H H' r v->Q v H') /\
 ∀d,Ec d->∀ea dd H',Gr H H'->H ea=none->XR K O H' ea dd d->E (.ref ea) dd H'
section
variable {K:PySem.W.Frag}{tr:TA}{pr:PTA}{ts:XK->TS}{ps:(D->Prop)->PTS}
def wR(c:FX)(pr:PTA):PTE:=fun ρ Q=>pr ρ fun as ρ1=>match avD as with
 | some ds=>c ds (fun r=>Q r ρ1) (fun _=>False)
 | none=>False
theorem vT{c:FX}(h:LAs K tr pr):LE K (tT (spX K c) (fun _=>E0) tr) (wR c pr):=fun A ρ σ H Q Q' R q k=>h A ρ σ H _ _ R q fun vs H1 as ρ1 q1 f1 R1 o1=>by
 split at q1
 .rename_i ds e;exact⟨OO A ρ1 σ,ds,_,_,R1.dom2,o1.avD e,q1,fun r qr v H' g ov=>k v H' r ρ1 qr (f1.trans g.fr) ((ov.out R1 g).h0 f1.dm),fun d z=>z.elim⟩
 .exact q1.elim
end
section
variable {K:PySem.W.Frag}{cs:List Str}
theorem mH(X:Bq K cs){c d:Str}(hc:c∈cs)(hd:d∈cs\/d="GlueError"):(Value.ref (aQ K c)::.ref (aQ K "GlueError")::vmB).contains (.ref (aQ K d))=Dn c d:=by
 have yd:XCl K d:=hd.elim (X.n d) fun e=>by rw [e];exact X.g
 have rr:∀a b:Addr,(Value.ref a == Value.ref b)=decide (a=b):=fun a b=>by
  by_cases h:a=b
  .subst h;simp
  .rw [decide_eq_false h];exact beq_eq_false_iff_ne.mpr fun z=>h (Value.ref.inj z)
 rw [contains_cons,contains_cons,rr,rr];have t2:vmB.contains (Value.ref (aQ K d))=false:=rfl;rw [t2,Bool.or_false];unfold Dn
 congr 1
 .by_cases h:c=d
  .subst h;rw [decide_eq_true rfl,decide_eq_true rfl]
  .rw [decide_eq_false h,decide_eq_false fun z=>(X.n c hc).ne yd h z.symm]
 .by_cases h:d="GlueError"
  .subst h;rw [decide_eq_true rfl,decide_eq_true rfl]
  .rw [decide_eq_false h,decide_eq_false (yd.ne X.g h)]
end
section
variable {K:PySem.W.Frag}{A R:Addr->Prop}{fx:List (Nat×V)}{fs:List Nat}{H0 H:Hp}{ρ:PSt}{σ:St}{i:Nat}
theorem gL{j:Nat}{q:PV}(e:(ρ.set i none)[j]?=some (some q)):j≠i/\ρ[j]?=some (some q):=by
 by_cases z:i=j
 .subst z
  by_cases hi:i<ρ.length
  .rw [getElem?_set_self hi] at e;cases e
  .rw [getElem?_eq_none (by rw [length_set];omega)] at e;cases e
 .rw [getElem?_set_ne z] at e;exact⟨fun q=>z q.symm,e⟩
theorem lx{b:Addr}(h:Wr (ρ.set i none) (σ.set i none) b):Wr ρ σ b:=by
 obtain⟨j,r,e1,o1,s1⟩:=h;obtain⟨n,e⟩:=gL e1;rw [getElem?_set_ne (fun z=>n z.symm)] at s1;exact⟨j,r,e,o1,s1⟩
theorem Rel.unset(R1:Rel K A ρ σ H):Rel K A (ρ.set i none) (σ.set i none) H:=by
 have k:aK (OO A ρ σ) H (OO A (ρ.set i none) (σ.set i none)) H:=aK.less fun b z=>z.imp id lx
 refine⟨by rw [length_set,length_set];exact R1.len,fun j r e1=>?_,fun j l p1 q1 v' e1 e2 o1 o2 s1 s2=>?_,R1.dom,fun b z w=>R1.sep b z (lx w)⟩
 .obtain⟨n,e⟩:=gL e1;obtain⟨u,s,r'⟩:=R1.get j r e;exact⟨u,by rw [getElem?_set_ne (fun z=>n z.symm)];exact s,r'.keeps k fun _ _ _=>rfl⟩
 .obtain⟨n1,e1⟩:=gL e1;obtain⟨n2,e2⟩:=gL e2;rw [getElem?_set_ne (fun z=>n1 z.symm)] at s1;rw [getElem?_set_ne (fun z=>n2 z.symm)] at s2;exact R1.dj j l p1 q1 v' e1 e2 o1 o2 s1 s2
theorem ck.unset(hf:fx.map Prod.fst=fs)(hi:fs.contains i=false)(F:ck fx R H0 ρ σ H):ck fx R H0 (ρ.set i none) (σ.set i none) H :=
 ⟨F.kp,F.dm,fun b w=>F.ow b (lx w),fun q hq=>by
  have:q.1≠i:=fun z=>by
   have h1:i∈fs:=by rw [<- hf,<- z];exact mem_map_of_mem hq
   rw [contains_iff_mem.mpr h1] at hi;cases hi
  rw [getElem?_set_ne (fun z=>this z.symm)];exact F.fx q hq⟩
end
abbrev PTH:=D->PTS
def LH(K:PySem.W.Frag)(fs:List Nat)(th:THd)(ph:PTH):Prop:=∀(fx:List (Nat×V)) (A R:Addr->Prop) (H0:Hp) (ρ:PSt) (σ:St) (H:Hp) (D:vn) (D':rD) (ea:Addr) (dd:Option Addr) (c:Str) (ns:List Str) (ds:List L2.D),fx.map Prod.fst=fs->Rel K A ρ σ H->ck fx R H0 ρ σ H ->
 H ea=some (.ext (XAt ea (aQ K c) dd false))->FV K (OO A ρ σ) H (.ref ea) (.exc c ns ds)->ph (.exc c ns ds) D ρ ->
 (∀ρ' σ' H',D.nx ρ'->Rel K A ρ' σ' H'->ck fx R H0 ρ' σ' H'->D'.nx σ' H') ->
 (∀v p ρ' σ' H',D.rt p ρ'->Out K A ρ' σ' H0 H' p v->ck fx R H0 ρ' σ' H'->D'.rt v H') ->
 (∀ρ' σ' H',D.bk ρ'->Rel K A ρ' σ' H'->ck fx R H0 ρ' σ' H'->D'.bk σ' H') ->
 (∀ρ' σ' H',D.ct ρ'->Rel K A ρ' σ' H'->ck fx R H0 ρ' σ' H'->D'.ct σ' H')->th ea (aQ K c) dd D' σ H
def By:PTH:=fun _ _ _=>False
def D6(cs:List Str)(c0:Str)(i:Nat)(pb:PTS)(rest:PTH):PTH:=fun d D ρ=>match d with
 | .exc c _ _=>cs.contains c=true/\fN (Dn c c0) (pb { nx:=fun ρ'=>D.nx (ρ'.set i none),bk:=fun ρ'=>D.bk (ρ'.set i none),ct:=fun ρ'=>D.ct (ρ'.set i none),rt:=D.rt } (ρ.set i (some (.dat d)))) (rest d D ρ)
 | _=>False
section
variable {K:PySem.W.Frag}{cs:List Str}{fs:List Nat}{ts:TS}{ps:PTS}{tr:THd}{pr:PTH}{c0:Str}{i:Nat}
theorem Bz:LH K fs (fun _ _ _ _ _ _=>False) By:=fun _ _ _ _ _ _ _ _ _ _ _ _ _ _ _ _ _ _ _ h _ _ _ _=>h
theorem Dr(X:Bq K cs)(h0:c0∈cs\/c0="GlueError")(hi:fs.contains i=false)(hs:LS K fs ts ps)(hr:LH K fs tr pr):LH K fs (hAs K (aQ K c0) i ts tr) (D6 cs c0 i ps pr):=fun fx A R H0 ρ σ H D D' ea dd c ns ds hf r F hea fv q k1 k2 k3 k4=>by
 obtain⟨hc,q⟩:=(show cs.contains c=true/\_ from q)
 have hc:c∈cs:=contains_iff_mem.mp hc;have ek:=mH X hc h0
 refine⟨aQ K "GlueError",X.c c hc,fun e=>?_,fun e=>?_⟩
 .rw [ek] at e;rw [e] at q;have o:Out K A ρ σ H0 H (.dat (.exc c ns ds)) (.ref ea):=⟨r,fv⟩
  exact hs fx A R H0 _ _ H _ _ hf (o.put (i:=i)).1 (F.put hf hi o.put.2) q (fun ρ' σ' H' q' r' F'=>k1 _ _ _ q' r'.unset (F'.unset hf hi)) k2 (fun ρ' σ' H' q' r' F'=>k3 _ _ _ q' r'.unset (F'.unset hf hi)) (fun ρ' σ' H' q' r' F'=>k4 _ _ _ q' r'.unset (F'.unset hf hi))
 .rw [ek] at e;rw [e] at q;exact hr fx A R H0 ρ σ H D D' ea dd c ns ds hf r F hea fv q k1 k2 k3 k4
end
section
variable {X:Cx}{st:Stmt}{t:TS}
theorem PS.nox(h:PS X.nox st t):PS X st t:=fun pins s σ H D I hw =>
 wpAny_mono (h pins s σ H D (I.wish _) hw) (fun f s' hs=>by
  cases f with
  | next=>obtain⟨σ',H',J,q⟩:=hs;exact⟨σ',H',J.unwish,q⟩
  | brk=>obtain⟨σ',H',J,q⟩:=hs;exact⟨σ',H',J.unwish,q⟩
  | cont=>obtain⟨σ',H',J,q⟩:=hs;exact⟨σ',H',J.unwish,q⟩
  | ret u=>obtain⟨v,σ',H',J,r,q⟩:=hs;exact⟨v,σ',H',J.unwish,r,q⟩) fun _ _ z=>z.elim
end
section
variable {P:Program}{w:World}{K:PySem.W.Frag}{mg:Str->Option Value}{base:Heap}{x:Str}{st:Stmt}{N ps:List Str}{k:Nat}{sp:Sp}
theorem b9.okE(D:b9 K mg x st)(S:aJ N ps (ai st))
  (hb:∀(kV doc pm:Value) (an:Option Addr) (cdv ct:Value) (us:List Value),us.length=ps.length->bindArgs (PySem.W.fnOf x x (bQ st) (bf st) (ai st) .none kV doc pm an cdv ct) ⟨us,[]⟩=pure (ps.zip us))
  (len:∀vs H Q E,sp vs H Q E->vs.length=ps.length)
  (hbody:∀(f:Addr) (cdv:Value) (A:Around) (outer:List Env) (s:Shared) (H:Hp) (vs:List V) (Q:VK) (E:XK),dX k (A.deeper (envOfC x (ai st) s.heap.objs.size f cdv))->sp vs H Q E ->
   ∃t,PSs (nF (CXe P w) P w K mg base N x (ai st) f cdv A outer s H E) (bf st) t/\t { nx:=fun _ H'=>Q .non H',rt:=Q } (start N vs) H):Bu P w K mg base (k+1) x ps sp:=by
 obtain⟨f,fd,F,hm⟩:=D.ex;refine⟨f,fd,?_,F.binds hb,F.kp,hm⟩;obtain⟨oc,od,kV,doc,pm,an,cdv,ct,osl,rfl,lk,hcd⟩:=F.ex;exact xF lk hcd S len fun A outer s H vs Q E hr hsp=>hbody f cdv A outer s H vs Q E hr hsp
end
theorem px0{P:Program}{w:World}{X:Cx}:PX (CXe P w) X (fun _=>E0):=fun pins σ H s e s' I h=>by
 obtain⟨_,_,_,_,_,_,_,_,_,_,_,_,_,_,z⟩:=h;exact z.elim
abbrev Ds(pp:(D->Prop)->PTS)(n:Nat)(ds:List D)(Q:PV->Prop)(E:D->Prop):Prop:=pp E { nx:=fun _=>Q (.dat .non),rt:=fun p _=>Q p } (cC n (ds.map .dat))
section
variable {K:PySem.W.Frag}{ts:TS}{ps:(D->Prop)->PTS}
theorem Ex{c:FX}{n:Nat}(hn:∀ds Q E,c ds Q E->ds.length=n){vs:List V}{H:Hp}{Q:VK}{E:XK}(h:spX K c vs H Q E):vs.length=n:=by
 obtain⟨O,ds,Qc,Ec,_,fv,hq,_⟩:=h;rw [fv.length];exact hn ds Qc Ec hq
theorem Ey{c:FX}{N:List Str}{vs:List V}{H:Hp}{Q:VK}{E:XK}(hl:∀Ec,LSX K Ec E [] ts (ps Ec))(hn:∀ds Q E,c ds Q E->ds.length<=N.length)(hc:∀ds Q E,c ds Q E->Ds ps N.length ds Q E)
  (h:spX K c vs H Q E):ts { nx:=fun _ H'=>Q .non H',rt:=Q } (start N vs) H:=by
 obtain⟨O,ds,Qc,Ec,dom,fv,hq,k,kx⟩:=h
 have nw:∀(ρ:PSt) (b:Addr),ρ=cC N.length (ds.map .dat)->¬ Wr ρ (start N vs) b:=fun ρ b e ⟨i,p,e1,o1,s1⟩=>by
  rw [e] at e1;have:=cF e1;rw [getElem?_map] at this
  cases e2:ds[i]? with
  | none=>rw [e2] at this;cases this
  | some d=>rw [e2] at this;cases this;cases o1
 have lenv:=fv.length;have hle:=hn ds Qc Ec hq
 have R0:Rel K O (cC N.length (ds.map .dat)) (start N vs) H:=by
  refine⟨?_,fun i p e=>?_,fun i j p q v e1 e2 o1 o2 s1 s2=>?_,dom,fun b _ w=>nw _ b rfl w⟩
  .unfold cC start;rw [length_append,length_append,length_map,length_map,length_map,length_replicate,length_replicate,lenv]
  .have:=cF e;rw [getElem?_map] at this
   cases e2:ds[i]? with
   | none=>rw [e2] at this;cases this
   | some d =>
    rw [e2] at this;cases this;obtain⟨v,hv,f⟩:=fv.getD e2;exact⟨v,gG hv,f.keeps (aK.less fun b z=>z.elim id fun w=>absurd w (nw _ b rfl))⟩
  .have:=cF e1;rw [getElem?_map] at this
   cases e3:ds[i]? with
   | none=>rw [e3] at this;cases this
   | some d=>rw [e3] at this;cases this;cases o1
 refine hl Ec [] O (fun _=>False) H _ _ H _ _ rfl R0 ⟨fun _ _ _ h=>h,fun _ h=>h,fun b w=>absurd w (nw _ b rfl),fun p hp=>nomatch hp⟩ (hc ds Qc Ec hq) (fun ρ' σ' H' q r F=>?_) (fun v p ρ' σ' H' q o F=>?_) (fun _ _ _ z=>z.elim) (fun _ _ _ z=>z.elim) (fun ρ' σ' H' ea dd d q r F n x=>?_)
 .exact k _ q .non H' (fun b o e=>F.kp b o id e) .non
 .exact k _ q v H' (fun b o e=>F.kp b o id e) o.outV
 .exact kx d q ea dd H' (fun b o e=>F.kp b o id e) n (x.keeps (aK.less fun b z=>.inl z))
end
theorem BA{X:Cx}{c0 cn n:Str}{np pos:Pos}{b0:Stmt}{suite:List Stmt}{rest:List ExceptHandler}{ts:TS}{tr:THd}(i:Nat)(K:PySem.W.Frag)(ek:X.K=K)(hx:XD K (aQ K c0))(hm:X.mg cn=some (.ref (aQ K c0)))(hN:X.N.Nodup)(hi:X.N[i]?=some n)(hk:X.env.scope.names.lookup n=some .local)(hs:∀e,PSs (X.mk' e).nox (b0::suite) ts)(hr:PH X rest tr)
  (hg:Gl X cn:=by rfl) (hdb:(cn == ("__debug__":Str))=false:=by decide):PH X (.ExceptHandler (some (.Name cn np)) (some n) (b0::suite) pos::rest) (hAs K (aQ K c0) i ts tr):=Do K ek hx hm hN hi hk hs hr hg hdb
theorem tY(d:D):(PV.dat d).d=d:=rfl
theorem tZ(ds:List D):(PV.own ds).d=.lst ds:=rfl
theorem t5(c:Str)(ns:List Str)(ds:List D):(PV.ins c ns ds).d=.obj c ns ds:=rfl
theorem BB(ds:List D):mkL false ds=.own ds:=rfl
theorem BC(ds:List D):mkL true ds=.dat (.tup ds):=rfl
def pkm(ρ:PSt)(j:Nat):Option PV:=match ρ[j]? with
 | some v=>v
 | none=>none
theorem pT(v:Option PV)(r:PSt):pkm (v::r) 0=v:=rfl
theorem pU(v:Option PV)(r:PSt)(n:Nat):pkm (v::r) (n+1)=pkm r n:=rfl
theorem mI(ρ:PSt):bH [] ρ=[]:=rfl
theorem kC(ix:List (Option Nat))(ρ:PSt):bH (none::ix) ρ=none::bH ix ρ:=rfl
theorem kE(j:Nat)(ix:List (Option Nat))(ρ:PSt):bH (some j::ix) ρ=pkm ρ j::bH ix ρ:=rfl
theorem mJ(j:Nat)(ix:List (Option Nat))(ρ:PSt)(t:Option PV)(τ:PSt):eO (some j::ix) ρ (t::τ)=eO ix (ρ.set j t) τ:=rfl
theorem mK(ix:List (Option Nat))(ρ:PSt)(t:Option PV)(τ:PSt):eO (none::ix) ρ (t::τ)=eO ix ρ τ:=rfl
theorem pV(ρ τ:PSt):eO [] ρ τ=ρ:=rfl
def Dt(pe:PTE):PTE:=fun ρ Q=>pe ρ fun p ρ1=>Q (.dat p.d) ρ1
theorem wS{K:PySem.W.Frag}{ta:TE}{pe:PTE}(h:LE K ta pe):LE K ta (Dt pe):=fun A ρ σ H Q Q' R q k=>h A ρ σ H _ Q' R q fun v H' p ρ' q f o=>k v H' (.dat p.d) ρ' q f o.frz
theorem yU{α:Type}{e:α->D}{xs:List α}{k:Nat}(h:k<xs.length):itD (xs.map e) k=e xs[k]:=dP (by rw [getElem?_map,getElem?_eq_getElem h];rfl)
theorem t6{α β:Type}(f:α->β)(xs:List α)(g:Nat->β)(h:∀k (hk:k<xs.length),g k=f xs[k]):(List.range xs.length).map g=xs.map f:=by
 apply ext_getElem?;intro i;rw [getElem?_map,getElem?_map]
 by_cases hi:i<xs.length
 .rw [getElem?_range hi,getElem?_eq_getElem hi];exact congrArg some (h i hi)
 .rw [getElem?_eq_none (by rw [length_range];omega),getElem?_eq_none (by omega)];rfl
section
variable {α:Type}{e:α->D}{xs:List α}{ix:List (Option Nat)}{ρ1:PSt}{g:PTG}{pt:PTT}{pe:PTE}{Q:PKt}
theorem D7(T:PSt->Prop)(f:α->Option D)(h0:T (bH ix ρ1))
  (hs:∀x∈xs,∀τ,T τ->∀(K1:D->PSt->Prop) (K2:PSt->Prop),(∀d τ',f x=some d->T τ'->K1 d τ')->(∀τ',f x=none->T τ'->K2 τ')->g (.dat (e x)) τ fun τ2=>pt τ2 fun ok τ3=>fN ok (pe τ3 fun p τ4=>K1 p.d τ4) (K2 τ3))
  (hq:∀τ,T τ->Q (.own (xs.filterMap f)) (eO ix ρ1 τ)):j4 ix ρ1 (xs.map e).length (itD (xs.map e)) g pt pe Q:=by
 refine cfm T (fun k=>(xs[k]?).bind f) h0 (fun k τ d hk ed t K1 K2 k1 k2=>?_) fun τ t=>?_
 .rw [length_map] at hk;rw [yU hk] at ed;subst ed;have eg:(xs[k]?).bind f=f xs[k]:=by rw [getElem?_eq_getElem hk];rfl
  rw [eg] at k1 k2;exact hs _ (getElem_mem hk) τ t K1 K2 k1 k2
 .have e1:(List.range (xs.map e).length).filterMap (fun k=>(xs[k]?).bind f)=xs.filterMap f:=by
   rw [length_map];have h1:(List.range xs.length).map (fun k=>(xs[k]?).bind f)=xs.map f:=t6 f xs _ fun k hk=>by rw [getElem?_eq_getElem hk];rfl
   have h2:∀l:List Nat,l.filterMap (fun k=>(xs[k]?).bind f)=(l.map fun k=>(xs[k]?).bind f).filterMap id:=fun l=>by rw [filterMap_map];rfl
   rw [h2,h1,filterMap_map];rfl
  rw [e1];exact hq τ t
theorem Du(T:PSt->Prop)(f:α->D)(h0:T (bH ix ρ1))
  (hs:∀x∈xs,∀τ,T τ->∀K1:D->PSt->Prop,(∀τ',T τ'->K1 (f x) τ')->g (.dat (e x)) τ fun τ2=>pe τ2 fun p τ4=>K1 p.d τ4)
  (hq:∀τ,T τ->Q (.own (xs.map f)) (eO ix ρ1 τ)):j4 ix ρ1 (xs.map e).length (itD (xs.map e)) g jr pe Q:=by
 refine D7 T (fun x=>some (f x)) h0 (fun x hx τ t K1 K2 k1 k2=>?_) fun τ t=>?_
 .exact hs x hx τ t K1 fun τ' t'=>k1 _ τ' rfl t'
 .rw [show xs.filterMap (fun x=>some (f x))=xs.map f by rw [<- filterMap_eq_map];rfl];exact hq τ t
theorem Dv{β:Type}(p:α->Bool)(f:α->β):∀xs:List α,xs.filterMap (fun x=>if p x=true then some (f x) else none)=(xs.filter p).map f:=cq p f
theorem cfX(T:PSt->Prop)(p:α->Bool)(f:α->D)(h0:T (bH ix ρ1))
  (hs:∀x∈xs,∀τ,T τ->∀(K1:D->PSt->Prop) (K2:PSt->Prop),(∀τ',p x=true->T τ'->K1 (f x) τ')->(∀τ',p x=false->T τ'->K2 τ')->g (.dat (e x)) τ fun τ2=>pt τ2 fun ok τ3=>fN ok (pe τ3 fun p τ4=>K1 p.d τ4) (K2 τ3))
  (hq:∀τ,T τ->Q (.own ((xs.filter p).map f)) (eO ix ρ1 τ)):j4 ix ρ1 (xs.map e).length (itD (xs.map e)) g pt pe Q:=by
 refine D7 T (fun x=>if p x=true then some (f x) else none) h0 (fun x hx τ t K1 K2 k1 k2=>hs x hx τ t K1 K2 (fun τ' h t'=>k1 _ τ' (by rw [if_pos h]) t') fun τ' h t'=>k2 τ' (by rw [if_neg (by rw [h];decide)]) t') fun τ t=>?_;rw [Dv];exact hq τ t
theorem cm1(f:α->D)
  (hs:∀x∈xs,∀(v:Option PV) (K1:D->PSt->Prop),(∀v',K1 (f x) (v'::(bH ix ρ1).tail))->g (.dat (e x)) (v::(bH ix ρ1).tail) fun τ2=>pe τ2 fun p τ4=>K1 p.d τ4)
  (hq:∀v:Option PV,Q (.own (xs.map f)) (eO ix ρ1 (v::(bH ix ρ1).tail))) (hx:bH ix ρ1=none::(bH ix ρ1).tail:=by rfl):j4 ix ρ1 (xs.map e).length (itD (xs.map e)) g jr pe Q:=by
 refine Du (fun τ=>∃v,τ=v::(bH ix ρ1).tail) f ⟨none,hx⟩ ?_ ?_
 .rintro x hx τ ⟨v,rfl⟩ K1 k1;exact hs x hx v K1 fun v'=>k1 _ ⟨v',rfl⟩
 .rintro τ ⟨v,rfl⟩;exact hq v
theorem cf1(p:α->Bool)(f:α->D)
  (hs:∀x∈xs,∀(v:Option PV) (K1:D->PSt->Prop) (K2:PSt->Prop),(∀v',p x=true->K1 (f x) (v'::(bH ix ρ1).tail))->(∀v',p x=false->K2 (v'::(bH ix ρ1).tail))->g (.dat (e x)) (v::(bH ix ρ1).tail) fun τ2=>pt τ2 fun ok τ3=>fN ok (pe τ3 fun p τ4=>K1 p.d τ4) (K2 τ3))
  (hq:∀v:Option PV,Q (.own ((xs.filter p).map f)) (eO ix ρ1 (v::(bH ix ρ1).tail))) (hx:bH ix ρ1=none::(bH ix ρ1).tail:=by rfl):j4 ix ρ1 (xs.map e).length (itD (xs.map e)) g pt pe Q:=by
 refine cfX (fun τ=>∃v,τ=v::(bH ix ρ1).tail) p f ⟨none,hx⟩ ?_ ?_
 .rintro x hx τ ⟨v,rfl⟩ K1 K2 k1 k2;exact hs x hx v K1 K2 (fun v' h=>k1 _ h ⟨v',rfl⟩) fun v' h=>k2 _ h ⟨v',rfl⟩
 .rintro τ ⟨v,rfl⟩;exact hq v
end
theorem cmR{ix:List (Option Nat)}{ρ1:PSt}{g:PTG}{pe:PTE}{Q:PKt}{n:Nat}{it:Nat->D}(f:Nat->D)
  (hs:∀k,k<n->∀(v:Option PV) (K1:D->PSt->Prop),(∀v',K1 (f k) (v'::(bH ix ρ1).tail))->g (.dat (it k)) (v::(bH ix ρ1).tail) fun τ2=>pe τ2 fun p τ4=>K1 p.d τ4)
  (hq:∀v:Option PV,Q (.own ((List.range n).map f)) (eO ix ρ1 (v::(bH ix ρ1).tail))) (hx:bH ix ρ1=none::(bH ix ρ1).tail:=by rfl):j4 ix ρ1 n it g jr pe Q:=by
 refine vB (fun τ=>∃v,τ=v::(bH ix ρ1).tail) f ⟨none,hx⟩ ?_ ?_
 .rintro k τ d hk rfl ⟨v,rfl⟩ K1 k1;exact hs k hk v K1 fun v'=>k1 _ ⟨v',rfl⟩
 .rintro τ ⟨v,rfl⟩;exact hq v
theorem cfR{ix:List (Option Nat)}{ρ1:PSt}{g:PTG}{pt:PTT}{pe:PTE}{Q:PKt}{n:Nat}{it:Nat->D}(p:Nat->Bool)(f:Nat->D)
  (hs:∀k,k<n->∀(v:Option PV) (K1:D->PSt->Prop) (K2:PSt->Prop),(∀v',p k=true->K1 (f k) (v'::(bH ix ρ1).tail))->(∀v',p k=false->K2 (v'::(bH ix ρ1).tail))->g (.dat (it k)) (v::(bH ix ρ1).tail) fun τ2=>pt τ2 fun ok τ3=>fN ok (pe τ3 fun p τ4=>K1 p.d τ4) (K2 τ3))
  (hq:∀v:Option PV,Q (.own (((List.range n).filter p).map f)) (eO ix ρ1 (v::(bH ix ρ1).tail))) (hx:bH ix ρ1=none::(bH ix ρ1).tail:=by rfl):j4 ix ρ1 n it g pt pe Q:=by
 refine cfm (fun τ=>∃v,τ=v::(bH ix ρ1).tail) (fun k=>if p k=true then some (f k) else none) ⟨none,hx⟩ ?_ ?_
 .rintro k τ d hk rfl ⟨v,rfl⟩ K1 K2 k1 k2;exact hs k hk v K1 K2 (fun v' h=>k1 _ _ (by rw [if_pos h]) ⟨v',rfl⟩) fun v' h=>k2 _ (by rw [if_neg (by rw [h];decide)]) ⟨v',rfl⟩
 .rintro τ ⟨v,rfl⟩;rw [cq];exact hq v
theorem t7{α β:Type}(f:α->β)(xs:List α)(i:Nat):(xs.map f).eraseIdx i=(xs.eraseIdx i).map f:=by
 rw [eraseIdx_eq_take_drop_succ,eraseIdx_eq_take_drop_succ,map_append,map_take,map_drop]
theorem Dw{n i:Nat}(h:i<n):ixN n (i:Int)=some i:=by
 unfold ixN;rw [if_pos (by omega),if_pos (by omega),toNat_natCast]
theorem t8{α:Type}{P:List α->Prop}(h0:P [])(h1:∀l a,P l->P (l++[a]))(l:List α):P l:=by
 have go:∀r:List α,P r.reverse:=fun r=>by
  induction r with
  | nil=>exact h0
  | cons a r ih=>rw [reverse_cons];exact h1 _ _ ih
 have:=go l.reverse
 rwa [reverse_reverse] at this
def zK(ws:List (List Nat)):Nat->List Nat->Nat
 | _,[]=>0
 | i,j::r=>gg (pw ws i) (pw ws j)+zK ws j r
def ny(ws:List (List Nat)):List Nat->Nat
 | []=>0
 | j::r=>zK ws j r
theorem mL(ws:List (List Nat))(j:Nat):∀(i:Nat) (r:List Nat) (l:Nat),zK ws i (r++[l]++[j])=zK ws i (r++[l])+gg (pw ws l) (pw ws j)
 | i,[],l=>by show gg _ _+(gg _ _+0)=gg _ _+0+_;omega
 | i,a::r,l=>by
  show gg _ _+zK ws a (r++[l]++[j])=gg _ _+zK ws a (r++[l])+_;rw [mL ws j a r l,add_assoc]
theorem t9(a b:List Nat):(!(Builtin.Str.occurrences (S b) (S a) 0 (S b).length 1).isEmpty)=eY a b:=by
 have e:=sI b a 0;unfold eY;rw [<- e]
 cases Builtin.Str.occurrences (S b) (S a) 0 (S b).length 1 with
 | nil=>rfl
 | cons k r=>exact (decide_eq_true (by omega:(0:Int)<=(k:Int))).symm
section
variable {X:Cx}{K:PySem.W.Frag}
def Dx(neg:Bool):R2:=fun x y H Q=>∃a b,x=.str (S a)/\y=.str (S b)/\Q (.bl (if neg then !eY a b else eY a b)) H
theorem BD:OpR X (compareOp .In) (Dx false):=by
 intro pins s σ H x y v u Q I rx ry h;obtain⟨a,b,rfl,rfl,q⟩:=h;obtain⟨t,rfl⟩:=rx;obtain⟨t',rfl⟩:=ry;exact P.in_str ⟨.bl _,H,I,rfl,by rw [t9];exact q⟩
theorem ua:OpR X (compareOp .NotIn) (Dx true):=by
 intro pins s σ H x y v u Q I rx ry h;obtain⟨a,b,rfl,rfl,q⟩:=h;obtain⟨t,rfl⟩:=rx;obtain⟨t',rfl⟩:=ry;exact P.notIn_str ⟨.bl _,H,I,rfl,by rw [t9];exact q⟩
def BE(K:PySem.W.Frag)(neg:Bool):R2:=fun x y H Q=>rIn K neg x y H Q\/Dx neg x y H Q
theorem Dy(K:PySem.W.Frag)(e:X.K=K):OpR X (compareOp .In) (BE K false):=OpR.or (En K e) BD
theorem gM(K:PySem.W.Frag)(e:X.K=K):OpR X (compareOp .NotIn) (BE K true):=OpR.or (yb K e) ua
def wT(neg:Bool):F2
 | .str a,.str b,Q=>Q (.dat (.bl (if neg then !eY a b else eY a b)))
 | a,.lst ds,Q=>(a.fl=true/\ds.all D.fl=true)/\Q (.dat (.bl (if neg then !inD a ds else inD a ds)))
 | a,.tup ds,Q=>(a.fl=true/\ds.all D.fl=true)/\Q (.dat (.bl (if neg then !inD a ds else inD a ds)))
 | _,_,_=>False
theorem jx{neg:Bool}:LO K (BE K neg) (wT neg):=by
 intro O H x y a b Q Q' dom fx fy q k;unfold wT at q
 split at q
 .obtain⟨rfl,_⟩:=fx.str;obtain⟨rfl,_⟩:=fy.str;exact .inr ⟨_,_,rfl,rfl,k _ H _ q (Gr.refl _) (.bl _)⟩
 .exact .inl (AX O H x y _ _ Q Q' dom fx fy q k)
 .exact .inl (AX O H x y _ _ Q Q' dom fx fy q k)
 .exact q.elim
end
section
variable {X:Cx}{K:PySem.W.Frag}{ta te:TE}{pa:PA1}{pe:PTE}
def kF(n:Int):Nat:=if n == 0 then 0 else n.natAbs.log2+1
def yV:V->List V->Hp->VK->Prop:=fun x xs H Q=>∃n,x=.int n/\xs=[]/\Q (.int (kF n:Nat)) H
theorem yW:MtR X "int.bit_length" yV:=by
 intro pins s σ H x xs v us Q I rx rs h;obtain⟨n,rfl,rfl,q⟩:=h;obtain⟨t,rfl⟩:=rx;have hus:=rs.zero;subst hus;exact call_gives F.slot_int_bit_length (typeIs_int s n t) F.entry_int_bit_length (F.args_int_bit_length_1 _) (AutoIntG2.int_bit_length_int_0 n t) ⟨.int _,H,I.tok _,⟨_,rfl⟩,q⟩
def yX(pe:PTE):PTE:=fun ρ Q=>pe ρ fun p ρ1=>match p with
 | .dat (.int n)=>Q (.dat (.int (kF n:Nat))) ρ1
 | _=>False
theorem yY(he:LE K te pe):LE K (As K "int" yV te) (yX pe):=fun A ρ σ H Q Q' R q k=>he A ρ σ H _ _ R q fun v H1 p ρ1 q1 f1 o1=>by
 unfold yX at *
 split at q1
 .obtain⟨R1,fv⟩:=o1;cases fv;exact⟨rfl,_,rfl,rfl,k _ H1 _ ρ1 q1 f1 ⟨R1,.int _⟩⟩
 .exact q1.elim
theorem yZ{o:Expr}{to:TE}{name:Str}{apos cpos:Pos}{T id:String}{r:V->List V->Hp->VK->Prop}(K:PySem.W.Frag)(eK:X.K=K)(pa:PlainAttrs T)(slot:Slot T name id)(hty:typeOf (.builtin id)=pure (.type "method_descriptor"))(hm:MtR X id r)(ho:PE X o to)
  (hbase:attributeBase o name X.env (eval o X.env)=eval o X.env:=by rfl) (hline:(apos.endLine == cpos.line)=true:=by rfl):PE X (.Call (.Attribute o name apos) [] [] cpos) (As K T r to):=eK ▸ wA pa slot hty hm ho hbase hline
end
section
variable {X:Cx}{K:PySem.W.Frag}
def wU(K:PySem.W.Frag):R2:=fun x y H Q=>∃a b ys,x=.ref a/\y=.ref b/\SqT K H a []/\SqT K H b ys/\Q (.ref b) H
theorem vU:OpR X (binaryOp .Add) (wU X.K):=by
 intro pins s σ H x y v u Q I rx ry h;obtain⟨a,b,ys,rfl,rfl,ha,hb,q⟩:=h;cases rx;cases ry;obtain⟨its,r1,p1,_⟩:=I.tuple ha;obtain⟨its2,r2,p2,_⟩:=I.tuple hb;have e0:its=[]:=r1.nil_iff.mpr rfl;subst e0;obtain⟨⟨cls,dd,data,sl⟩,ho,hc,n,hd⟩:=id p1;obtain⟨⟨cls2,dd2,data2,sl2⟩,ho2,hc2,n2,hd2⟩:=id p2;simp only at hc hd hc2 hd2;subst hc hd hc2 hd2;exact concat_meets ⟨_,ho,rfl⟩ ⟨_,ho2,rfl⟩ noFill_tuple_add seq_tuple_add PySem.F.slot_tuple_add PySem.F.entry_tuple_add (PySem.F.args_tuple_add_2 _ _) (tuple_addW0 a b _ _ n n2 dd dd2 sl sl2 rfl) ⟨ho,ho2,.ref b,H,I,rfl,q⟩
def j5(K:PySem.W.Frag):R2:=fun x y H Q=>ya K x y H Q\/wU K x y H Q
theorem bA(K:PySem.W.Frag)(e:X.K=K):OpR X (binaryOp .Add) (j5 K):=OpR.or (CU K e) (by subst e;exact vU)
def cr:F2
 | .tup a,.tup b,Q=>a.length+b.length<=1000000/\Q (.dat (.tup (a++b)))
 | a,b,Q=>CV a b Q
theorem aT:LO K (j5 K) cr:=by
 intro O H x y a b Q Q' dom fx fy q k;unfold cr at q
 split at q
 .rename_i Q ds es
  cases ds with
  | cons d ds=>exact .inl (wF O H x y _ _ _ Q' dom fx fy ⟨nofun,q⟩ k)
  | nil =>
   obtain⟨p1,xs1,rfl,n1,e1,f1⟩:=fx.tup;obtain⟨p2,xs2,rfl,n2,e2,f2⟩:=fy.tup;cases f1;exact .inr ⟨p1,p2,xs2,rfl,rfl,SqT.of e1,SqT.of e2,k _ H _ q.2 (Gr.refl _) (.tup n2 e2 f2)⟩
 .exact .inl (wF O H x y _ _ _ Q' dom fx fy q k)
end
section
variable {X:Cx}
def D8:Expr->Bool
 | .ListComp ..|.SetComp ..|.DictComp ..=>false
 | _=>true
theorem ub{o i e:Expr}{p:Pos}{l:Nat}{env:Env}(h:D8 e=true):swapsWithSole [.Subscript o i p] e l env=pure false:=by
 show swapsWith e (some (.Subscript o i p)) l env=pure false;cases e <;> first|rfl|cases h
theorem oj{o i e:Expr}{p:Pos}{env:Env}:swappedStores [.Subscript o i p] e env=pure none:=rfl
theorem uc{o i e:Expr}{p:Pos}{te:TE}{g:TG}{pos:Pos}(he:PE X e te)(hg:PG X (.Subscript o i p) g)(hn:D8 e=true:=by rfl):PS X (.Assign [.Subscript o i p] e pos) (wv te g) :=
 z0 he hg (ub hn) oj rfl
end
def gW(K:PySem.W.Frag)(x:Str)(st:Stmt):Prop:=∃(f:Addr) (oc kV dc pm cd ct:Value) (od an:Option Addr) (sl:Array (Option Value)),PySem.W.nsIn K mainGlobals x=some (some (.ref f)) /\
 K.lookup f=some ⟨oc,od,.func (PySem.W.fnOf x x (bQ st) (bf st) (ai st) .none kV dc pm an cd ct),sl⟩/\PySem.W.codeIn K cd x=true/\PySem.W.keepIn K (.ref f)=true
theorem BF{K:PySem.W.Frag}{x:Str}{st:Stmt}{f:Addr}{oc kV dc pm cd ct:Value}{od an:Option Addr}{sl:Array (Option Value)}(a:PySem.W.nsIn K mainGlobals x=some (some (.ref f)))(l:K.lookup f=some ⟨oc,od,.func (PySem.W.fnOf x x (bQ st) (bf st) (ai st) .none kV dc pm an cd ct),sl⟩)
  (c:PySem.W.codeIn K cd x=true) (k:PySem.W.keepIn K (.ref f)=true):gW K x st:=⟨f,oc,kV,dc,pm,cd,ct,od,an,sl,a,l,c,k⟩
theorem bN{K:PySem.W.Frag}{h:Heap}{mg:Str->Option Value}{x:Str}{st:Stmt}(q:gW K x st)(X:K.In h)(G:h.Ns mainGlobals mg):b9 K mg x st:=by
 obtain⟨f,oc,kV,dc,pm,cd,ct,od,an,sl,a,l,c,k⟩:=q;exact .mk' X G a l c k
section
open PySem.AutoSeq1 (wpAny_loadPart')
open PySem.MeetsSeq PySem.MeetsSeq2 PySem.MeetsSeq3
variable {P:Program}{w:World}{A:Around}
end
def frzA(ρ:PSt):PSt:=ρ.map (Option.map fun p=>PV.dat p.d)
section
variable {K:PySem.W.Frag}{A:Addr->Prop}{ρ:PSt}{σ:St}{H H':Hp}{O O':Addr->Prop}
theorem ly{i:Nat}{p:PV}(e:(frzA ρ)[i]?=some (some p)):∃p0,ρ[i]?=some (some p0)/\p=.dat p0.d:=by
 unfold frzA at e;rw [getElem?_map] at e
 cases h:ρ[i]? with
 | none=>rw [h] at e;cases e
 | some o =>
  cases o with
  | none=>rw [h] at e;cases e
  | some p0=>rw [h] at e;cases e;exact⟨p0,rfl,rfl⟩
theorem jy{b:Addr}:¬ Wr (frzA ρ) σ b:=fun ⟨i,p,e,o,_⟩=>by
 obtain⟨p0,_,rfl⟩:=ly e;cases o
theorem Rel.frzA(R:Rel K A ρ σ H):Rel K A (frzA ρ) σ H:=by
 have k:aK (OO A ρ σ) H (OO A (L2.frzA ρ) σ) H:=aK.less fun b z=>z.elim .inl fun z=>(jy z).elim
 refine⟨by unfold L2.frzA;rw [length_map];exact R.len,fun i p e=>?_,fun i j p q v e1 e2 o1=>?_,R.dom,fun b _ w=>jy w⟩
 .obtain⟨p0,e0,rfl⟩:=ly e;obtain⟨v,s,r⟩:=R.get i p0 e0;refine⟨v,s,?_⟩
  have na:∀a,v=.ref a->p0.isOwn=true->¬ OO A (L2.frzA ρ) σ a:=fun a ea oo z=>by
   subst ea
   rcases z with z|z
   .exact R.sep a z ⟨i,p0,e0,oo,s⟩
   .exact jy z
  cases p0 with
  | dat d=>exact FV.keeps k r
  | own ds =>
   obtain⟨a,xs,rfl,g,f⟩:=r;exact .lst (na a rfl rfl) g (f.keeps k)
  | ins c ns ds =>
   obtain⟨a,dx,fs,rfl,g,m,f⟩:=r;exact .obj (na a rfl rfl) g m (f.keeps k)
 .obtain⟨p0,_,rfl⟩:=ly e1;cases o1
theorem FV.flat{v:V}{d:D}(h:FV K O H v d)(f:d.fl=true):FV K O' H' v d:=by
 cases h with
 | non=>exact .non
 | bl b=>exact .bl b
 | int i=>exact .int i
 | str l hl=>exact .str l hl
 | ty _=>cases f
 | scr _=>cases f
 | lst _ _ _=>cases f
 | tup _ _ _=>cases f
 | dic _ _ _ _=>cases f
 | obj _ _ _ _=>cases f
 | exc0 _ _=>cases f
 | exc1 _ _ _ _ _ _=>cases f
inductive Cp (K:PySem.W.Frag) (O:Addr->Prop) (H0 H:Hp):List Addr->List (List D)->Prop
 | nil:Cp K O H0 H [] []
 | cons {a:Addr}{xs:List V}{r:List D}{as:List Addr}{rows:List (List D)}:H a=some (.lst xs)->FVs K O H0 xs r->Cp K O H0 H as rows->Cp K O H0 H (a::as) (r::rows)
theorem Cp.length{H0:Hp}:∀{as:List Addr}{rows:List (List D)},Cp K O H0 H as rows->as.length=rows.length
 | _,_,.nil=>rfl
 | _,_,.cons _ _ t=>by rw [length_cons,length_cons,t.length]
theorem Cp.app{H0:Hp}{a:Addr}{xs:List V}{r:List D}(h1:H a=some (.lst xs))(h2:FVs K O H0 xs r):∀{as:List Addr}{rows:List (List D)},Cp K O H0 H as rows->Cp K O H0 H (as++[a]) (rows++[r])
 | _,_,.nil=>.cons h1 h2 .nil
 | _,_,.cons p q t=>.cons p q (Cp.app h1 h2 t)
theorem Cp.get{H0:Hp}:∀{as:List Addr}{rows:List (List D)}{n:Nat}{r:List D},Cp K O H0 H as rows->rows[n]?=some r->∃a xs,as[n]?=some a/\H a=some (.lst xs)/\FVs K O H0 xs r
 | _,_,n,_,.nil,e=>by simp at e
 | _,_,0,_,.cons p q t,e=>by simp at e;subst e;exact⟨_,_,rfl,p,q⟩
 | _,_,n+1,r,.cons p q t,e=>by
  obtain⟨a,xs,h1,h2,h3⟩:=Cp.get (n:=n) (r:=r) t (by simpa using e);exact⟨a,xs,by simpa using h1,h2,h3⟩
theorem Cp.mono{H0:Hp}:∀{as:List Addr}{rows:List (List D)},(∀a∈as,∀o,H a=some o->H' a=some o)->Cp K O H0 H as rows->Cp K O H0 H' as rows
 | _,_,_,.nil=>.nil
 | _,_,k,.cons p q t=>.cons (k _ mem_cons_self _ p) q (t.mono fun a ha=>k a (mem_cons_of_mem _ ha))
theorem Cp.dom{H0:Hp}:∀{as:List Addr}{rows:List (List D)},Cp K O H0 H as rows->∀a∈as,∃o,H a=some o
 | _,_,.nil,_,h=>nomatch h
 | _,_,.cons p q t,a,h=>by
  rcases mem_cons.mp h with rfl|h
  .exact⟨_,p⟩
  .exact t.dom a h
theorem Cp.put{H0:Hp}{a:Addr}{xs:List V}{r:List D}(h2:FVs K O H0 xs r):∀{as:List Addr}{rows:List (List D)}{n:Nat},as.Nodup->as[n]?=some a->Cp K O H0 H as rows->Cp K O H0 (upd H a (.lst xs)) as (rows.set n r)
 | _,_,n,_,e,.nil=>by simp at e
 | _,_,0,nd,e,.cons p q t=>by
  simp at e;subst e;exact .cons aA h2 (t.mono fun b hb o z=>by rw [aj (fun e=>(nodup_cons.mp nd).1 (by rw [<- e];exact hb))];exact z)
 | _,_,n+1,nd,e,.cons p q t=>by
  rw [getElem?_cons_succ] at e;exact .cons (by rw [aj (fun z=>(nodup_cons.mp nd).1 (by rw [z];exact mem_of_getElem? e))];exact p) q (Cp.put h2 (nodup_cons.mp nd).2 e t)
theorem Cp.fvs{H0:Hp}(g:Gr H0 H)(ho:∀b,O' b->O b\/H0 b=none):∀{as:List Addr}{rows:List (List D)},(∀a∈as,¬ O' a)->Cp K O H0 H as rows->FVs K O' H (as.map V.ref) (rows.map D.lst)
 | _,_,_,.nil=>.nil
 | _,_,k,.cons p q t=>.cons (.lst (k _ mem_cons_self) p (q.keeps fun b o n e=>⟨fun z=>(ho b z).elim n (fun z=>by rw [z] at e;cases e),g b o e⟩)) (t.fvs g ho fun a ha=>k a (mem_cons_of_mem _ ha))
structure Opn (K:PySem.W.Frag) (A:Addr->Prop) (ρ:PSt) (σ:St) (H:Hp) (D:Addr) (as:List Addr) (H1:Hp) (rows:List (List L2.D)):Prop where
 gr:Gr H H1
 hD:H D=none
 nd:as.Nodup
 fr:∀a∈as,H a=none/\a≠D
 eD:H1 D=some (.lst (as.map V.ref))
 cp:Cp K (OO A ρ σ) H H1 as rows
end
section
variable {P:Program}{w:World}{A:Around}{R:Result->Shared->Prop}{I:Addr}{fp wr:List Addr}{n:Nat}{Pv:Nat->Value->Prop}{St:Nat->Heap->Prop}{d:Value}
abbrev dfl(d:Value):List (Str×Value):=[((Str.ofString "default"),d)]
theorem mxn:(toString "max"++toString ".loop":String)="max.loop":=by decide
theorem om(W:Walks P w A.in1 I fp wr n Pv St)(bt:Nat->Nat->Bool)(hcmp:CmpOf P w A.in1 .Gt Pv bt)(B:Addr)(hB:B∉fp):∀(k j:Nat) (z:Shared) (vb:Value) (c:Nat),n=j+1+k->St (j+1) z.heap->Pv (argBest bt j) vb ->
  z.heap.get? B=some { cls:=.type "list",dict:=none,data:=.seq #[vb,vb] c,slots:=#[] } ->
  (∀v h' tk,Pv (argBest bt (n - 1)) v->(∀b o,b∉wr->b≠B->z.heap.get? b=some o->h'.get? b=some o)->R (.ok (.ret v)) { z with heap:=h',toks:=tk }) ->
  codeAny (model P w) A (.builtin "max.loop" ⟨[.ref I,.none,.ref B],dfl d⟩) R z
 | 0,j,z,vb,c,hn,st,pb,hS,hR=>by
  refine codeAny_builtin F.entry_max_loop ?_;rw [Around.under_plainId F.plain_max_loop _];show wpAny _ A.in1 (seqItems? (.ref B) >>= _) _ _ z;refine wpAny_bind (wpAny_seqItems hS rfl ?_);show wpAny _ A.in1 (tryCatch (pyNext (.ref I)) _ >>= _) _ _ z;refine wpAny_bind (wpAny_tryCatch (W.done z _ _ (by rw [hn];exact st) fun h' tk old=>?_));have hS':=old B _ (fun q=>hB (W.sub _ q)) hS;show wpAny _ A.in1 (updateSeq B (fun _=>#[]) >>= _) _ _ _
  refine wpAny_bind (wpAny_updateSeq hS' rfl (wpAny_bind (wpAny_letGo (wpAny_pure ?_))));exact hR vb _ tk (by rw [hn];exact pb) fun b o h1 h2 e=>(Heap.get?_update_other _ _ (Ne.symm h2)).trans (old b o h1 e)
 | k+1,j,z,vb,c,hn,st,pb,hS,hR=>by
  refine codeAny_builtin F.entry_max_loop ?_;rw [Around.under_plainId F.plain_max_loop _];show wpAny _ A.in1 (seqItems? (.ref B) >>= _) _ _ z;refine wpAny_bind (wpAny_seqItems hS rfl ?_);show wpAny _ A.in1 (tryCatch (pyNext (.ref I)) _ >>= _) _ _ z;refine wpAny_bind (wpAny_tryCatch (W.item (j+1) z _ _ (by omega) st fun v h' tk hv st' old=>?_));have hS':=old B _ (fun q=>hB (W.sub _ q)) hS;show wpAny _ A.in1 (tryCatch (holding [v,v] (richCompare .Gt v vb >>= _)) _ >>= _) _ _ _
  refine wpAny_bind (wpAny_tryCatch (wpAny_holding (wpAny_bind (hcmp (j+1) (argBest bt j) v vb _ _ _ hv pb ?_))));refine wpAny_bind (wpAny_holding (wpAny_truthy_bool ?_));refine wpAny_bind (wpAny_letGo (wpAny_pure ?_))
  cases hb:bt (j+1) (argBest bt j) with
  | true =>
   simp only [if_true];refine wpAny_bind (wpAny_updateSeq hS' rfl (wpAny_bind (wpAny_letGo ?_)));rw [mxn];refine wpAny_pure ⟨plainId_quiet F.plain_max_loop _,om W bt hcmp B hB k (j+1) _ v _ (by omega) (W.frame _ _ _ st' fun b hb o e=>(Heap.get?_update_other _ _ (fun q:B=b=>hB (by rw [q];exact hb))).trans e) (by show Pv (if bt (j+1) (argBest bt j) then j+1 else argBest bt j) v;rw [hb];exact hv) (Heap.get?_update_self _ hS' rfl) fun v' h2 t2 p2 o2=>?_⟩
   exact hR v' h2 t2 p2 fun b o h1 h3 e=>o2 b o h1 h3 ((Heap.get?_update_other _ _ (Ne.symm h3)).trans (old b o h1 e))
  | false =>
   simp only [false_eq_true,if_false];refine wpAny_bind (wpAny_letGo ?_);rw [mxn];refine wpAny_pure ⟨plainId_quiet F.plain_max_loop _,om W bt hcmp B hB k (j+1) _ vb c (by omega) st' (by show Pv (if bt (j+1) (argBest bt j) then j+1 else argBest bt j) vb;rw [hb];exact pb) hS' fun v' h2 t2 p2 o2=>?_⟩;exact hR v' h2 t2 p2 fun b o h1 h3 e=>o2 b o h1 h3 (old b o h1 e)
theorem vV(W:Walks P w A.in1 I fp wr n Pv St)(bt:Nat->Nat->Bool)(hcmp:CmpOf P w A.in1 .Gt Pv bt)(B:Addr)(hB:B∉fp){z:Shared}{c:Nat}(st:St 0 z.heap)
  (hS:z.heap.get? B=some { cls:=.type "list",dict:=none,data:=.seq #[] c,slots:=#[] })
  (hR0:n=0->∀h' tk,(∀b o,b∉wr->b≠B->z.heap.get? b=some o->h'.get? b=some o)->R (.ok (.ret d)) { z with heap:=h',toks:=tk })
  (hR:0<n->∀v h' tk,Pv (argBest bt (n - 1)) v->(∀b o,b∉wr->b≠B->z.heap.get? b=some o->h'.get? b=some o)->R (.ok (.ret v)) { z with heap:=h',toks:=tk }) :
  codeAny (model P w) A (.builtin "max.loop" ⟨[.ref I,.none,.ref B],dfl d⟩) R z:=by
 refine codeAny_builtin F.entry_max_loop ?_;rw [Around.under_plainId F.plain_max_loop _];show wpAny _ A.in1 (seqItems? (.ref B) >>= _) _ _ z;refine wpAny_bind (wpAny_seqItems hS rfl ?_);show wpAny _ A.in1 (tryCatch (pyNext (.ref I)) _ >>= _) _ _ z
 by_cases hn:n=0
 .refine wpAny_bind (wpAny_tryCatch (W.done z _ _ (by rw [hn];exact st) fun h' tk old=>?_));show wpAny _ A.in1 (rule _ >>= _) _ _ _;refine wpAny_bind (wpAny_rule (wpAny_pure ?_));exact hR0 hn h' tk fun b o h1 _ e=>old b o h1 e
 .refine wpAny_bind (wpAny_tryCatch (W.item 0 z _ _ (by omega) st fun v h' tk hv st' old=>?_));have hS':=old B _ (fun q=>hB (W.sub _ q)) hS;show wpAny _ A.in1 (updateSeq B (fun _=>#[v,v]) >>= _) _ _ _;refine wpAny_bind (wpAny_updateSeq hS' rfl ?_);rw [mxn];refine wpAny_pure ⟨plainId_quiet F.plain_max_loop _,om W bt hcmp B hB (n - 1) 0 _ v _ (by omega) (W.frame _ _ _ st' fun b hb o e=>(Heap.get?_update_other _ _ (fun q:B=b=>hB (by rw [q];exact hb))).trans e) hv (Heap.get?_update_self _ hS' rfl) fun v' h2 t2 p2 o2=>?_⟩
  exact hR (by omega) v' h2 t2 p2 fun b o h1 h3 e=>o2 b o h1 h3 ((Heap.get?_update_other _ _ (Ne.symm h3)).trans (old b o h1 e))
end
theorem ud(a v:Value):argsOk "max" ⟨[a],dfl v⟩:=by unfold argsOk;kernel_rfl
theorem ue{P:Program}{w:World}{A:Around}{z:Shared}{l:Addr}{xs:Array (Int×Tok)}{d:Value}{Q:Value->Shared->Prop}{E:Value->Shared->Prop}(hh:A.handled=none)(hl:z.heap.IsList l (intItems xs))
  (k0:xs.size=0->∀h' tk,(∀b o,z.heap.get? b=some o->h'.get? b=some o)->Q d { z with heap:=h',toks:=tk })
  (k:0<xs.size->∀v h' tk,(intItems xs)[argBest (fun i j=>decide (numAt xs i > numAt xs j)) (xs.size - 1)]?=some v->(∀b o,z.heap.get? b=some o->h'.get? b=some o)->Q v { z with heap:=h',toks:=tk }) :
  wpAny (model P w) A (call (.builtin "max") [.ref l] (dfl d)) Q E z:=by
 have hsz:(intItems xs).size=xs.size:=by simp [intItems]
 refine kmk_tree F.kind_max F.plain_max F.entry_max (ud _ _) ?_;show wpAny _ A.in1 (Builtin.Builtins.bindParams "max" ["key","default"] 0 ⟨[],dfl d⟩ >>= _) _ _ z;refine wpAny_bind (wpAny_of_eq (show Builtin.Builtins.bindParams "max" ["key","default"] 0 ⟨[],dfl d⟩=pure [none,some d] from rfl) ?_);refine wpAny_bind (wpAny_pure ?_);refine wpAny_bind (iter_intList hl fun s₂ e st hfp hlI=>?_);subst e;refine wpAny_bind (wpAny_newObj_type ?_)
 rw [mxn];have W:=Walks.list (prog:=P) (w:=w) (A:=A.in1) hh _ l hlI (intItems xs)
 refine wpAny_pure ⟨plainId_quiet F.plain_max_loop _,vV W _ (CmpOf.ints_gt (numAt xs) (fun _ _=>intItems_at)) _ (fun hm=>Nat.lt_irrefl _ (hfp _ hm)) (W.frame _ _ _ st fun b _ o e=>Heap.get?_push_of_some _ e) (Heap.get?_push_size _ rfl) (fun e0 h' tk old=>?_) fun e0 v h' tk hv old=>?_⟩
 .exact k0 (by omega) h' tk (old_kept fun b o hb e=>old b o hb (ne_of_lt (Heap.lt_size e)) (Heap.get?_push_of_some _ e))
 .exact k (by omega) v h' tk (by rw [hsz] at hv;exact hv) (old_kept fun b o hb e=>old b o hb (ne_of_lt (Heap.lt_size e)) (Heap.get?_push_of_some _ e))
section
variable {X:Cx}{K:PySem.W.Frag}{te tf:TE}{pa:PA1}{pe:PTE}
def y0(K:PySem.W.Frag)(x d:V)(H:Hp)(Q:VK):Prop:=∃(p:Addr) (ns:List Int),x=.ref p/\SqL K H p (ns.map V.int)/\(ns=[]->Q d H)/\(0<ns.length->∀m:Int,m∈ns->(∀a∈ns,a<=m)->Q (.int m) H)
def BG(K:PySem.W.Frag)(te tf:TE):TE:=fun σ H Q=>te σ H fun x H1=>tf σ H1 fun d H2=>y0 K x d H2 Q
theorem BH(K:PySem.W.Frag)(e:X.K=K)(hc:X.calm=true){pins:List (Addr×Obj)}{s:Shared}{σ:St}{H:Hp}{x d:V}{u v:Value}{Q:VK}(I:Inv X pins σ H s)(rx:cJ x u)(rd:cJ d v)(h:y0 K x d H Q) :
  wpAny (model X.prog X.w) X.A (call (.builtin "max") [u] (dfl v)) (EP X pins σ Q) X.xe s:=by
 subst e;obtain⟨p,ns,rfl,hS,q0,q⟩:=h;cases (show u=Value.ref p from rx);obtain⟨its,rv,pl,hz⟩:=I.list hS;have hi:IntsAre its ns:=fA rv;have hl:=pl.isList;obtain⟨ys,e⟩:=hi.allInts.items;have hns:ns=ys.toList.map (·.1):=by rw [<- hi.numsOf,<- nums_intItems,<- e]
 have hsz:ns.length=ys.size:=by rw [hns,length_map,Array.length_toList]
 rw [e] at hl
 refine ue (by exact I.ok.hd hc) hl (fun h0 h' tk hk=>?_) fun h0 v h' tk hv hk=>?_
 .exact⟨d,H,I.kept (t':=tk) hk,rd,q0 (eq_nil_of_length_eq_zero (by omega))⟩
 .obtain⟨t,rfl⟩:=intItems_at hv;obtain⟨h1,h2⟩:=argBest_gt (numAt ys) (ys.size - 1)
  refine⟨.int _,H,I.kept (t':=tk) hk,⟨t,rfl⟩,q (by omega) _ ?_ fun a ha=>?_⟩
  .rw [hns,numAt_eq];exact getD_mem (by rw [length_map,Array.length_toList];omega)
  .rw [hns] at ha;obtain⟨j,hj,rfl⟩:=mem_getD ha;rw [length_map,Array.length_toList] at hj;rw [<- numAt_eq];exact h2 j (by omega)
theorem za{e f:Expr}{p kp pos:Pos}(K:PySem.W.Frag)(eK:X.K=K)(hc:X.calm=true)(hg:Gl X "max")(hm:X.mg "max"=none)(ha:PA X [e] (ba te dN))(hf:PE X f tf)
  (hs:backTo pos (starEach [e] X.env)=(false,eval e X.env)::backTo pos (starEach [] X.env):=by rfl) (hpl:(backTo pos (starEach [e] X.env)).any (·.1)=false:=by rfl) :
  PE X (.Call (.Name "max" p) [e] [⟨some (Str.ofString "default"),f,kp⟩] pos) (BG K te tf):=by
 intro pins s σ H Q I h;refine wpAny_Call_Name_kw (fO I hg hm boot_max ?_);refine PyProof.Rows.callWith_kw (thn (ha pos pins s σ H (fun vs H1=>match vs with|[x]=>tf σ H1 fun d H2=>y0 K x d H2 Q|_=>False) I h) fun us s1 ⟨vs,H1,I1,r1,q1⟩=>?_) hs hpl
 match vs,r1,q1 with
 | [x],r1,q1 =>
  obtain⟨u,rfl,ru⟩:=gu r1;refine PyProof.Rows.kws_cons (thn (hf pins s1 σ H1 _ I1 q1) fun v s2 ⟨d,H2,I2,rd,q2⟩=>PyProof.Rows.kws_nil ?_);exact BH K eK hc I2 ru rd q2
def BI(pa:PA1)(pe:PTE):PTE:=fun ρ Q=>pa ρ fun x ρ1=>pe ρ1 fun p ρ2=>match cont ρ2 x,p with
 | some (.lst ds),.dat (.int d)=>∃ns:List Int,ds=ns.map .int/\(ns=[]->Q (.dat (.int d)) ρ2)/\(0<ns.length->∀m:Int,m∈ns->(∀a∈ns,a<=m)->Q (.dat (.int m)) ρ2)
 | _,_=>False
theorem zb(ha:LA1 K te pa)(he:LE K tf pe):LE K (BG K te tf) (BI pa pe):=fun A ρ σ H Q Q' R q k =>
 ha A ρ σ H _ _ R q fun v H1 a ρ1 q1 f1 R1 o1=>he A ρ1 σ H1 _ _ R1 q1 fun u H2 p ρ2 q2 f2 o2=>by
  obtain⟨R2,fv⟩:=o2.frz
  split at q2
  .rename_i ds d e2;obtain⟨ns,rfl,q0,q2⟩:=q2;cases (show FV K _ H2 u (.int d) from fv);obtain⟨a1,xs1,rfl,g1,g2⟩:=(R2.cont (o1.keeps f2.keeps) e2).lst;rw [g2.ints] at g1;exact⟨a1,ns,rfl,SqL.of g1,fun e=>k _ H2 _ ρ2 (q0 e) (f1.trans f2) ⟨R2,.int _⟩,fun h m h1 h2=>k _ H2 _ ρ2 (q2 h m h1 h2) (f1.trans f2) ⟨R2,.int _⟩⟩
  .exact q2.elim
end
def Dz(i:Nat)(pe:PTE):PTE:=fun ρ Q=>match ρ[i]? with
 | some (some (.own _))=>pe ρ fun p ρ1=>(match ρ1[i]?,p.d with
  | some (some (.own ds)),.lst es=>ds.length+es.length<=1000000/\Q (.dat .non) (ρ1.set i (some (.own (ds++es))))
  | _,_=>False)
 | _=>False
section
variable {K:PySem.W.Frag}{te:TE}{pe:PTE}
theorem BJ{i:Nat}(h:LE K te pe):LE K (tBM K "list" se (aV i) (ba te dN)) (Dz i pe):=fun A ρ σ H Q Q' R q k=>by
 unfold Dz at q
 split at q
 .rename_i ds0 e0;obtain⟨a0,xs0,s0,g0,f0⟩:=R.ownAt e0;refine⟨_,s0,.inl ⟨rfl,xs0,SqL.of g0⟩,h A ρ σ H _ _ R q fun v H1 p ρ1 q1 f1 o1=>?_⟩;obtain⟨R1,fv⟩:=o1.frz
  split at q1
  .rename_i ds es e1 e2;rw [e2] at fv;obtain⟨a,xs,s,g,f⟩:=R1.ownAt e1;rw [s0] at s;cases s
   cases fv with
   | lst no ez fz =>
    obtain⟨R2,f2⟩:=R1.lstw e1 s0 (f.append fz);exact⟨a0,_,xs,_,rfl,rfl,g,ez,Nat.le_trans (by rw [f.length,fz.length];exact q1.1) (sz _ (Nat.le_refl _)),k _ _ _ _ q1.2 (f1.trans f2) ⟨R2,.non⟩⟩
  .exact q1.elim
 .exact q.elim
end
def apart(A:Addr->Prop)(Da:Addr)(as:List Addr):Addr->Prop:=fun b=>A b\/b=Da\/b∈as
section
variable {K:PySem.W.Frag}{A O O':Addr->Prop}{fx:List (Nat×V)}{R:Addr->Prop}{H0 H0' H H':Hp}{ρ ρ':PSt}{σ:St}{x:Nat}{Da:Addr}{as:List Addr}{rows:List (List D)}
theorem Cp.mv:∀{as:List Addr}{rows:List (List D)},(∀a∈as,∀o,H a=some o->H' a=some o)->aK O H0 O' H0'->Cp K O H0 H as rows->Cp K O' H0' H' as rows
 | _,_,_,_,.nil=>.nil
 | _,_,k,kk,.cons p q t=>.cons (k _ mem_cons_self _ p) (q.keeps kk) (t.mv (fun a ha=>k a (mem_cons_of_mem _ ha)) kk)
structure Opd (K:PySem.W.Frag) (A R:Addr->Prop) (H0:Hp) (ρ:PSt) (σ:St) (H:Hp) (x:Nat) (Da:Addr) (as:List Addr) (rows:List (List D)):Prop where
 sx:σ[x]?=some (some (.ref Da))
 nA:∀a,a=Da\/a∈as->¬ A a
 h0:∀a,a=Da\/a∈as->R a\/H0 a=none
 nd:as.Nodup
 ne:Da∉as
 eD:H Da=some (.lst (as.map V.ref))
 cp:Cp K (OO (apart A Da as) ρ σ) H H as rows
theorem Opd.keep{σ':St}(o:Opd K A R H0 ρ σ H x Da as rows)(hs:σ'[x]?=some (some (.ref Da)))(kk:aK (OO (apart A Da as) ρ σ) H (OO (apart A Da as) ρ' σ') H')(kp:∀a,a=Da\/a∈as->∀u,H a=some u->H' a=some u):Opd K A R H0 ρ' σ' H' x Da as rows :=
 ⟨hs,o.nA,o.h0,o.nd,o.ne,kp _ (.inl rfl) _ o.eD,o.cp.mv (fun a ha u e=>kp a (.inr ha) u e) kk⟩
theorem Opd.fr(o:Opd K A R H0 ρ σ H x Da as rows)(r:Rel K (apart A Da as) ρ σ H)(f:Fr ρ σ H ρ' H'):Opd K A R H0 ρ' σ H' x Da as rows :=
 o.keep o.sx f.keeps fun a ha u e=>f.kp a u (r.sep a (.inr ha)) e
def cl(x:Nat)(ρ:PSt):Option (List (List D))->PSt
 | none=>ρ
 | some rows=>ρ.set x (some (.own (rows.map D.lst)))
theorem uf(x:Nat)(ρ:PSt):cl x ρ none=ρ:=rfl
theorem oq(x:Nat)(ρ:PSt)(rows:List (List D)):cl x ρ (some rows)=ρ.set x (some (.own (rows.map D.lst))):=rfl
def InO(K:PySem.W.Frag)(x:Nat)(fx:List (Nat×V))(A R:Addr->Prop)(H0:Hp)(ρ:PSt)(σ:St)(H:Hp):Option (List (List D))->Prop
 | none=>Rel K A ρ σ H/\ck fx R H0 ρ σ H
 | some rows=>∃Da as,Rel K (apart A Da as) ρ σ H/\ck fx R H0 ρ σ H/\Opd K A R H0 ρ σ H x Da as rows
theorem pW{α:Type}:∀{l:List α}{i:Nat}{v:α},l[i]?=some v->l.set i v=l
 | [],_,_,e=>by simp at e
 | a::l,0,v,e=>by simp at e;rw [e];rfl
 | a::l,i+1,v,e=>by rw [set_cons_succ,pW (by simpa using e)]
theorem InO.cl{m:Option (List (List D))}(h:InO K x fx A R H0 ρ σ H m):Rel K A (L2.cl x ρ m) σ H/\ck fx R H0 (L2.cl x ρ m) σ H:=by
 cases m with
 | none=>exact h
 | some rows =>
  obtain⟨Da,as,r,F,o⟩:=h;have r1:Rel K (eo A Da) ρ σ H:=r.less fun b z=>z.imp id .inl
  have out:Out K A ρ σ (fun _=>none) H (.own (rows.map D.lst)) (.ref Da):=by
   refine⟨Da,as.map V.ref,rfl,o.nA _ (.inl rfl),rfl,o.eD,r1,o.cp.fvs (Gr.refl H) (fun b z=>.inl ?_) fun a ha z=>?_⟩
   .rcases z with (z|z)|z
    .exact .inl (.inl z)
    .exact .inl (.inr (.inl z))
    .exact .inr z
   .rcases z with (z|z)|z
    .exact o.nA a (.inr ha) z
    .exact o.ne (by rw [<- z];exact ha)
    .exact r.sep a (.inr (.inr ha)) z
  have pt:=(out.put (i:=x)).1;rw [pW o.sx] at pt;refine⟨pt,F.kp,F.dm,fun b w=>?_,F.fx⟩;obtain⟨j,p,e,ow,s⟩:=w
  by_cases z:x=j
  .subst z;rw [o.sx] at s;cases s;exact o.h0 _ (.inl rfl)
  .have e:(ρ.set x (some (.own (rows.map D.lst))))[j]?=some (some p):=e;rw [getElem?_set_ne z] at e;exact F.ow b ⟨j,p,e,ow,s⟩
theorem Rel.writeA(r:Rel K A ρ σ H){a:Addr}{o:HO}(ha:A a):Rel K A ρ σ (upd H a o):=by
 have k:aK (OO A ρ σ) H (OO A ρ σ) (upd H a o):=fun b u n e=>⟨n,by rw [aj (fun z=>n (.inl (by rw [z];exact ha)))];exact e⟩
 refine⟨r.len,fun i q e=>?_,r.dj,fun b z=>?_,r.sep⟩
 .obtain⟨v,s,rr⟩:=r.get i q e;refine⟨v,s,rr.keeps k fun ow b eb=>?_⟩;subst eb;rw [aj];intro z;exact r.sep a ha ⟨i,q,e,ow,by rw [<- z];exact s⟩
 .by_cases z':b=a
  .rw [z',aA];exact nofun
  .rw [aj z'];exact r.dom b z
theorem Rel.grB(r:Rel K A ρ σ H)(g:Gr H H'){B:Addr->Prop}(hB:∀b,B b->H b=none/\H' b≠none):Rel K (fun b=>A b\/B b) ρ σ H':=by
 have k:aK (OO A ρ σ) H (OO (fun b=>A b\/B b) ρ σ) H':=fun b u n e=>by
  refine⟨fun z=>?_,g _ _ e⟩
  rcases z with (z|z)|z
  .exact n (.inl z)
  .rw [(hB b z).1] at e;cases e
  .exact n (.inr z)
 refine⟨r.len,fun i q e=>?_,r.dj,fun b z=>?_,fun b z w=>?_⟩
 .obtain⟨v,s,rr⟩:=r.get i q e;refine⟨v,s,rr.keeps k fun ow a ea=>?_⟩;obtain⟨a',u,e1,e2⟩:=rr.ref ow;rw [ea] at e1;cases e1;rw [e2];exact g _ _ e2
 .rcases z with z|z
  .exact (g.fr (ρ:=ρ) (σ:=σ)).dm b (r.dom b z)
  .exact (hB b z).2
 .rcases z with z|z
  .exact r.sep b z w
  .exact r.wr w (hB b z).1
theorem lz{i j:Nat}{p:PV}(e:(ρ.set i none)[j]?=some (some p)):j≠i/\ρ[j]?=some (some p):=by
 by_cases z:i=j
 .subst z
  by_cases h:i<ρ.length
  .rw [getElem?_set_self h] at e;cases e
  .rw [getElem?_eq_none (by rw [length_set];omega)] at e;cases e
 .rw [getElem?_set_ne z] at e;exact⟨fun q=>z q.symm,e⟩
theorem pX{v:Option V}{b:Addr}(w:Wr (ρ.set x none) (σ.set x v) b):Wr ρ σ b:=by
 obtain⟨j,p,e,o,s⟩:=w;obtain⟨n,e⟩:=lz e;rw [getElem?_set_ne (Ne.symm n)] at s;exact⟨j,p,e,o,s⟩
theorem Rel.clr{v:Option V}(r:Rel K A ρ σ H):Rel K A (ρ.set x none) (σ.set x v) H:=by
 have k:aK (OO A ρ σ) H (OO A (ρ.set x none) (σ.set x v)) H:=aK.less fun b z=>z.imp id pX
 refine⟨by rw [length_set,length_set];exact r.len,fun j p e=>?_,fun i j p q u e1 e2 o1 o2 s1 s2=>?_,r.dom,fun b z w=>r.sep b z (pX w)⟩
 .obtain⟨n,e⟩:=lz e;obtain⟨u,s,rr⟩:=r.get j p e;exact⟨u,by rw [getElem?_set_ne (Ne.symm n)];exact s,rr.keeps k fun _ _ _=>rfl⟩
 .obtain⟨n1,e1⟩:=lz e1;obtain⟨n2,e2⟩:=lz e2;rw [getElem?_set_ne (Ne.symm n1)] at s1;rw [getElem?_set_ne (Ne.symm n2)] at s2;exact r.dj i j p q u e1 e2 o1 o2 s1 s2
theorem Opn.opd{H1:Hp}(o:Opn K A ρ σ H Da as H1 rows)(r:Rel K A ρ σ H)(F:ck fx R H0 ρ σ H)(hx:x<σ.length):Rel K (apart A Da as) (ρ.set x none) (σ.set x (some (.ref Da))) H1/\Opd K A R H0 (ρ.set x none) (σ.set x (some (.ref Da))) H1 x Da as rows:=by
 have nn:∀a,a=Da\/a∈as->H a=none:=fun a z=>z.elim (fun z=>by rw [z];exact o.hD) fun z=>(o.fr a z).1
 have r1:Rel K (apart A Da as) ρ σ H1:=r.grB o.gr (B:=fun b=>b=Da\/b∈as) fun b z=>⟨nn b z,by
  rcases z with z|z
  .rw [z,o.eD];exact nofun
  .obtain⟨u,e⟩:=o.cp.dom b z;rw [e];exact nofun⟩
 refine⟨r1.clr,getElem?_set_self hx,fun a z w=>r.dom a w (nn a z),fun a z=>.inr ?_,o.nd,fun z=>(o.fr _ z).2 rfl,o.eD,o.cp.mv (fun _ _ _ e=>e) fun b u n e=>⟨fun z=>?_,o.gr b u e⟩⟩
 .cases e:H0 a with
  | none=>rfl
  | some u=>exact absurd (nn a z) (F.dm a (by rw [e];exact nofun))
 .rcases z with z|z
  .rcases z with z|z
   .exact n (.inl z)
   .rw [nn b z] at e;cases e
  .exact n (.inr (pX z))
end
structure PEO where
 nx:PSt->Option (List (List D))->Prop
 rt:PV->PSt->Prop
abbrev POT:=PEO->PSt->Option (List (List D))->Prop
def LSO(K:PySem.W.Frag)(fs:List Nat)(x:Nat)(ts:TS)(po:POT):Prop:=∀(fx:List (Nat×V)) (A R:Addr->Prop) (H0:Hp) (ρ:PSt) (σ:St) (H:Hp) (m:Option (List (List D))) (D:PEO) (D':rD),fx.map Prod.fst=fs->InO K x fx A R H0 ρ σ H m->po D ρ m ->
 (∀ρ' σ' H' m',D.nx ρ' m'->InO K x fx A R H0 ρ' σ' H' m'->D'.nx σ' H') ->
 (∀v p ρ' σ' H',D.rt p ρ'->Out K A ρ' σ' H0 H' p v->ck fx R H0 ρ' σ' H'->D'.rt v H')->ts D' σ H
def ou(a b:POT):POT:=fun D ρ m=>a { D with nx:=b D } ρ m
def zL(p:PTS):POT:=fun D ρ m=>p ⟨fun ρ'=>D.nx ρ' m,fun _ _=>False,fun _=>False,fun _=>False⟩ ρ
def Ci(x:Nat)(p:PTS):POT:=fun D ρ m=>p ⟨fun ρ'=>D.nx ρ' none,D.rt,fun _=>False,fun _=>False⟩ (cl x ρ m)
section
variable {K:PySem.W.Frag}{fs:List Nat}{x:Nat}{ta tb ts:TS}{pa pb:POT}{tt:TT}{pt:PTT}{p:PTS}{te ti tj:TE}{pe pi pj:PTE}
theorem ib(ha:LSO K fs x ta pa)(hb:LSO K fs x tb pb):LSO K fs x (zy ta tb) (ou pa pb):=fun fx A R H0 ρ σ H m D D' hf r q k1 k2 =>
 ha fx A R H0 ρ σ H m _ _ hf r q (fun ρ1 σ1 H1 m1 q1 r1=>hb fx A R H0 ρ1 σ1 H1 m1 _ _ hf r1 q1 k1 k2) k2
theorem BK(h:LS K fs ts p):LSO K fs x ts (Ci x p):=fun fx A R H0 ρ σ H m D D' hf r q k1 k2 =>
 h fx A R H0 _ σ H _ D' hf r.cl.1 r.cl.2 q (fun ρ' σ' H' q' r' F'=>k1 ρ' σ' H' none q' ⟨r',F'⟩) k2 (fun _ _ _ z=>(z:False).elim) (fun _ _ _ z=>(z:False).elim)
theorem mM(h:LS K fs ts p)(h':LS K (x::fs) ts p):LSO K fs x ts (zL p):=fun fx A R H0 ρ σ H m D D' hf r q k1 k2=>by
 cases m with
 | none=>exact h fx A R H0 ρ σ H _ D' hf r.1 r.2 q (fun ρ' σ' H' q' r' F'=>k1 ρ' σ' H' none q' ⟨r',F'⟩) (fun _ _ _ _ _ z=>(z:False).elim) (fun _ _ _ z=>(z:False).elim) (fun _ _ _ z=>(z:False).elim)
 | some rows =>
  obtain⟨Da,as,r,F,o⟩:=r
  have st:ck ((x,V.ref Da)::fx) (Wr ρ σ) H ρ σ H:=ck.start fun p hp=>by
   rcases mem_cons.mp hp with rfl|hp
   .exact o.sx
   .exact F.fx p hp
  refine h' ((x,V.ref Da)::fx) (apart A Da as) (Wr ρ σ) H ρ σ H _ D' (by rw [map_cons,hf]) r st q (fun ρ' σ' H' q' r' F'=>?_) (fun _ _ _ _ _ z=>(z:False).elim) (fun _ _ _ z=>(z:False).elim) (fun _ _ _ z=>(z:False).elim);refine k1 ρ' σ' H' (some rows) q' ⟨Da,as,r',F.trans F' fun p hp=>F'.fx p (mem_cons_of_mem _ hp),o.keep (F'.fx _ mem_cons_self) F'.keeps fun a ha u e=>F'.kp a u (r.sep a (.inr ha)) e⟩
def LOp(K:PySem.W.Frag)(te:TE)(po:PSt->(List (List D)->Prop)->Prop):Prop:=∀(A:Addr->Prop) (ρ:PSt) (σ:St) (H:Hp) (Q:List (List D)->Prop) (Q':VK),Rel K A ρ σ H->po ρ Q->(∀Da as H1 rows,Q rows->Opn K A ρ σ H Da as H1 rows->Q' (.ref Da) H1)->te σ H Q'
def BL(x:Nat)(op:PSt->(List (List D)->Prop)->Prop)(po:POT):PTS:=fun D ρ=>x<ρ.length/\op ρ fun rows=>po ⟨fun ρ' m=>D.nx (cl x ρ' m),D.rt⟩ (ρ.set x none) (some rows)
theorem BM{op:PSt->(List (List D)->Prop)->Prop}{tr:TS}{po:POT}(hx:fs.contains x=false)(h:LOp K te op)(hr:LSO K fs x tr po):LS K fs (zy (wv te (b3 x)) tr) (BL x op po):=fun fx A R H0 ρ σ H D D' hf r F q k1 k2 k3 k4=>by
 obtain⟨hxl,q⟩:=q;have hxs:x<σ.length:=by rw [<- r.len];exact hxl
 refine h A ρ σ H _ _ r q fun Da as H1 rows q1 o=>?_;obtain⟨r1,od⟩:=o.opd r F hxs
 have F1:ck fx R H0 (ρ.set x none) (σ.set x (some (.ref Da))) H1:=by
  have F0:=F.fr (o.gr.fr (ρ:=ρ) (σ:=σ));refine⟨F0.kp,F0.dm,fun b w=>F0.ow b (pX w),fun p hp=>?_⟩
  have:p.1≠x:=fun z=>by
   have h1:x∈fs:=by rw [<- hf,<- z];exact mem_map_of_mem hp
   rw [contains_iff_mem.mpr h1] at hx;cases hx
  rw [getElem?_set_ne (Ne.symm this)];exact F0.fx p hp
 exact hr fx A R H0 _ _ H1 (some rows) _ _ hf ⟨Da,as,r1,F1,od⟩ q1 (fun ρ' σ' H' m' q' r'=>k1 _ σ' H' q' r'.cl.1 r'.cl.2) k2
end
section
variable {K:PySem.W.Frag}{A:Addr->Prop}{fx:List (Nat×V)}{R:Addr->Prop}{H0 H:Hp}{ρ:PSt}{σ:St}
def mvd(ρ:PSt)(g r:Nat)(ds:List D):PSt:=(ρ.set r (some (.own ds))).set g none
theorem wV(ρ:PSt)(g r:Nat)(ds:List D):mvd ρ g r ds=(ρ.set r (some (.own ds))).set g none:=rfl
end
section
variable {X:Cx}{K:PySem.W.Frag}
def tBI(t:TE):TT:=fun σ H Q=>t σ H fun x H1=>∃i,x=.int i/\Q (i != 0) H1
theorem BN{e:Expr}{t:TE}(h:PE X e t)(he:∀whole,isTrue e X.env whole=(do let v <- whole;standAt e.pos;holding [v] (truthy v)):=by intro _;rfl):PT X e (tBI t):=by
 intro pins s σ H Q I hw;refine isTrue_plain (thn (h pins s σ H _ I hw) fun v s1 ⟨x,H1,I1,r1,q1⟩=>?_) (he _);obtain⟨d,rfl,q⟩:=q1;obtain⟨t,rfl⟩:=r1;exact truthy_int ⟨H1,I1,q⟩
def pBI(pe:PTE):PTT:=fun ρ Q=>pe ρ fun p ρ1=>match p with
 | .dat (.int i)=>Q (i != 0) ρ1
 | _=>False
theorem DA{te:TE}{pe:PTE}(h:LE K te pe):LT K (tBI te) (pBI pe):=fun A ρ σ H Q Q' R q k=>h A ρ σ H _ _ R q fun v H1 p ρ1 q1 f1 o1=>by
 split at q1
 .rename_i b;obtain⟨R1,f⟩:=o1;cases f;exact⟨b,rfl,k _ H1 ρ1 q1 f1 R1⟩
 .exact q1.elim
def BO(pe:PTE):PTE:=fun ρ Q=>pe (frzA ρ) fun p _=>match p with
 | .dat d=>d.fl=true/\Q (.dat d) ρ
 | _=>False
theorem zc{te:TE}{pe:PTE}(h:LE K te pe):LE K te (BO pe):=fun A ρ σ H Q Q' R q k=>h A _ σ H _ _ R.frzA q fun v H1 p ρ1 q1 f1 o1=>by
 split at q1
 .rename_i d;obtain⟨hf,q1⟩:=q1;have g:Gr H H1:=fun b o e=>f1.kp b o jy e;exact k v H1 _ ρ q1 g.fr ⟨R.gr g,FV.flat o1.2 hf⟩
 .exact q1.elim
end
section
variable {K:PySem.W.Frag}{fx:List (Nat×V)}{A R R1:Addr->Prop}{H0 H H' H1:Hp}{ρ ρ' ρ1:PSt}{σ σ':St}{x:Nat}
theorem InO.gr{m:Option (List (List D))}(h:InO K x fx A R H0 ρ σ H m)(g:Gr H H'):InO K x fx A R H0 ρ σ H' m:=by
 cases m with
 | none=>exact⟨h.1.gr g,h.2.fr g.fr⟩
 | some rows =>
  obtain⟨Da,as,r,F,o⟩:=h;exact⟨Da,as,r.gr g,F.fr g.fr,o.fr r g.fr⟩
def BP(x:Nat)(pe:PTE)(ρ:PSt)(m:Option (List (List D)))(Q:D->Prop):Prop:=pe (frzA (cl x ρ m)) fun p _=>match p with
 | .dat d=>d.fl=true/\Q d
 | _=>False
theorem InO.look{m:Option (List (List D))}{te:TE}{pe:PTE}{Q:D->Prop}{Q':VK}(h:InO K x fx A R H0 ρ σ H m)(he:LE K te pe)(q:BP x pe ρ m Q)(k:∀v H' d,Q d->Gr H H'->(∀O H'',FV K O H'' v d)->Q' v H'):te σ H Q' :=
 he A _ σ H _ _ h.cl.1.frzA q fun v H1 p ρ1 q1 f1 o1=>by
  split at q1
  .rename_i d;exact k v H1 d q1.2 (fun b o e=>f1.kp b o jy e) fun O H''=>FV.flat o1.2 q1.1
  .exact q1.elim
theorem InO.trans{Da:Addr}{as:List Addr}{rows rows':List (List D)}(F1:ck fx R H0 ρ1 σ H1)(o1:Opd K A R H0 ρ1 σ H1 x Da as rows)(h:InO K x fx A (fun b=>Wr ρ1 σ b\/b=Da\/b∈as) H1 ρ' σ' H' (some rows')):InO K x fx A R H0 ρ' σ' H' (some rows'):=by
 obtain⟨Da',as',r,F,o⟩:=h
 have up:∀b,(Wr ρ1 σ b\/b=Da\/b∈as)\/H1 b=none->R b\/H0 b=none:=fun b z=>by
  rcases z with (z|z)|z
  .exact F1.ow b z
  .exact o1.h0 b z
  .refine .inr ?_
   cases e:H0 b with
   | none=>rfl
   | some u=>exact absurd z (F1.dm b (by rw [e];exact nofun))
 exact⟨Da',as',r,⟨fun b u n e=>F.kp b u (fun z=>(up b (.inl z)).elim n fun z=>by rw [z] at e;cases e) (F1.kp b u n e),fun b z=>F.dm b (F1.dm b z),fun b w=>up b (F.ow b w),F.fx⟩,o.sx,o.nA,fun a z=>up a (o.h0 a z),o.nd,o.ne,o.eD,o.cp⟩
end
def wW(x:Nat)(pe pi pj:PTE):POT:=fun D ρ m=>match m with
 | none=>False
 | some rows=>BP x pe ρ (some rows) fun v=>pi ρ fun vi ρ2=>(match vi with
  | .dat (.int i)=>∃n row,ixN rows.length i=some n/\rows[n]?=some row/\pj ρ2 fun vj ρ3=>(match vj with
   | .dat (.int j)=>∃l,ixN row.length j=some l/\D.nx ρ3 (some (rows.set n (row.set l v)))
   | _=>False)
  | _=>False)
def BQ(pi:PTI)(g:PTG)(pb:POT):POT:=fun D ρ m=>match m with
 | none=>False
 | some rows=>pi ρ fun n it ρ1=>∃I:Nat->PSt->List (List L2.D)->Prop,I 0 ρ1 rows/\(∀k ρ rows d,k<n->d=it k->I k ρ rows->g (.dat d) ρ fun ρ2=>pb ⟨fun ρ' m'=>(match m' with|some rows'=>I (k+1) ρ' rows'|none=>False),D.rt⟩ ρ2 (some rows))/\∀ρ rows,I n ρ rows->D.nx ρ (some rows)
def ug(pt:PTT)(pb:POT):POT:=fun D ρ m=>match m with
 | none=>False
 | some rows=>∃I:Nat->PSt->List (List L2.D)->Prop,(∃k,I k ρ rows)/\∀k ρ rows,I k ρ rows->pt ρ fun b ρ1=>fN b (pb ⟨fun ρ' m'=>(match m' with|some rows'=>∃k',k'<k/\I k' ρ' rows'|none=>False),D.rt⟩ ρ1 (some rows)) (D.nx ρ1 (some rows))
section
variable {K:PySem.W.Frag}{fs:List Nat}{x y:Nat}{ta tb ts:TS}{pb:POT}{tt:TT}{pt:PTT}{te tf ti tj:TE}{pe pf pi pj:PTE}{wi:TI}{ppi:PTI}{g:TG}{pg:PTG}
theorem vW(he:LE K te pe)(hi:LE K ti pi)(hj:LE K tj pj):LSO K fs x (wv te (Co (tOp (nv K) (aV x) ti) tj xL)) (wW x pe pi pj):=fun fx A R H0 ρ σ H m D D' hf r q k1 k2=>by
 cases m with
 | none=>exact q.elim
 | some rows =>
  refine r.look he q fun v H1 d q1 g1 fvd=>?_;obtain⟨Da,as,r1,F,o⟩:=r.gr g1;refine⟨.ref Da,o.sx,hi _ ρ σ H1 _ _ r1 q1 fun vi H2 p2 ρ2 q2 f2 o2=>?_⟩
  split at q2
  .rename_i i;obtain⟨n,row,hn,hrow,q2⟩:=q2;obtain⟨r2,e2⟩:=o2;cases e2;have od2:=o.fr r1 f2;obtain⟨a,xs,ha,hxs,fxs⟩:=od2.cp.get hrow;have hl:(as.map V.ref).length=rows.length:=by rw [length_map,od2.cp.length]
   refine .inl ⟨Da,as.map V.ref,i,.ref a,rfl,rfl,SqL.of od2.eD,?_,hj _ ρ2 σ H2 _ _ r2 q2 fun vj H3 p3 ρ3 q3 f3 o3=>?_⟩
   .unfold atI;rw [hl,hn];show (as.map V.ref)[n]?=_;rw [getElem?_map,ha];rfl
   .split at q3
    .rename_i j;obtain⟨l,hm,q3⟩:=q3;obtain⟨r3,e3⟩:=o3;cases e3;have od3:=od2.fr r2 f3;obtain⟨a',xs,ha',hxs,fxs⟩:=od3.cp.get hrow;rw [ha] at ha';cases ha';have hin:a∈as:=mem_of_getElem? ha;have hAa:apart A Da as a:=.inr (.inr hin);have kk:aK (OO (apart A Da as) ρ3 σ) H3 (OO (apart A Da as) ρ3 σ) (upd H3 a (.lst (xs.set l v))):=fun b u n e=>⟨n,by rw [aj (fun z=>n (.inl (by rw [z];exact hAa)))];exact e⟩
     have F3:=(F.fr f2).fr f3
     refine⟨a,xs,j,l,rfl,rfl,hxs,by rw [fxs.length];exact hm,k1 ρ3 σ _ _ q3 ⟨Da,as,r3.writeA hAa,⟨fun b u n e=>?_,fun b z=>?_,F3.ow,F3.fx⟩,⟨od3.sx,od3.nA,od3.h0,od3.nd,od3.ne,?_,?_⟩⟩⟩
     .rw [aj (fun z=>(od3.h0 a (.inr hin)).elim (fun h=>n (by rw [z];exact h)) fun h=>by rw [z,h] at e;cases e)];exact F3.kp b u n e
     .by_cases z':b=a
      .rw [z',aA];exact nofun
      .rw [aj z'];exact F3.dm b z
     .rw [aj (fun z=>od3.ne (by rw [z];exact hin))];exact od3.eD
     .exact Cp.put (FVs.set (fvd _ _) l (fxs.keeps kk)) od3.nd ha (od3.cp.mv (fun _ _ _ e=>e) kk)
    .exact q3.elim
  .exact q2.elim
theorem uh(ht:LT K tt pt)(hb:LSO K fs x tb pb):LSO K fs x (rG tt tb) (ug pt pb):=fun fx A R H0 ρ σ H m D D' hf r q k1 k2=>by
 cases m with
 | none=>exact q.elim
 | some rows =>
  obtain⟨I,⟨m0,i0⟩,turn⟩:=q;refine⟨fun m σ' H'=>∃ρ' rows',I m ρ' rows'/\InO K x fx A R H0 ρ' σ' H' (some rows'),⟨m0,ρ,rows,i0,r⟩,fun m σ' H' ⟨ρ',rows',iv,r'⟩=>?_⟩;obtain⟨Da,as,r1,F,o⟩:=r';refine ht _ ρ' σ' H' _ _ r1 (turn m ρ' rows' iv) fun b H1 ρ1 q1 f1 r2=>?_;have in1:InO K x fx A R H0 ρ1 σ' H1 (some rows'):=⟨Da,as,r2,F.fr f1,o.fr r1 f1⟩
  cases b with
  | true =>
   refine⟨fun σ'' H''=>∃ρ'' rows'' m',m'<m/\I m' ρ'' rows''/\InO K x fx A R H0 ρ'' σ'' H'' (some rows''),fun σ'' H'' ⟨ρ'',rows'',m',h1,h2⟩=>⟨m',h1,ρ'',rows'',h2⟩,?_⟩;refine hb fx A R H0 ρ1 σ' H1 (some rows') _ _ hf in1 q1 (fun ρ3 σ3 H3 m3 q3 r3=>?_) k2
   cases m3 with
   | none=>exact (show False from q3).elim
   | some rows3=>obtain⟨m',h1,h2⟩:=q3;exact⟨ρ3,rows3,m',h1,h2,r3⟩
  | false=>exact k1 ρ1 σ' H1 (some rows') q1 in1
theorem zd(hi:LI K wi ppi)(hg:LGd K (x::fs) g pg)(hb:LSO K fs x tb pb):LSO K fs x (B8 wi g tb) (BQ ppi pg pb):=fun fx A R H0 ρ σ H m D D' hf r q k1 k2=>by
 cases m with
 | none=>exact q.elim
 | some rows =>
  obtain⟨Da,as,r,F,o⟩:=r;refine hi (apart A Da as) ρ σ H _ _ r q fun J H1 n it ρ1 q1 f1 r1 W=>?_;obtain⟨I,i0,turn,after⟩:=q1;have F1:=F.fr f1;have o1:=o.fr r f1;have st:InO K x fx A (fun b=>Wr ρ1 σ b\/b=Da\/b∈as) H1 ρ1 σ H1 (some rows):=⟨Da,as,r1,⟨fun _ _ _ h=>h,fun _ h=>h,fun _ h=>.inl (.inl h),F1.fx⟩,o1.sx,o1.nA,fun a z=>.inl (.inr z),o1.nd,o1.ne,o1.eD,o1.cp⟩
  refine⟨fun i m σ' H'=>i+m=n/\∃ρ' rows',I i ρ' rows'/\InO K x fx A (fun b=>Wr ρ1 σ b\/b=Da\/b∈as) H1 ρ' σ' H' (some rows'),⟨n,Nat.zero_add n,ρ1,rows,i0,st⟩,fun i m σ' H' ⟨him,ρ',rows',iv,in'⟩=>?_⟩;have in'':=in'
  obtain⟨Da',as',r',F',o'⟩:=in''
  have hR:∀b,(Wr ρ1 σ b\/b=Da\/b∈as)->OO (apart A Da as) ρ1 σ b:=fun b z=>z.elim .inr fun z=>.inl (.inr z)
  have keep:aK (OO (apart A Da as) ρ1 σ) H1 (OO (apart A Da' as') ρ' σ') H':=fun b u nb e=>by
   have nn:¬ (Wr ρ1 σ b\/b=Da\/b∈as):=fun z=>nb (hR b z);have no:∀{P:Prop},(P\/H1 b=none)->(P->Wr ρ1 σ b\/b=Da\/b∈as)->False:=fun {P} z h=>z.elim (fun z=>nn (h z)) fun z=>by rw [z] at e;cases e
   refine⟨fun z=>?_,F'.kp b u nn e⟩
   rcases z with (z|z)|z
   .exact nb (.inl (.inl z))
   .exact no (o'.h0 b z) id
   .exact no (F'.ow b z) id
  obtain⟨go,stop⟩:=W _ H' keep r'.dom2
  by_cases hk:i<n
  .obtain⟨g1,g2⟩:=go i hk;refine .inr ⟨g1,fun σ'' H''=>∃ρ'' rows'',I (i+1) ρ'' rows''/\InO K x fx A (fun b=>Wr ρ1 σ b\/b=Da\/b∈as) H1 ρ'' σ'' H'' (some rows''),fun σ'' H'' z=>⟨m - 1,by omega,by omega,z⟩,fun v H'' y=>?_⟩;obtain⟨gr,fv⟩:=g2 v H'' y
   have F2:ck ((x,V.ref Da')::fx) (fun b=>Wr ρ1 σ b\/b=Da\/b∈as) H1 ρ' σ' H'':=⟨(F'.fr gr.fr).kp,(F'.fr gr.fr).dm,(F'.fr gr.fr).ow,fun p hp=>by
    rcases mem_cons.mp hp with rfl|hp
    .exact o'.sx
    .exact F'.fx p hp⟩
   refine hg ((x,V.ref Da')::fx) (apart A Da' as') _ H1 ρ' σ' H'' _ v _ _ (by rw [map_cons,hf]) F2 (r'.gr gr) fv (turn i ρ' rows' _ hk rfl iv) fun ρ2 σ2 q2 r2 F3 w2=>?_;have o2:Opd K A (fun b=>Wr ρ1 σ b\/b=Da\/b∈as) H1 ρ2 σ2 H'' x Da' as' rows':=(o'.fr r' gr.fr).keep (F3.fx _ mem_cons_self) (aK.less fun b z=>z.imp id (w2 b)) fun _ _ _ e=>e
   refine hb fx A _ H1 ρ2 σ2 H'' (some rows') _ _ hf ⟨Da',as',r2,⟨F3.kp,F3.dm,F3.ow,fun p hp=>F3.fx p (mem_cons_of_mem _ hp)⟩,o2⟩ q2 (fun ρ3 σ3 H3 m3 q3 in3=>?_) (fun v p ρ3 σ3 H3 q3 o3 F3=>?_)
   .cases m3 with
    | none=>exact (show False from q3).elim
    | some rows3=>exact⟨ρ3,rows3,q3,in3⟩
   .refine k2 v p ρ3 σ3 H3 q3 (o3.h0 F1.dm) ?_
    have up:∀b,(Wr ρ1 σ b\/b=Da\/b∈as)\/H1 b=none->R b\/H0 b=none:=fun b z=>by
     rcases z with (z|z)|z
     .exact F1.ow b z
     .exact o1.h0 b z
     .refine .inr ?_
      cases e:H0 b with
      | none=>rfl
      | some u=>exact absurd z (F1.dm b (by rw [e];exact nofun))
    exact⟨fun b u n e=>F3.kp b u (fun z=>(up b (.inl z)).elim n fun z=>by rw [z] at e;cases e) (F1.kp b u n e),fun b z=>F3.dm b (F1.dm b z),fun b w=>up b (F3.ow b w),F3.fx⟩
  .have e:i=n:=by omega
   subst e;exact .inl ⟨stop,k1 ρ' σ' H' (some rows') (after ρ' rows' iv) (InO.trans F1 o1 in')⟩
end
def wX(c:FX)(pa:PTA)(pr:PTS)(ph:PTH):PTS:=fun D ρ=>pa ρ fun as ρ1=>match avD as with
 | some ds=>c ds (fun _=>pr D ρ1) (fun d=>ph d D ρ1)
 | none=>False
section
variable {K:PySem.W.Frag}{fs:List Nat}{ta:TA}{pa:PTA}{th:THd}{ph:PTH}{c:FX}{tr:TS}{pr:PTS}
theorem ze(ha:LAs K ta pa)(hr:LS K fs tr pr)(hh:LH K fs th ph):LS K fs (D5 (fun J=>zy (xu (tT (spX K c) J ta)) tr) th) (wX c pa pr ph):=fun fx A R H0 ρ σ H D D' hf r F q k1 k2 k3 k4=>by
 refine⟨fun σ' v dd H'=>∃ρ1 ea d,v=.ref ea/\σ'=σ/\Rel K A ρ1 σ H'/\ck fx R H0 ρ1 σ H'/\XR K (OO A ρ1 σ) H' ea dd d/\ph d D ρ1,?_,fun σ' ea dd H' ⟨ρ1,ea',d,ev,es,r1,F1,x1,q1⟩=>?_⟩
 .refine ha A ρ σ H _ _ r q fun vs H1 as ρ1 q1 f1 R1 o1=>?_
  split at q1
  .rename_i ds e;exact⟨OO A ρ1 σ,ds,_,_,R1.dom2,o1.avD e,q1,fun r qr v H' g ov=>hr fx A R H0 ρ1 σ H' D D' hf (ov.out R1 g).frz.1 ((F.fr f1).fr g.fr) qr k1 k2 k3 k4,fun d qd ea dd H' g n x=>⟨ρ1,ea,d,rfl,rfl,R1.gr g,(F.fr f1).fr g.fr,x,qd⟩⟩
  .exact q1.elim
 .cases ev;subst es;obtain⟨c,ns,ds,rfl,hea,fv⟩:=x1;exact⟨_,hea,hh fx A R H0 ρ1 σ' H' D D' ea dd c ns ds hf r1 F1 hea fv q1 k1 k2 k3 k4⟩
end
theorem ic{m i:Nat}(hm:m<4096)(h:m.testBit i=true):2^i<=m/\∀j,(m - 2^i).testBit j=(m.testBit j && decide (j≠i)):=by
 have ge:∀s:Nat,s.testBit i=true->2^i<=s:=fun s hs=>by
  rcases lt_or_ge s (2^i) with z|z
  .rw [testBit_lt_two_pow z] at hs;cases hs
  .exact z
 refine⟨ge m h,fun j=>?_⟩;obtain⟨q,s,hs,e⟩:∃q s,s<2^(i+1)/\m=2^(i+1)*q+s:=⟨m / 2^(i+1),m % 2^(i+1),mod_lt _ (pow_pos (by decide)),(div_add_mod m (2^(i+1))).symm⟩
 subst e
 have hsb:s.testBit i=true:=by
  rw [testBit_two_pow_mul_add _ hs,if_pos (by omega)] at h;exact h
 have h1:=ge s hsb;obtain⟨r,rfl⟩:∃r,s=2^i+r:=⟨s - 2^i,by omega⟩
 have hp:2^(i+1)=2^i+2^i:=by rw [pow_succ];omega
 have hr:r<2^i:=by omega
 rw [show 2^(i+1)*q+(2^i+r) - 2^i=2^(i+1)*q+r by omega,testBit_two_pow_mul_add _ (show r<2^(i+1) by omega),testBit_two_pow_mul_add _ hs]
 by_cases c:j<i+1
 .rw [if_pos c,if_pos c]
  rcases lt_or_ge j i with z|z
  .rw [testBit_two_pow_add_gt z];simp;omega
  .have:j=i:=by omega
   subst this;rw [testBit_lt_two_pow hr];simp
 .rw [if_neg c,if_neg c];simp;omega
theorem ja:∀{M:Nat}{l:List Nat},l.Nodup->(∀x∈l,x<M)->l.length<=M
 | 0,l,_,h=>by
  cases l with
  | nil=>exact Nat.le_refl _
  | cons x r=>exact absurd (h x mem_cons_self) (not_lt_zero _)
 | M+1,l,nd,h=>by
  by_cases c:M∈l
  .have h1:=ja (M:=M) (nd.erase M) (fun x hx=>by
    have:=h x (mem_of_mem_erase hx);have hne:x≠M:=(nd.mem_erase_iff.mp hx).1;omega)
   rw [length_erase_of_mem c] at h1;omega
  .have:=ja (M:=M) nd (fun x hx=>by
    have:=h x hx;have:x≠M:=fun e=>c (e ▸ hx);omega)
   omega
section
variable {K:PySem.W.Frag}
def wY(y:Nat):PSt->(List (List D)->Prop)->Prop:=fun ρ Q=>∃n:Nat,ρ[y]?=some (some (.dat (.int (n:Int))))/\n<=10/\Q (List.replicate (2^n) (List.replicate n (.int (-1))))
theorem vX(n:Nat):(List.replicate n [V.int (-1)]).flatten=(List.replicate n (-1:Int)).map V.int:=by
 induction n with
 | zero=>rfl
 | succ n ih=>rw [replicate_succ,flatten_cons,ih,replicate_succ];rfl
theorem vY{y:Nat}:LOp K (nL [none,some y] (jd (ba (tOp Bk (tC (V.int 1)) (aV y)) dN)) (b3 0) i7 (tOp qG (Al (ba (tUn yv (tC (V.int 1))) dN)) (aV 1))) (wY y):=fun A ρ σ H Q Q' r q k=>by
 obtain⟨n,hy,hn,q⟩:=q;obtain⟨v,hv,fv⟩:=r.get y _ hy
 have ev:v=.int (n:Int):=by
  have fv:FV K (OO A ρ σ) H v (.int (n:Int)):=fv;cases fv;rfl
 subst ev;have hp:2^n<=1024:=pow_le_pow_right (n:=2) (by decide) hn;have e2:(1:Int)*2^(n:Int).toNat=((2^n:Nat):Int):=by rw [toNat_natCast,Int.one_mul,natCast_pow];rfl
 refine⟨.int (n:Int),hv,⟨1,(n:Int),rfl,rfl,?_,(1:Int)*2^(n:Int).toNat,rfl,?_,?_,?_⟩⟩
 .exact⟨by omega,by omega,by decide⟩
 .rw [e2];exact Int.le_trans (show -(2^62:Int)<=0 by decide) (natCast_nonneg _)
 .rw [e2];exact Int.lt_of_le_of_lt (ofNat_le.mpr hp) (by decide)
 .intro Da hD;rw [e2,toNat_natCast]
  have es:rm [none,some y] σ=[none,some (V.int (n:Int))]:=by
   show [none,match σ[y]? with|some v=>v|none=>none]=_;rw [hv]
  rw [es]
  have fvr:FVs K (OO A ρ σ) H ((List.replicate n (-1:Int)).map V.int) (List.replicate n (D.int (-1))):=by
   have:=FVs.of_ints (K:=K) (O:=OO A ρ σ) (H:=H) (List.replicate n (-1:Int));rw [map_replicate (f:=D.int)] at this;exact this
  refine qy (lo:=0) (n:=2^n) (fun i ys τ H1=>(∃t0,τ=[t0,some (V.int (n:Int))])/\∃as:List Addr,ys=as.map V.ref/\as.length=i/\Gr H H1/\as.Nodup/\(∀a∈as,H a=none/\a≠Da)/\H1 Da=some (.lst ys)/\Cp K (OO A ρ σ) H H1 as (List.replicate i (List.replicate n (D.int (-1))))) ⟨⟨none,rfl⟩,[],rfl,rfl,Gr.new hD,.nil,(fun a ha=>nomatch ha),aA,.nil⟩ ?_ ?_
  .rintro i ys τ H1 hi ⟨⟨t0,rfl⟩,as,rfl,ha,g,nd,fr,eD,cp⟩ K1 K2 k1 k2;refine⟨1,rfl,by show 1<=sizeLine;rw [sizeLine_eq];decide,fun l1 hl1=>?_⟩
   refine⟨.int (n:Int),rfl,.inr (.inr ⟨l1,(n:Int),[V.int (-1)],rfl,rfl,aA,by omega,by omega,?_,fun l hl=>?_⟩)⟩
   .rw [sizeLine_eq,toNat_natCast];show 1*n<=_;omega
   .rw [toNat_natCast,vX];have h1D:l1≠Da:=fun z=>by rw [z,eD] at hl1;cases hl1
    have hll:l≠l1:=fun z=>by rw [z,aA] at hl;cases hl
    rw [aj hll] at hl;have hlD:l≠Da:=fun z=>by rw [z,eD] at hl;cases hl
    have fresh:∀b,H1 b=none->H b=none:=fun b hb=>by
     cases e:H b with
     | none=>rfl
     | some o=>rw [g _ _ e] at hb;cases hb
    have nin:∀b,H1 b=none->b∉as:=fun b hb z=>by
     obtain⟨o,e⟩:=cp.dom b z;rw [e] at hb;cases hb
    have hla:=nin l hl
    refine k1 _ _ _ (by rw [aj (Ne.symm hlD),aj (Ne.symm h1D)];exact eD) (lt_of_lt_of_le (show _<1000000 by rw [length_map];omega) (sz _ (Nat.le_refl _))) ⟨⟨_,rfl⟩,as++[l],by rw [map_append];rfl,by rw [length_append,ha];rfl,fun b o e=>?_,?_,fun a h=>?_,aA,?_⟩
    .rw [aj (fun z=>by rw [z,hD] at e;cases e),aj (fun z=>by rw [z,fresh l hl] at e;cases e),aj (fun z=>by rw [z,fresh l1 hl1] at e;cases e)];exact g b o e
    .rw [nodup_append];exact⟨nd,nodup_cons.mpr ⟨(fun h=>nomatch h),.nil⟩,fun x hx y hy z=>hla (by rw [<- mem_singleton.mp hy,<- z];exact hx)⟩
    .rcases mem_append.mp h with h|h
     .exact fr a h
     .rw [mem_singleton.mp h];exact⟨fresh l hl,hlD⟩
    .rw [List.replicate_succ'];have ne:∀a,a∈as->a≠Da:=fun a h=>(fr a h).2;exact Cp.app (by rw [aj hlD,aA]) fvr (cp.mono fun a h o z=>by rw [aj (ne a h),aj (fun z=>hla (by rw [<- z];exact h)),aj (fun z=>nin l1 hl1 (by rw [<- z];exact h))];exact z)
  .rintro ys τ H1 ⟨_,as,rfl,ha,g,nd,fr,eD,cp⟩;exact k Da as H1 _ q ⟨g,hD,nd,fr,eD,cp⟩
end
end L2
namespace K34
open PySem PySem.Spec PyProof.Rows L2
def top(i:Nat):Stmt:=PySem.Challenge.pw_shortglue_k34_table_cells.main.body.getD i (.Pass ⟨0,0,0,0⟩)
abbrev jz:Stmt:=top 7
abbrev fj:Stmt:=top 8
abbrev ie:Stmt:=top 9
abbrev zf:Stmt:=top 11
abbrev ig:Stmt:=top 12
abbrev dR:Stmt:=top 17
abbrev eA:Stmt:=top 18
abbrev dM:Stmt:=top 20
abbrev dk:Stmt:=top 21
abbrev jA:Stmt:=top 22
abbrev ii:Stmt:=top 23
abbrev bU:Stmt:=nI (top 24) 0
abbrev bV:Stmt:=nI (top 24) 1
abbrev gi:Stmt:=top 26
abbrev ij:Stmt:=top 27
abbrev ik:Stmt:=top 28
abbrev gj:Stmt:=top 29
abbrev fk:Stmt:=top 30
abbrev gk:Stmt:=top 31
abbrev jB:Stmt:=top 32
abbrev il:Stmt:=top 33
abbrev dn:Stmt:=top 34
abbrev eB:Stmt:=top 35
abbrev jC:Stmt:=top 36
abbrev gm:Stmt:=top 37
abbrev gn:Stmt:=top 38
abbrev gp:Stmt:=top 39
abbrev cX:Stmt:=top 40
abbrev vZ:Stmt:=top 41
theorem qP:aJ ["mark"] ["mark"] (ai jz):=⟨rfl,rfl,rfl,by decide +kernel,rfl,by decide +kernel,by decide +kernel⟩
theorem gN:aJ ["family","table","mark","i","rest"] ["family","table","mark","i"] (ai fj):=⟨rfl,rfl,rfl,by decide +kernel,rfl,by decide +kernel,by decide +kernel⟩
theorem eC:aJ ["family","many","table","mark"] ["family"] (ai ie):=⟨rfl,rfl,rfl,by decide +kernel,rfl,by decide +kernel,by decide +kernel⟩
theorem wZ:aJ ["one","other","k"] ["one","other"] (ai zf):=⟨rfl,rfl,rfl,by decide +kernel,rfl,by decide +kernel,by decide +kernel⟩
theorem oy:aJ ["words"] ["words"] (ai ig):=⟨rfl,rfl,rfl,by decide +kernel,rfl,by decide +kernel,by decide +kernel⟩
theorem qQ:aJ ["thing","least","most"] ["thing","least","most"] (ai dR):=⟨rfl,rfl,rfl,by decide +kernel,rfl,by decide +kernel,by decide +kernel⟩
theorem j6:aJ ["text","piece"] ["text","piece"] (ai eA):=⟨rfl,rfl,rfl,by decide +kernel,rfl,by decide +kernel,by decide +kernel⟩
theorem dq:aJ ["things","at","thing"] ["things"] (ai dM):=⟨rfl,rfl,rfl,by decide +kernel,rfl,by decide +kernel,by decide +kernel⟩
theorem iW:aJ ["piece","other"] ["piece","other"] (ai dk):=⟨rfl,rfl,rfl,by decide +kernel,rfl,by decide +kernel,by decide +kernel⟩
theorem im:aJ ["pieces","at","piece","longer"] ["pieces","at"] (ai jA):=⟨rfl,rfl,rfl,by decide +kernel,rfl,by decide +kernel,by decide +kernel⟩
theorem jD:aJ ["pieces","kept","at","holder"] ["pieces","kept","at"] (ai ii):=⟨rfl,rfl,rfl,by decide +kernel,rfl,by decide +kernel,by decide +kernel⟩
theorem fS:aJ ["self","pieces","indexes"] ["self","pieces"] (ai bU):=⟨rfl,rfl,rfl,by decide +kernel,rfl,by decide +kernel,by decide +kernel⟩
theorem j7:aJ ["self"] ["self"] (ai bV):=⟨rfl,rfl,rfl,by decide +kernel,rfl,by decide +kernel,by decide +kernel⟩
theorem cU:aJ ["_law_cell","_law_k","_law_number"] ["_law_cell","_law_k"] (ai gi):=⟨rfl,rfl,rfl,by decide +kernel,rfl,by decide +kernel,by decide +kernel⟩
theorem bW:aJ ["_law_script","_law_many","_law_cells","_law_found","_law_turn","_law_cell","_law_rest"] ["_law_script","_law_many"] (ai ij):=⟨rfl,rfl,rfl,by decide +kernel,rfl,by decide +kernel,by decide +kernel⟩
theorem oz:aJ ["_law_deck_here"] ["_law_deck_here"] (ai ik):=⟨rfl,rfl,rfl,by decide +kernel,rfl,by decide +kernel,by decide +kernel⟩
theorem dB:aJ ["_law_deck_here","_law_letters","_law_many","_law_found","_law_k"] ["_law_deck_here","_law_letters","_law_many"] (ai gj):=⟨rfl,rfl,rfl,by decide +kernel,rfl,by decide +kernel,by decide +kernel⟩
theorem aR:aJ ["_law_deck_here","_law_most","_law_first","_law_many","_law_letters","_law_sort","_law_long","_law_text","_law_pieces_here","_law_k","_law_at","_law_piece"] ["_law_deck_here","_law_most"] (ai fk):=⟨rfl,rfl,rfl,by decide +kernel,rfl,by decide +kernel,by decide +kernel⟩
theorem cV:aJ ["_law_pieces_here","_law_found","_law_k","_law_piece","_law_longer"] ["_law_pieces_here"] (ai gk):=⟨rfl,rfl,rfl,by decide +kernel,rfl,by decide +kernel,by decide +kernel⟩
theorem kG:aJ ["_law_one","_law_other","_law_k"] ["_law_one","_law_other"] (ai jB):=⟨rfl,rfl,rfl,by decide +kernel,rfl,by decide +kernel,by decide +kernel⟩
theorem oA:aJ ["_law_words_here"] ["_law_words_here"] (ai il):=⟨rfl,rfl,rfl,by decide +kernel,rfl,by decide +kernel,by decide +kernel⟩
theorem aO:aJ ["_law_laps_here","_law_many","_law_table","_law_rows","_law_longer","_law_row","_law_found","_law_mark","_law_i"] ["_law_laps_here"] (ai dn):=⟨rfl,rfl,rfl,by decide +kernel,rfl,by decide +kernel,by decide +kernel⟩
theorem bo:aJ ["_law_laps_here","_law_many","_law_table","_law_mark","_law_row","_law_inside","_law_i","_law_below"] ["_law_laps_here"] (ai eB):=⟨rfl,rfl,rfl,by decide +kernel,rfl,by decide +kernel,by decide +kernel⟩
theorem qR:aJ ["_law_laps_here"] ["_law_laps_here"] (ai jC):=⟨rfl,rfl,rfl,by decide +kernel,rfl,by decide +kernel,by decide +kernel⟩
theorem cD:aJ ["_law_deck_here","_law_first","_law_letters","_law_words_here","_law_one","_law_turn"] ["_law_deck_here"] (ai gm):=⟨rfl,rfl,rfl,by decide +kernel,rfl,by decide +kernel,by decide +kernel⟩
theorem mO:aJ ["_law_thing"] ["_law_thing"] (ai gn):=⟨rfl,rfl,rfl,by decide +kernel,rfl,by decide +kernel,by decide +kernel⟩
theorem dC:aJ ["_law_family","_law_table","_law_found","_law_row","_law_bad"] ["_law_family","_law_table"] (ai gp):=⟨rfl,rfl,rfl,by decide +kernel,rfl,by decide +kernel,by decide +kernel⟩
theorem ca:aJ ["_law_deck_here","_law_many","_law_first","_law_alike","_law_signs_here"] ["_law_deck_here","_law_many"] (ai cX):=⟨rfl,rfl,rfl,by decide +kernel,rfl,by decide +kernel,by decide +kernel⟩
theorem iD:aJ ["_law_script","_law_deck_here","_law_pieces_here","_law_family","_law_table","_law_other","error"] ["_law_script"] (ai vZ):=⟨rfl,rfl,rfl,by decide +kernel,rfl,by decide +kernel,by decide +kernel⟩
structure Txt (mg:Str->Option Value):Prop where
 b_all:mg "all"=none
 b_any:mg "any"=none
 b_bool:mg "bool"=none
 b_enumerate:mg "enumerate"=none
 b_int:mg "int"=none
 b_isinstance:mg "isinstance"=none
 b_len:mg "len"=none
 b_list:mg "list"=none
 b_max:mg "max"=none
 b_min:mg "min"=none
 b_range:mg "range"=none
 b_reversed:mg "reversed"=none
 b_str:mg "str"=none
 b_sum:mg "sum"=none
 b_tuple:mg "tuple"=none
 g_MOST_PIECES:∃t,mg "MOST_PIECES"=some (.int 40 t)
 g_MOST_SIGNS:∃t,mg "MOST_SIGNS"=some (.int 60 t)
 g_MOST_TABLE_WORDS:∃t,mg "MOST_TABLE_WORDS"=some (.int 8 t)
abbrev b8:Stmt:=nI (top 4) 0
theorem iX:aJ ["self","most"] ["self","most"] (ai b8):=⟨rfl,rfl,rfl,by decide +kernel,rfl,by decide +kernel,by decide +kernel⟩
abbrev xcs:List Str:=["TooGreat"]
abbrev DB:List (Str×Str):=[("TooGreat","most")]
structure TxX (K:PySem.W.Frag) (mg:Str->Option Value):Prop where
 all:Bq K xcs
 at_:∀c g,(c,g)∈DB->PySem.W.findIn K (.ref (aQ K c)) g=some none
 m_TooGreat:mg "TooGreat"=some (.ref (aQ K "TooGreat"))
 m_GlueError:mg "GlueError"=some (.ref (aQ K "GlueError"))
 d_TooGreat:XD K (aQ K "TooGreat")
 d_GlueError:XD K (aQ K "GlueError")
structure TxC (K:PySem.W.Frag):Prop where
 cl_Family:Cls K (aQ K "Family")
 n_Family_pieces:du K (aQ K "Family") "pieces"
 n_Family_kept:du K (aQ K "Family") "kept"
 n_Family_words:du K (aQ K "Family") "words"
 n_Family_left:du K (aQ K "Family") "left"
 n_Family_laps:du K (aQ K "Family") "laps"
 n_Family_total:du K (aQ K "Family") "total"
local macro_rules | `(tactic| walk_at "s")=>`(tactic| first | (with_reducible omega) | (with_reducible assumption) | (with_reducible rfl) | exact le_of_ble_eq_true rfl | (simp only [length_cons,length_nil,length_append,length_map];(with_reducible omega)) | assumption | rfl | (refine ⟨?_,?_⟩ <;> first | (with_reducible omega) | (with_reducible assumption) | (with_reducible rfl) | exact le_of_ble_eq_true rfl | assumption | rfl | (refine ⟨?_,?_⟩ <;> first | (with_reducible omega) | (with_reducible assumption) | (with_reducible rfl) | exact le_of_ble_eq_true rfl | assumption | rfl | (refine ⟨?_,?_⟩ <;> first | (with_reducible omega) | (with_reducible assumption) | (with_reducible rfl) | exact le_of_ble_eq_true rfl | assumption | rfl | fail) | fail) | fail) | omega | fail)
local macro_rules | `(tactic| walk_at "r")=>`(tactic| ((try dsimp only [set_cons_zero,set_cons_succ,tY,tZ,t5,BB,BC,mI,kC,kE,pT,pU,tail_cons,mJ,mK,pV,uf,oq,wV]);(conv=>whnf);(repeat (first | ((with_reducible refine And.intro ?_ ?_);(next=>walk_at "s");(conv=>whnf)) | ((with_reducible refine (show Exists _ from ?_));(first | (refine ⟨_,rfl,?_⟩) | (refine ⟨_,tI.lst _,?_⟩) | (refine ⟨_,tI.tup _,?_⟩));(conv=>whnf)) | ((refine (show fN _ _ _ from ?_));(first | (with_reducible refine Ej (by assumption) ?_) | (with_reducible refine Ek (by assumption) ?_) | (with_reducible refine CP (by assumption) ?_) | (with_reducible refine x0 (by assumption) ?_) | ((with_reducible refine CN ?_ ?_);(next=>(first | (with_reducible rfl) | (with_reducible assumption) | (with_reducible omega)))) | ((with_reducible refine CO ?_ ?_);(next=>(first | (with_reducible rfl) | (with_reducible assumption) | (with_reducible omega)))) | ((with_reducible refine AQ ?_ ?_);(next=>(first | (with_reducible rfl) | (with_reducible assumption) | (with_reducible omega)))) | ((with_reducible refine AR ?_ ?_);(next=>(first | (with_reducible rfl) | (with_reducible assumption) | (with_reducible omega)))));(conv=>whnf))));(try refine (show fN _ _ _ from ?_));(try dsimp only [set_cons_zero,set_cons_succ,tY,tZ,t5,BB,BC,mI,kC,kE,pT,pU,tail_cons,mJ,mK,pV,uf,oq,wV])))
def kH:Nat:=1
theorem xb(m i:Nat):Builtin.bitAnd ((m:Int) / 2^(i:Int).toNat) 1=if m.testBit i then 1 else 0:=by
 have e:(m:Int) / 2^(i:Int).toNat=((m / 2^i:Nat):Int):=by
  rw [toNat_natCast,natCast_ediv,natCast_pow];rfl
 rw [e];generalize hq:m / 2^i=q
 have h:Builtin.bitAnd (q:Int) 1=((q &&& 1:Nat):Int):=by
  unfold Builtin.bitAnd;simp
 rw [h,and_one_is_mod]
 have ht:m.testBit i=decide (q % 2=1):=by
  rw [testBit_eq_decide_div_mod_eq,hq]
 rw [ht]
 by_cases c:q % 2=1
 .rw [decide_eq_true c,if_pos rfl,c];rfl
 .rw [decide_eq_false c,if_neg (by decide),show q % 2=0 by omega];rfl
def mem(m:Nat):List Nat:=(List.range 8).filter m.testBit
theorem wb:∀m:_root_.Fin 256,(List.range (kF (m.1:Int))).filter m.1.testBit=mem m.1:=by decide +kernel
theorem mem_iff{m j:Nat}(hm:m<256):j∈mem m ↔ m.testBit j=true:=by
 unfold mem;rw [mem_filter,mem_range];refine⟨fun h=>h.2,fun h=>⟨?_,h⟩⟩
 rcases lt_or_ge j 8 with h8|h8
 .exact h8
 .rw [testBit_lt_two_pow (lt_of_lt_of_le hm (show 2^8<=2^j from pow_le_pow_right (n:=2) (by decide) h8))] at h;cases h
theorem io:∀m:_root_.Fin 256,∀i:_root_.Fin 8,m.1.testBit i.1=true->2^i.1<=m.1/\∀j:_root_.Fin 8,(m.1 - 2^i.1).testBit j.1=(decide (j.1≠i.1) && m.1.testBit j.1):=by decide +kernel
theorem zg:∀m:_root_.Fin 256,∀i:_root_.Fin 8,m.1.testBit i.1=false->m.1+2^i.1<256/\∀j:_root_.Fin 8,(m.1+2^i.1).testBit j.1=(decide (j.1=i.1) || m.1.testBit j.1):=by decide +kernel
theorem dS{m n i:Nat}(hm:m<2^n)(h:m.testBit i=true):i<n:=by
 rcases lt_or_ge i n with h2|h2
 .exact h2
 .rw [testBit_lt_two_pow (lt_of_lt_of_le hm (pow_le_pow_right (n:=2) (by decide) h2))] at h;cases h
theorem cM{n:Nat}(h:n<=8):2^n<=256:=pow_le_pow_right (n:=2) (by decide) h
def xc(l:List Int):Int:=l.foldl max (l.headD 0)
theorem mP:∀(l:List Int) (b:Int),(l.foldl max b=b\/l.foldl max b∈l)/\b<=l.foldl max b/\∀a∈l,a<=l.foldl max b
 | [],b=>⟨.inl rfl,Int.le_refl _,fun a h=>nomatch h⟩
 | a::l,b=>by
  obtain⟨h1,h2,h3⟩:=mP l (max b a);rw [foldl_cons]
  refine⟨?_,by omega,fun c hc=>?_⟩
  .rcases h1 with h1|h1
   .rw [h1]
    rcases le_total a b with h|h
    .exact .inl (by omega)
    .exact .inr (by rw [show max b a=a by omega];exact mem_cons_self)
   .exact .inr (mem_cons_of_mem _ h1)
  .rcases mem_cons.mp hc with rfl|hc
   .omega
   .exact h3 c hc
theorem ip{l:List Int}(h:0<l.length):xc l∈l/\∀a∈l,a<=xc l:=by
 cases l with
 | nil=>exact absurd h (by decide)
 | cons a l =>
  obtain⟨h1,h2,h3⟩:=mP (a::l) a;refine⟨?_,h3⟩
  rcases h1 with h1|h1
  .show List.foldl max a (a::l)∈_;rw [h1];exact mem_cons_self
  .exact h1
theorem lA{l:List Int}{m:Int}(h:m∈l)(h2:∀a∈l,a<=m):m=xc l:=by
 obtain⟨h3,h4⟩:=ip (length_pos_of_mem h);have:=h2 _ h3;have:=h4 _ h;omega
theorem mQ{l:List Int}(h:∀a∈l,0<=a):xc (0::l)=xc l:=by
 cases l with
 | nil=>rfl
 | cons a l =>
  obtain⟨h3,h4⟩:=ip (l:=a::l) (zero_lt_succ _);refine (lA (mem_cons_of_mem _ h3) fun b hb=>?_).symm
  rcases mem_cons.mp hb with rfl|hb
  .exact h _ h3
  .exact h4 b hb
def cell(tb:List (List Int))(m i:Nat):Int:=(tb.getD m []).getD i 0
def lp(ws:List (List Nat))(j i:Nat):Int:=(gg (pw ws j) (pw ws i):Int)
def b5(ws:List (List Nat))(tb:List (List Int))(m i:Nat):List Int:=(mem (m - 2^i)).map fun j=>cell tb (m - 2^i) j+lp ws j i
def ms(ws:List (List Nat))(tb:List (List Int))(m i:Nat):Int:=if m.testBit i then xc (b5 ws tb m i) else -1
def nd(ws:List (List Nat))(tb:List (List Int))(m i:Nat):Int:=xc (0::b5 ws tb m i)
theorem DC{ds:List D}{m:Nat}(h:m<ds.length):atI ds (m:Int)=some (itD ds m):=gy (j:=m) (by unfold itD;rw [getD_eq_getElem?_getD,getElem?_eq_getElem h];rfl) rfl
theorem oB{L:List Int}{i:Nat}(h:i<L.length):atI (L.map D.int) (i:Int)=some (.int (L.getD i 0)):=by
 refine gy (j:=i) ?_ rfl;rw [getElem?_map,getElem?_eq_getElem h,getD_eq_getElem?_getD,getElem?_eq_getElem h];rfl
abbrev D9(ws:List (List Nat))(w:List Nat):D:=.tup (ws.map fun v=>.int (gg w v:Int))
theorem zh{ws:List (List Nat)}{i:Nat}(h:i<ws.length):atI (ws.map (D9 ws)) (i:Int)=some (D9 ws (pw ws i)):=by
 refine gy (j:=i) ?_ rfl;rw [getElem?_map,getElem?_eq_getElem h];unfold pw;rw [getD_eq_getElem?_getD,getElem?_eq_getElem h];rfl
theorem ui{ws:List (List Nat)}{w:List Nat}{i:Nat}(h:i<ws.length):atI (ws.map fun v=>D.int (gg w v:Int)) (i:Int)=some (.int (gg w (pw ws i):Int)):=by
 refine gy (j:=i) ?_ rfl;rw [getElem?_map,getElem?_eq_getElem h];unfold pw;rw [getD_eq_getElem?_getD,getElem?_eq_getElem h];rfl
theorem uj(m:Nat):((mem m).map nD).length<=8:=by
 rw [length_map];exact Nat.le_trans (length_filter_le ..) (by rw [length_range];exact Nat.le_refl _)
theorem zi:∀m:_root_.Fin 256,kF (m.1:Int)<=8:=by decide +kernel
def bu:FN
 | [.int m],Q=>∃k:Nat,m=(k:Int)/\k<256/\Q (.own ((mem k).map nD))
 | _,_=>False
def gO:Nat:=5
structure DD (e:D) (tb:List (List Int)) (n:Nat):Prop where
 sq:tI e (pO e)
 len:(pO e).length=tb.length
 row:∀m,m<tb.length->tI (itD (pO e) m) ((tb.getD m []).map .int)
 wid:∀m,m<tb.length->(tb.getD m []).length=n
def a7:FN
 | [.obj c ns fs,e,.int m,.int i],Q=>c="Family"/\ns=oa/\∃ps:List (List Nat),fs=og ps/\∃k:Nat,m=(k:Int)/\∃j:Nat,i=(j:Int)/\∃tb:List (List Int),(DD e tb (aB ps).length/\(aB ps).length<=8/\k<2^(aB ps).length/\j<(aB ps).length/\(k.testBit j=true->k - 2^j<tb.length))/\Q (.dat (.int (ms (aB ps) tb k j)))
 | _,_=>False
def jE:Nat:=4
abbrev iE(r:List Int):D:=.tup (r.map .int)
def Msa(ws:List (List Nat))(tb:List (List Int)):Prop:=∀m,m<tb.length->tb.getD m []=(List.range ws.length).map fun i=>ms ws tb m i
theorem DE(n:Nat):(1:Int)*2^(n:Int).toNat=((2^n:Nat):Int):=by rw [toNat_natCast,Int.one_mul,natCast_pow];rfl
theorem oE{α:Type}{a b:List α}{m:Nat}{d:α}(h:m<a.length):(a++b).getD m d=a.getD m d:=by
 rw [getD_eq_getElem?_getD,getElem?_append_left h,<- getD_eq_getElem?_getD]
theorem oF{α:Type}(a:List α)(x d:α):(a++[x]).getD a.length d=x:=by
 rw [getD_eq_getElem?_getD,getElem?_append_right (Nat.le_refl _),sub_self];rfl
theorem jb{tb:List (List Int)}{r:List Int}{m:Nat}(h:m<tb.length)(i:Nat):cell (tb++[r]) m i=cell tb m i:=by
 unfold cell;rw [oE h]
theorem zj{ws:List (List Nat)}{tb:List (List Int)}{r:List Int}{m i:Nat}(h:m<=tb.length)(hm:m<256)(hi:i<8)(hb:m.testBit i=true):b5 ws (tb++[r]) m i=b5 ws tb m i:=by
 have h1:2^i<=m:=(io ⟨m,hm⟩ ⟨i,hi⟩ hb).1;have h2:0<2^i:=pow_pos (by decide);unfold b5;exact map_congr_left fun j _=>by rw [jb (by omega)]
theorem BR{ws:List (List Nat)}{tb:List (List Int)}{r:List Int}{m i:Nat}(h:m<=tb.length)(hm:m<256)(hi:i<8):ms ws (tb++[r]) m i=ms ws tb m i:=by
 unfold ms
 by_cases hb:m.testBit i=true
 .rw [if_pos hb,if_pos hb,zj h hm hi hb]
 .rw [if_neg hb,if_neg hb]
theorem uk{ws:List (List Nat)}{tb:List (List Int)}(hn:ws.length<=8)(hl:tb.length<256)(h:Msa ws tb):Msa ws (tb++[(List.range ws.length).map fun i=>ms ws tb tb.length i]):=fun m hm=>by
 have e:∀r:List Int,(List.range ws.length).map (fun i=>ms ws (tb++[r]) m i)=(List.range ws.length).map fun i=>ms ws tb m i:=fun r=>by
  rw [length_append] at hm;have hm:m<tb.length+1:=hm;exact map_congr_left fun i hi=>BR (by omega) (by omega) (by have:=mem_range.mp hi;omega)
 rw [e]
 by_cases c:m<tb.length
 .rw [oE c];exact h m c
 .rw [length_append] at hm;have hm:m<tb.length+1:=hm;have:m=tb.length:=by omega
  subst this;rw [oF]
theorem zk{ws:List (List Nat)}{tb:List (List Int)}(h:Msa ws tb):DD (.lst (tb.map iE)) tb ws.length :=
 ⟨.inl rfl,length_map _,fun m hm=>.inr (dP (by rw [show pO (.lst (tb.map iE))=tb.map iE from rfl,getElem?_map,getElem?_eq_getElem hm,getD_eq_getElem?_getD,getElem?_eq_getElem hm];rfl)),fun m hm=>by rw [h m hm,length_map,length_range]⟩
def bd:FX
 | [.obj c ns fs],Q,E=>c="Family"/\ns=oa/\∃ps:List (List Nat),fs=og ps/\(aB ps).length<=40/\(8<(aB ps).length->E (.exc "TooGreat" ["most"] [.int 8]))/\((aB ps).length<=8->∀tb:List (List Int),Msa (aB ps) tb->tb.length=2^(aB ps).length->Q (.dat (.tup (tb.map iE))))
 | _,_,_=>False
def xf:Nat:=3
def eP:FN
 | [.str a,.str b],Q=>(0<a.length/\a.length<=10000)/\(0<b.length/\b.length<=10000)/\Q (.dat (.int (gg a b:Int)))
 | _,_=>False
def jF:Nat:=1
def bE:FN
 | [.tup ds],Q=>∃ws:List (List Nat),ds=ws.map .str/\(ws.length<=1000/\∀w∈ws,0<w.length/\w.length<=10000)/\Q (.dat (Bn ws))
 | _,_=>False
def kI:Nat:=3
def cf:FN
 | [d,.int a,.int b],Q=>d.sort=true/\Dj d<=1000000/\Q (.dat (.bl (vC d a b)))
 | _,_=>False
def fT:Nat:=2
def aM:FN
 | [.str a,.str b],Q=>Q (.dat (.int (fnd a b 0)))
 | _,_=>False
def fm:Nat:=3
def aU:FN
 | [d],Q=>∃ws:List (List Nat),tI d (ws.map .str)/\(ws.length<=40/\Pcs 60 ws)/\Q (.dat .non)
 | _,_=>False
def eQ:Nat:=2
def aC:FN
 | [.str a,.str b],Q=>Q (.dat (.bl (eY a b)))
 | _,_=>False
def kJ:Nat:=4
def bK:FN
 | [.tup ds,.int i],Q=>∃ws:List (List Nat),ds=ws.map .str/\(ws.length<=1000/\∀w∈ws,w.length<=10000)/\(0<=i/\i<(ws.length:Int))/\Q (.dat (.bl (cH ws i.toNat)))
 | _,_=>False
def jG:Nat:=4
def bw:FN
 | [.tup ds,.tup ks,.int i],Q=>∃ws:List (List Nat),ds=ws.map .str/\ks=(aI ws).map nD/\(ws.length<=1000/\∀w∈ws,w.length<=60)/\(0<=i/\i<(ws.length:Int))/\Q (.dat (di ws i.toNat))
 | _,_=>False
def fU:Nat:=3
def aW:FR
 | .ins "Family" [] [],[d],Q=>∃ws:List (List Nat),tI d (ws.map .str)/\(ws.length<=40/\Pcs 60 ws)/\Q (.dat .non) (.ins "Family" oa (og ws))
 | _,_,_=>False
def fV:Nat:=1
def aX:FN
 | [.obj c ns fs],Q=>c="Family"/\ns=oa/\∃ws:List (List Nat),fs=og ws/\Q (.dat (.int ((aB ws).length:Int)))
 | _,_=>False
def iF:Nat:=3
def Dk(zs:List Int):Prop:=∀x∈zs,0<=x/\x<1000
def bp:FN
 | [.int c,.int k],Q=>(0<=k/\k<=100000)/\∀z:Int,0<=z->Q (.dat (.int z))
 | _,_=>False
def jH:Nat:=7
def bF:FN
 | [.scr ns,.int mo],Q=>(ns.length<=64/\0<=mo/\mo<=2000)/\∀zs:List Int,Dk zs->zs.length=mo.toNat->Q (.own (zs.map .int))
 | _,_=>False
def jI:Nat:=1
def az:FR
 | .own ds,[],Q=>∃zs:List Int,ds=zs.map .int/\(Dk zs/\0<zs.length/\zs.length<=100000)/\∀(z:Int) (ys:List Int),0<=z->z<1000->Dk ys->ys.length+1=zs.length->Q (.dat (.int z)) (.own (ys.map .int))
 | _,_,_=>False
def iG:Nat:=5
def bq:FR
 | .own ds,[.lst es,.int n],Q=>∃zs:List Int,ds=zs.map .int/\∃ls:List Nat,es=ls.map (fun c=>.str [c])/\(0<ls.length/\ls.length<=26/\Lts ls)/\(Dk zs/\zs.length<=100000)/\(0<=n/\n<=(zs.length:Int))/\∀(w:List Nat) (ys:List Int),w.length=n.toNat->Lts w->(∀c∈w,c∈ls)->Dk ys->ys.length+n.toNat=zs.length->Q (.dat (.str w)) (.own (ys.map .int))
 | _,_,_=>False
def gP:Nat:=12
def qS(n f:Nat):List Nat:=(List.range n).map fun k=>97+(f+7*k) % 26
theorem ul(n f:Nat):Lts (qS n f):=fun c hc=>by
 obtain⟨k,_,rfl⟩:=mem_map.mp hc;have:=mod_lt (f+7*k) (show 0<26 by decide);exact⟨by omega,by omega⟩
theorem pY{j:Nat}(h:j<26):atI [97,98,99,100,101,102,103,104,105,106,107,108,109,110,111,112,113,114,115,116,117,118,119,120,121,122] (j:Int)=some (97+j):=by
 have:∀j:Fin 26,atI [97,98,99,100,101,102,103,104,105,106,107,108,109,110,111,112,113,114,115,116,117,118,119,120,121,122] (j.1:Int)=some (97+j.1):=by decide +kernel
 exact this ⟨j,h⟩
theorem pZ{ls:List Nat}{j:Nat}(h:j<ls.length):atI (ls.map fun c=>D.str [c]) (j:Int)=some (.str [ls.getD j 0]) :=
 gy (j:=j) (by rw [getElem?_map,getElem?_eq_getElem h,getD_eq_getElem?_getD,getElem?_eq_getElem h];rfl) rfl
theorem xg{ls:List Nat}(hL:Lts ls){j:Nat}(h:j<ls.length):Lts [ls.getD j 0]:=by
 rw [getD_eq_getElem?_getD,getElem?_eq_getElem h];exact Lts.one (hL _ (getElem_mem h))
def bn:FR
 | .own ds,[.int mo],Q=>∃zs:List Int,ds=zs.map .int/\(Dk zs/\zs.length<=10000)/\(0<=mo/\mo<=39/\16+7*mo<=(zs.length:Int))/\∀(ps:List (List Nat)) (ys:List Int),(ps.length:Int)<=mo->Pcs 60 ps->Dk ys->(zs.length:Int)<=ys.length+16+7*mo->ys.length<=zs.length->Q (.dat (.lst (ps.map .str))) (.own (ys.map .int))
 | _,_,_=>False
def iH:Nat:=5
theorem zl{ps:List (List Nat)}{k:Nat}:cH ps k=(decide ((ps.filter fun o=>decide ((pw ps k).length<o.length) && eY (pw ps k) o)=[]) && !decide (pw ps k∈ps.take k)):=by
 unfold cH;rw [Bool.and_comm];congr 1
 cases hf:(ps.filter fun o=>decide ((pw ps k).length<o.length) && eY (pw ps k) o) with
 | nil =>
  rw [decide_eq_true rfl,Bool.not_eq_true',any_eq_false];intro o ho z;obtain⟨m1,m2⟩:=mem_filter.mp ho;have:o∈ps.filter fun o=>decide ((pw ps k).length<o.length) && eY (pw ps k) o:=mem_filter.mpr ⟨m1,by rw [m2];exact z⟩;rw [hf] at this;cases this
 | cons o r =>
  rw [decide_eq_false (fun z=>nomatch z)];have:o∈ps.filter fun o=>decide ((pw ps k).length<o.length) && eY (pw ps k) o:=by rw [hf];exact mem_cons_self ..
  obtain⟨m1,m2⟩:=mem_filter.mp this;rw [and_eq_true] at m2;rw [Bool.not_eq_false',any_eq_true];exact⟨o,mem_filter.mpr ⟨m1,m2.1⟩,m2.2⟩
theorem oG{ws:List (List Nat)}(h:∀w∈ws,Lts w):rn (.lst (ws.map .str)) (.lst []):=rn.of (Sh.lstS h) (Sh.lstI [])
theorem mR(ws:List (List Nat)):deq (.lst (ws.map .str)) (.lst [])=decide (ws=[]):=by
 show PyData.eqv (.list (D.pys (ws.map .str))) (.list [])=_;rw [n5];cases ws <;> simp [PyData.eqv,PyData.eqvAll]
def br:FN
 | [.lst ds],Q=>∃ps:List (List Nat),ds=ps.map .str/\(ps.length<=40/\∀w∈ps,w.length<=60/\Lts w)/\Q (.dat (.lst ((aB ps).map .str)))
 | _,_=>False
def kK:Nat:=3
def bB:FN
 | [.str a,.str b],Q=>a.length<=10000/\(0<b.length/\b.length<=10000)/\Q (.dat (.int (gg a b:Int)))
 | _,_=>False
def jJ:Nat:=1
abbrev uC(r:List Int):D:=.lst (r.map .int)
abbrev DF(ws:List (List Nat))(w:List Nat):D:=.lst (ws.map fun v=>.int (gg w v:Int))
abbrev eZ(ws:List (List Nat)):List D:=ws.map (DF ws)
theorem p5{ws:List (List Nat)}{i:Nat}(h:i<ws.length):atI (eZ ws) (i:Int)=some (DF ws (pw ws i)):=by
 refine gy (j:=i) ?_ rfl;rw [getElem?_map,getElem?_eq_getElem h];unfold pw;rw [getD_eq_getElem?_getD,getElem?_eq_getElem h];rfl
def Ea(ws:List (List Nat)):Prop:=ws.length<=40/\∀w∈ws,0<w.length/\w.length<=60
theorem xh{α:Type}{l:List α}{d x:α}(h:x∈l):∃i,i<l.length/\l.getD i d=x:=by
 obtain⟨i,hi,e⟩:=mem_iff_getElem.mp h;exact⟨i,hi,by rw [getD_eq_getElem?_getD,getElem?_eq_getElem hi];exact e⟩
theorem Ez{ps:List (List Nat)}(hl:ps.length<=40)(h:Pcs 60 ps):Ea (aB ps):=⟨Nat.le_trans (fF ps) hl,fun w hw=>⟨(fE h w hw).1,(fE h w hw).2.1⟩⟩
def bG:FN
 | [.lst ds],Q=>∃ws:List (List Nat),ds=ws.map .str/\Ea ws/\Q (.dat (.lst (eZ ws)))
 | _,_=>False
def eR:Nat:=9
structure DG (ws:List (List Nat)) (tb:List (List Int)):Prop where
 wid:∀r,r<tb.length->(tb.getD r []).length=ws.length
 on:∀m,m<tb.length->∀i,i<ws.length->m.testBit i=true->nd ws tb m i<=cell tb m i
 off:∀m,m<tb.length->∀i,i<ws.length->m.testBit i=false->cell tb m i=-1
theorem mS(tb:List (List Int))(r:List Int)(i:Nat):cell (tb++[r]) tb.length i=r.getD i 0:=by
 unfold cell;rw [oF]
theorem BS{ws:List (List Nat)}{tb:List (List Int)}{r:List Int}{m i:Nat}(h:m<=tb.length)(hm:m<256)(hi:i<8)(hb:m.testBit i=true):nd ws (tb++[r]) m i=nd ws tb m i:=by
 have h1:=(io ⟨m,hm⟩ ⟨i,hi⟩ hb).1;have h1:2^i<=m:=h1;have h2:0<2^i:=pow_pos (by decide);unfold nd b5;congr 2;exact map_congr_left fun j _=>by rw [jb (by omega)]
theorem zm(n:Nat):kZ [D.int (-1)] (n:Int)=(List.replicate n (-1:Int)).map D.int:=by rw [vD,map_replicate]
structure Exa (ws:List (List Nat)) (tb:List (List Int)):Prop where
 wid:∀r,r<tb.length->(tb.getD r []).length=ws.length
 on:∀m,m<tb.length->∀i,i<ws.length->m.testBit i=true->cell tb m i=nd ws tb m i
 off:∀m,m<tb.length->∀i,i<ws.length->m.testBit i=false->cell tb m i=-1
theorem Exa.good{ws:List (List Nat)}{tb:List (List Int)}(h:Exa ws tb):DG ws tb:=⟨h.wid,fun m hm i hi hb=>by rw [h.on m hm i hi hb];exact Int.le_refl _,h.off⟩
structure Eb (ws:List (List Nat)) (tb:List (List Int)) (k i:Nat) (r:List Int):Prop where
 len:r.length=ws.length
 on:∀j,j<i->k.testBit j=true->r.getD j 0=nd ws tb k j
 off:∀j,j<ws.length->(i<=j\/k.testBit j=false)->r.getD j 0=-1
theorem um{ws:List (List Nat)}{tb:List (List Int)}{r:List Int}(hn:ws.length<=8)(hk:tb.length<2^ws.length)(h:Exa ws tb)(hr:Eb ws tb tb.length ws.length r):Exa ws (tb++[r]):=by
 have h256:=cM hn;have hl:(tb++[r]).length=tb.length+1:=by rw [length_append];rfl
 refine⟨fun m hm=>?_,fun m hm i hi hb=>?_,fun m hm i hi hb=>?_⟩
 .rw [hl] at hm
  by_cases e:m<tb.length
  .rw [oE e];exact h.wid m e
  .rw [show m=tb.length by omega,oF];exact hr.len
 .rw [hl] at hm;rw [BS (by omega) (by omega) (by omega) hb]
  by_cases e:m<tb.length
  .rw [jb e];exact h.on m e i hi hb
  .have e:m=tb.length:=by omega
   subst e;rw [mS];exact hr.on i hi hb
 .rw [hl] at hm
  by_cases e:m<tb.length
  .rw [jb e];exact h.off m e i hi hb
  .have e:m=tb.length:=by omega
   subst e;rw [mS];exact hr.off i hi (.inr hb)
theorem DG.nn{ws:List (List Nat)}{tb:List (List Int)}(h:DG ws tb){m i:Nat}(hm:m<tb.length)(hi:i<ws.length)(hb:m.testBit i=true):0<=cell tb m i:=by
 have h1:=h.on m hm i hi hb;have h2:=(ip (l:=0::b5 ws tb m i) (zero_lt_succ _)).2 0 mem_cons_self;unfold nd at h1;omega
theorem gQ(ws:List (List Nat))(pre:List Nat)(l j:Nat):ny ws (pre++[l]++[j])=ny ws (pre++[l])+gg (pw ws l) (pw ws j):=by
 cases pre with
 | nil=>show gg _ _+0=0+_;omega
 | cons i r=>exact mL ws j i r l
def Mk(js:List Nat)(m:Nat):Prop:=js.Nodup/\∀i,i∈js ↔ m.testBit i=true
theorem Mk.snoc{js:List Nat}{l m:Nat}(hm:m<4096)(h:Mk (js++[l]) m):m.testBit l=true/\Mk js (m - 2^l):=by
 obtain⟨nd,hi⟩:=h;have hl:=(hi l).mp (by simp);obtain⟨_,hb⟩:=ic hm hl;have hn:=nodup_append.mp nd;refine⟨hl,hn.1,fun i=>?_⟩;rw [hb,and_eq_true,decide_eq_true_eq,<- hi,mem_append,mem_singleton];exact⟨fun h=>⟨.inl h,fun e=>hn.2.2 i h l (mem_singleton.mpr rfl) e⟩,fun h=>h.1.elim id fun e=>absurd e h.2⟩
theorem Mk.put{js:List Nat}{l m:Nat}(hm:m<4096)(hl:m.testBit l=true)(h:Mk js (m - 2^l)):Mk (js++[l]) m:=by
 obtain⟨nd,hi⟩:=h;obtain⟨_,hb⟩:=ic hm hl
 refine⟨nodup_append.mpr ⟨nd,nodup_cons.mpr ⟨not_mem_nil,nodup_nil⟩,fun x hx y hy e=>?_⟩,fun i=>?_⟩
 .rw [mem_singleton.mp hy] at e;have:=(hi x).mp hx;rw [hb,e,decide_eq_false (fun z=>z rfl),Bool.and_false] at this;cases this
 .rw [mem_append,hi,hb,and_eq_true,decide_eq_true_eq,mem_singleton]
  by_cases e:i=l
  .subst e;exact⟨fun _=>hl,fun _=>.inr rfl⟩
  .exact⟨fun h=>h.elim (fun h=>h.1) fun z=>absurd z e,fun h=>.inl ⟨h,e⟩⟩
theorem BU{ws:List (List Nat)}{tb:List (List Int)}(h:Exa ws tb)(hn:ws.length<=8)(hl:tb.length=2^ws.length):∀(js:List Nat) (l m:Nat),Mk (js++[l]) m->m<tb.length->(ny ws (js++[l]):Int)<=cell tb m l:=fun js=>by
 have h256:=cM hn
 induction js using L2.t8 with
 | h0 =>
  intro l m hk hm;have hb:=(hk.2 l).mp (by simp);exact h.good.nn hm (dS (Nat.lt_of_lt_of_eq hm hl) hb) hb
 | h1 js j ih =>
  intro l m hk hm;obtain⟨hb,hk'⟩:=hk.snoc (by omega);have hln:=dS (Nat.lt_of_lt_of_eq hm hl) hb;have hr:m - 2^l<tb.length:=Nat.lt_of_le_of_lt (sub_le _ _) hm;have hjb:=(hk'.2 j).mp (by simp);have i1:=ih j (m - 2^l) hk' hr;rw [h.on m hm l hln hb,gQ];have h2:=(ip (l:=0::b5 ws tb m l) (zero_lt_succ _)).2 (cell tb (m - 2^l) j+lp ws j l) (mem_cons_of_mem _ (mem_map.mpr ⟨j,(mem_iff (by omega)).mpr hjb,rfl⟩))
  unfold nd;unfold lp at h2;omega
theorem BV{ws:List (List Nat)}{tb:List (List Int)}(h:Exa ws tb)(hn:ws.length<=8)(hl:tb.length=2^ws.length):∀(m l:Nat),m<tb.length->m.testBit l=true->∃js:List Nat,Mk (js++[l]) m/\(ny ws (js++[l]):Int)=cell tb m l:=fun m=>by
 have h256:=cM hn
 induction m using Nat.strongRecOn with
 | ind m ih =>
  intro l hm hb;have hln:=dS (Nat.lt_of_lt_of_eq hm hl) hb;have hr:m - 2^l<tb.length:=Nat.lt_of_le_of_lt (sub_le _ _) hm;have h2:0<2^l:=pow_pos (by decide);have hle:=(ic (by omega) hb).1
  have step:∀j,j∈mem (m - 2^l)->cell tb (m - 2^l) j+lp ws j l=nd ws tb m l->∃js:List Nat,Mk (js++[l]) m/\(ny ws (js++[l]):Int)=cell tb m l:=fun j hj e=>by
   have hjb:=(mem_iff (by omega)).mp hj;obtain⟨js,k1,k2⟩:=ih (m - 2^l) (by omega) j hr hjb;refine⟨js++[j],k1.put (by omega) hb,?_⟩;rw [h.on m hm l hln hb,gQ,<- e,<- k2];rfl
  cases hM:mem (m - 2^l) with
  | nil =>
   refine⟨[],⟨nodup_cons.mpr ⟨not_mem_nil,nodup_nil⟩,fun i=>?_⟩,?_⟩
   .show i∈[l] ↔ _;rw [mem_singleton];refine⟨fun e=>e ▸ hb,fun hi=>?_⟩
    by_cases e:i=l
    .exact e
    .have:i∈mem (m - 2^l):=(mem_iff (by omega)).mpr (by rw [(ic (by omega) hb).2,hi,decide_eq_true e];rfl);rw [hM] at this;cases this
   .rw [h.on m hm l hln hb];unfold nd b5;rw [hM];rfl
  | cons j0 r =>
   have hmx:=(ip (l:=0::b5 ws tb m l) (zero_lt_succ _))
   rcases mem_cons.mp hmx.1 with e|e
   .have h0:j0∈mem (m - 2^l):=by rw [hM];exact mem_cons_self
    have hjb:=(mem_iff (show m - 2^l<256 by omega)).mp h0;have n1:=h.good.nn hr (dS (Nat.lt_of_lt_of_eq hr hl) hjb) hjb;have n2:0<=lp ws j0 l:=natCast_nonneg _;have n3:=hmx.2 (cell tb (m - 2^l) j0+lp ws j0 l) (mem_cons_of_mem _ (mem_map.mpr ⟨j0,h0,rfl⟩));exact step j0 h0 (by unfold nd;omega)
   .obtain⟨j,hj,e2⟩:=mem_map.mp (show xc (0::b5 ws tb m l)∈(mem (m - 2^l)).map fun j=>cell tb (m - 2^l) j+lp ws j l from e);exact step j hj e2
theorem zn{ws:List (List Nat)}{tb:List (List Int)}(hn:ws.length<=8)(h:Msa ws tb)(hl:tb.length=2^ws.length):Exa ws tb:=by
 have h256:=cM hn
 have ce:∀m,m<tb.length->∀i,i<ws.length->cell tb m i=ms ws tb m i:=fun m hm i hi=>by
  unfold cell;rw [h m hm,getD_eq_getElem?_getD,getElem?_map,getElem?_range hi];rfl
 have nn:∀m,m<tb.length->∀i,i<ws.length->m.testBit i=true->0<=cell tb m i:=fun m=>by
  induction m using Nat.strongRecOn with
  | ind m ih =>
   intro hm i hi hb;rw [ce m hm i hi];unfold ms;rw [if_pos hb];have h1:2^i<=m:=(io ⟨m,by omega⟩ ⟨i,by omega⟩ hb).1;have h2:0<2^i:=pow_pos (by decide);have hr:m - 2^i<tb.length:=Nat.lt_of_le_of_lt (sub_le m (2^i)) hm
   cases ho:b5 ws tb m i with
   | nil=>exact Int.le_refl 0
   | cons x r =>
    rw [<- ho];have hx:=(ip (l:=b5 ws tb m i) (by rw [ho];exact zero_lt_succ _)).1;unfold b5 at hx ⊢;obtain⟨j,hj,e⟩:=mem_map.mp hx;rw [<- e];have hjb:=(mem_iff (show m - 2^i<256 by omega)).mp hj;have hjn:j<ws.length:=dS (Nat.lt_of_lt_of_eq hr hl) hjb;have:=ih (m - 2^i) (by omega) hr j hjn hjb;have:0<=lp ws j i:=natCast_nonneg _;omega
 refine⟨fun m hm=>by rw [h m hm,length_map,length_range],fun m hm i hi hb=>?_,fun m hm i hi hb=>?_⟩
 .rw [ce m hm i hi];unfold ms nd;rw [if_pos hb];refine (mQ fun a ha=>?_).symm;unfold b5 at ha;obtain⟨j,hj,rfl⟩:=mem_map.mp ha;have hr:m - 2^i<tb.length:=Nat.lt_of_le_of_lt (sub_le m (2^i)) hm;have hjb:=(mem_iff (show m - 2^i<256 by omega)).mp hj;have:=nn _ hr j (dS (Nat.lt_of_lt_of_eq hr hl) hjb) hjb;have:0<=lp ws j i:=natCast_nonneg _;omega
 .rw [ce m hm i hi];unfold ms;rw [if_neg (by rw [hb];decide)]
theorem BW(ws:List (List Nat))(hn:ws.length<=8):∃tb:List (List Int),Msa ws tb/\tb.length=2^ws.length:=by
 have h256:=cM hn
 have:∀k,k<=2^ws.length->∃tb:List (List Int),Msa ws tb/\tb.length=k:=fun k=>by
  induction k with
  | zero=>exact fun _=>⟨[],(fun m hm=>absurd hm (not_lt_zero m)),rfl⟩
  | succ k ih =>
   intro hk;obtain⟨tb,h1,h2⟩:=ih (by omega);exact⟨_,uk hn (by omega) h1,by rw [length_append,h2];rfl⟩
 exact this _ (Nat.le_refl _)
theorem zo{ws:List (List Nat)}{tb:List (List Int)}(h:Exa ws tb)(hn:ws.length<=8)(hl:tb.length=2^ws.length):Msa ws tb:=fun m hm=>by
 have h256:=cM hn;have hw:=h.wid m hm;refine ext_getElem (by rw [hw,length_map,length_range]) fun i h1 h2=>?_;have hi:i<ws.length:=by omega
 rw [getElem_map,getElem_range]
 have ec:cell tb m i=(tb.getD m [])[i]:=by
  unfold cell;rw [getD_eq_getElem?_getD (l:=tb.getD m []),getElem?_eq_getElem h1];rfl
 rw [<- ec];unfold ms
 cases hb:m.testBit i with
 | false=>rw [if_neg (by decide)];exact h.off m hm i hi hb
 | true =>
  rw [if_pos rfl,h.on m hm i hi hb];unfold nd;refine mQ fun a ha=>?_;unfold b5 at ha;obtain⟨j,hj,rfl⟩:=mem_map.mp ha;have hr:m - 2^i<tb.length:=Nat.lt_of_le_of_lt (sub_le _ _) hm;have hjb:=(mem_iff (by omega)).mp hj;have hjn:j<ws.length:=dS (Nat.lt_of_lt_of_eq hr hl) hjb;have:=h.good.nn hr hjn hjb;have:0<=lp ws j i:=natCast_nonneg _;omega
def mkN(js:List Nat):Nat:=(js.map fun i=>2^i).sum
theorem wc(js:List Nat)(l:Nat):mkN (js++[l])=mkN js+2^l:=by unfold mkN;rw [map_append,sum_append];simp
theorem xi:∀js:List Nat,js.Nodup->(∀i∈js,i<8)->mkN js<256/\Mk js (mkN js):=fun js=>by
 induction js using L2.t8 with
 | h0=>exact fun _ _=>⟨by decide,nodup_nil,fun i=>⟨fun h=>(not_mem_nil h).elim,fun h=>by rw [show mkN []=0 from rfl,zero_testBit] at h;cases h⟩⟩
 | h1 js l ih =>
  intro nd hl;have hn:=nodup_append.mp nd;obtain⟨h1,h2⟩:=ih hn.1 fun i hi=>hl i (mem_append_left _ hi);have hl8:=hl l (by simp);have hnl:l∉js:=fun z=>hn.2.2 l z l (by simp) rfl
  have hb:(mkN js).testBit l=false:=by
   cases e:(mkN js).testBit l with
   | false=>rfl
   | true=>exact absurd ((h2.2 l).mpr e) hnl
  obtain⟨a1,a2⟩:=zg ⟨mkN js,h1⟩ ⟨l,hl8⟩ hb;have a1:mkN js+2^l<256:=a1;rw [wc];refine⟨a1,nd,fun i=>?_⟩;rw [mem_append,mem_singleton]
  rcases lt_or_ge i 8 with c|c
  .have:=a2 ⟨i,c⟩;have this:(mkN js+2^l).testBit i=(decide (i=l) || (mkN js).testBit i):=this;rw [this,or_eq_true,decide_eq_true_eq,h2.2];exact⟨fun h=>h.elim .inr .inl,fun h=>h.elim .inr .inl⟩
  .refine⟨fun h=>?_,fun h=>?_⟩
   .rcases h with h|h
    .have:=hl i (mem_append_left _ h);omega
    .omega
   .have:=dS (n:=8) a1 h;omega
theorem zp{js:List Nat}{m m':Nat}(h:Mk js m)(h':Mk js m'):m=m':=eq_of_testBit_eq fun i=>by
 have:=(h.2 i).symm.trans (h'.2 i);cases e:m.testBit i <;> cases e':m'.testBit i <;> simp_all
theorem DH{js:List Nat}{m n:Nat}(h:Mk js m)(hl:∀i∈js,i<n):m<2^n:=lt_pow_two_of_testBit m fun i hi=>by
 cases e:m.testBit i with
 | false=>rfl
 | true=>have:=hl i ((h.2 i).mpr e);omega
def rA(ws:List (List Nat))(p:List Nat×Int):List (List Nat×Int):=((List.range ws.length).filter fun i=>!decide (i∈p.1)).map fun i=>(p.1++[i],p.2+lp ws (p.1.getLastD 0) i)
structure uo (ws:List (List Nat)) (L:Nat) (R:List (List Nat×Int)):Prop where
 ok:∀p∈R,p.1.length=L/\p.1.Nodup/\(∀i∈p.1,i<ws.length)/\p.2=(ny ws p.1:Int)
 all:∀js:List Nat,js.length=L->js.Nodup->(∀i∈js,i<ws.length)->(js,(ny ws js:Int))∈R
theorem uq(ws:List (List Nat)):uo ws 1 ((List.range ws.length).map fun i=>([i],0)):=by
 refine⟨fun p hp=>?_,fun js hl nd hi=>?_⟩
 .obtain⟨i,hi,rfl⟩:=mem_map.mp hp;exact⟨rfl,nodup_cons.mpr ⟨not_mem_nil,nodup_nil⟩,fun j hj=>by rw [mem_singleton.mp hj];exact mem_range.mp hi,rfl⟩
 .obtain⟨i,rfl⟩:=length_eq_one_iff.mp hl;exact mem_map.mpr ⟨i,mem_range.mpr (hi i (by simp)),rfl⟩
theorem jK(js:List Nat)(i:Nat):(js++[i]).getLastD 0=i:=by simp
theorem qT{ws:List (List Nat)}{L:Nat}{R:List (List Nat×Int)}(h:uo ws L R)(hL:1<=L):uo ws (L+1) (R.flatMap (rA ws)):=by
 have spl:∀js:List Nat,0<js.length->∃r l,js=r++[l]:=fun js hj=>by
  rcases eq_nil_or_concat js with e|⟨r,l,e⟩
  .rw [e] at hj;exact absurd hj (by decide)
  .exact⟨r,l,by rw [e,concat_eq_append]⟩
 refine⟨fun p hp=>?_,fun js hl nd hi=>?_⟩
 .obtain⟨q,hq,hp⟩:=mem_flatMap.mp hp;obtain⟨i,hi,rfl⟩:=mem_map.mp hp;obtain⟨hi1,hi2⟩:=mem_filter.mp hi;have hni:i∉q.1:=by simpa using hi2
  obtain⟨q1,q2,q3,q4⟩:=h.ok q hq;obtain⟨r,l,e⟩:=spl q.1 (by omega)
  refine⟨by show (q.1++[i]).length=_;rw [length_append,q1];rfl,nodup_append.mpr ⟨q2,nodup_cons.mpr ⟨not_mem_nil,nodup_nil⟩,fun x hx y hy z=>hni (by rw [<- mem_singleton.mp hy,<- z];exact hx)⟩,fun j hj=>?_,?_⟩
  .rcases mem_append.mp hj with z|z
   .exact q3 j z
   .rw [mem_singleton.mp z];exact mem_range.mp hi1
  .show q.2+lp ws (q.1.getLastD 0) i=(ny ws (q.1++[i]):Int)
   rw [q4,e,jK,gQ];rfl
 .obtain⟨r,i,rfl⟩:=spl js (by omega);have hn:=nodup_append.mp nd;have hrl:r.length=L:=by rw [length_append] at hl;exact Nat.succ.inj hl
  obtain⟨r',l,e⟩:=spl r (by omega)
  refine mem_flatMap.mpr ⟨(r,(ny ws r:Int)),h.all r hrl hn.1 (fun j hj=>hi j (mem_append_left _ hj)),mem_map.mpr ⟨i,mem_filter.mpr ⟨mem_range.mpr (hi i (by simp)),?_⟩,?_⟩⟩
  .have:i∉r:=fun z=>hn.2.2 i z i (by simp) rfl;simp [this]
  .show (r++[i],(ny ws r:Int)+lp ws (r.getLastD 0) i)=_;rw [e,jK,gQ];rfl
theorem qU{ws:List (List Nat)}{L:Nat}(h:uo ws L []):ws.length<L:=by
 rcases lt_or_ge ws.length L with c|c
 .exact c
 .have:=h.all (List.range L) length_range nodup_range fun i hi=>by have:=mem_range.mp hi;omega
  cases this
structure qV (ws:List (List Nat)) (T:List (List Int)) (done:List Nat->Prop):Prop where
 len:T.length=2^ws.length
 wid:∀r,r<T.length->(T.getD r []).length=ws.length
 lo:∀m i,m<T.length->i<ws.length->cell T m i=-1\/∃js,Mk (js++[i]) m/\cell T m i=(ny ws (js++[i]):Int)
 hi:∀js i,(js++[i]).Nodup->(∀j∈js++[i],j<ws.length)->done (js++[i])->(ny ws (js++[i]):Int)<=cell T (mkN (js++[i])) i
def uD(tb:List (List Int))(m i:Nat)(v:Int):List (List Int):=tb.set m ((tb.getD m []).set i v)
theorem ur{tb:List (List Int)}{m i:Nat}{v:Int}(hm:m<tb.length)(hi:i<(tb.getD m []).length)(r k:Nat):cell (uD tb m i v) r k=if r=m/\k=i then v else cell tb r k:=by
 unfold cell uD
 by_cases e:r=m
 .subst e;rw [getD_eq_getElem?_getD (l:=tb.set r _),getElem?_set_self hm];show ((tb.getD r []).set i v).getD k 0=_
  by_cases e2:k=i
  .subst e2;rw [if_pos ⟨rfl,rfl⟩,getD_eq_getElem?_getD,getElem?_set_self hi];rfl
  .rw [if_neg (fun z=>e2 z.2),getD_eq_getElem?_getD,getElem?_set_ne (Ne.symm e2),<- getD_eq_getElem?_getD]
 .rw [if_neg (fun z=>e z.1),getD_eq_getElem?_getD (l:=tb.set m _),getElem?_set_ne (Ne.symm e),<- getD_eq_getElem?_getD]
theorem ut(ws:List (List Nat)):qV ws (List.replicate (2^ws.length) (List.replicate ws.length (-1))) (fun _=>False):=by
 have g:∀m,m<2^ws.length->(List.replicate (2^ws.length) (List.replicate ws.length (-1:Int))).getD m []=List.replicate ws.length (-1):=fun m hm=>by
  rw [getD_eq_getElem?_getD,getElem?_replicate,if_pos hm];rfl
 refine⟨length_replicate,fun r hr=>?_,fun m i hm hi=>.inl ?_,fun js i _ _ h=>h.elim⟩
 .rw [length_replicate] at hr;rw [g r hr,length_replicate]
 .rw [length_replicate] at hm;unfold cell;rw [g m hm,getD_eq_getElem?_getD,getElem?_replicate,if_pos hi];rfl
theorem wd{ws:List (List Nat)}{T:List (List Int)}{done:List Nat->Prop}(hn:ws.length<=8)(h:qV ws T done){js:List Nat}{i:Nat}(nd:(js++[i]).Nodup)(hl:∀j∈js++[i],j<ws.length):mkN (js++[i])<T.length/\i<ws.length/\qV ws (uD T (mkN (js++[i])) i (max (cell T (mkN (js++[i])) i) (ny ws (js++[i])))) (fun ks=>done ks\/ks=js++[i]):=by
 obtain⟨_,hk⟩:=xi _ nd fun j hj=>by have:=hl j hj;omega
 have hm:mkN (js++[i])<T.length:=by rw [h.len];exact DH hk hl
 have hi:i<ws.length:=hl i (by simp);have hw:i<(T.getD (mkN (js++[i])) []).length:=by rw [h.wid _ hm];exact hi
 have hc:=ur (v:=max (cell T (mkN (js++[i])) i) (ny ws (js++[i]))) hm hw
 refine⟨hm,hi,by unfold uD;rw [length_set];exact h.len,fun r hr=>?_,fun m k hm' hk'=>?_,fun ks k nk hlk hd=>?_⟩
 .unfold uD at hr ⊢;rw [length_set] at hr
  by_cases e:r=mkN (js++[i])
  .rw [e,getD_eq_getElem?_getD,getElem?_set_self hm];show ((T.getD _ []).set i _).length=_;rw [length_set];exact h.wid _ hm
  .rw [getD_eq_getElem?_getD,getElem?_set_ne (Ne.symm e),<- getD_eq_getElem?_getD];exact h.wid r hr
 .unfold uD at hm';rw [length_set] at hm';rw [hc]
  split
  .rename_i e;rw [e.1,e.2]
   rcases le_total (cell T (mkN (js++[i])) i) (ny ws (js++[i])) with c|c
   .rw [max_eq_right c];exact .inr ⟨js,hk,rfl⟩
   .rw [max_eq_left c];exact h.lo _ _ hm hi
  .exact h.lo m k hm' hk'
 .rw [hc]
  split
  .rename_i e
   rcases hd with hd|hd
   .have h3:=h.hi ks k nk hlk hd;rw [e.1] at h3;have e2:cell T (mkN (js++[i])) k=cell T (mkN (js++[i])) i:=by rw [e.2]
    rw [e2] at h3;exact Int.le_trans h3 (le_max_left _ _)
   .rw [hd];exact le_max_right _ _
  .rename_i e
   rcases hd with hd|hd
   .exact h.hi ks k nk hlk hd
   .exfalso;have e2:=List.append_inj_right' hd rfl;exact e ⟨by rw [hd],by simpa using e2⟩
theorem wf{ws:List (List Nat)}{T:List (List Int)}{done:List Nat->Prop}(hn:ws.length<=8)(h:qV ws T done)(hd:∀js,js.length<=ws.length->done js):Msa ws T:=by
 have h256:=cM hn;obtain⟨tb,hM,htl⟩:=BW ws hn;have hE:=zn hn hM htl
 have eq:∀m,m<T.length->∀i,i<ws.length->cell T m i=cell tb m i:=fun m hm i hi=>by
  have hm2:m<tb.length:=by rw [htl,<- h.len];exact hm
  cases hb:m.testBit i with
  | false =>
   rw [hE.off m hm2 i hi hb]
   rcases h.lo m i hm hi with e|⟨js,k1,_⟩
   .exact e
   .have:=(k1.2 i).mp (by simp);rw [hb] at this;cases this
  | true =>
   obtain⟨js,k1,k2⟩:=BV hE hn htl m i hm2 hb;have hlt:∀j∈js++[i],j<ws.length:=fun j hj=>dS (by rw [<- h.len];exact hm) ((k1.2 j).mp hj);have em:mkN (js++[i])=m:=zp (xi _ k1.1 fun j hj=>by have:=hlt j hj;omega).2 k1;have n1:=h.hi js i k1.1 hlt (hd _ (ja k1.1 hlt));rw [em,k2] at n1;have n0:=hE.good.nn hm2 hi hb
   rcases h.lo m i hm hi with e|⟨ks,j1,j2⟩
   .omega
   .have:=BU hE hn htl ks i m j1 hm2;omega
 have:T=tb:=by
  refine ext_getElem (by rw [h.len,htl]) fun m h1 h2=>?_;have w1:=h.wid m h1;have w2:=hE.wid m h2;have g1:T.getD m []=T[m]:=by rw [getD_eq_getElem?_getD,getElem?_eq_getElem h1];rfl
  have g2:tb.getD m []=tb[m]:=by rw [getD_eq_getElem?_getD,getElem?_eq_getElem h2];rfl
  rw [g1] at w1;rw [g2] at w2;refine ext_getElem (by rw [w1,w2]) fun i i1 i2=>?_;have:=eq m h1 i (by omega);unfold cell at this;rw [g1,g2,getD_eq_getElem?_getD,getD_eq_getElem?_getD,getElem?_eq_getElem i1,getElem?_eq_getElem i2] at this;exact this
 rw [this];exact hM
def rwD(p:List Nat×Int):D:=.tup [.lst (p.1.map nD),.int p.2]
theorem qV.imp{ws:List (List Nat)}{T:List (List Int)}{d d':List Nat->Prop}(h:qV ws T d)(hi:∀ks:List Nat,ks≠[]->d' ks->d ks):qV ws T d':=⟨h.len,h.wid,h.lo,fun js i a b c=>h.hi js i a b (hi _ (by simp) c)⟩
theorem qV.imps{ws:List (List Nat)}{T:List (List Int)}{d d':List Nat->Prop}(h:qV ws T d)(hi:∀ks:List Nat,ks.Nodup->(∀j∈ks,j<ws.length)->d' ks->d ks):qV ws T d':=⟨h.len,h.wid,h.lo,fun js i a b c=>h.hi js i a b (hi _ a b c)⟩
theorem BX(R:List (List Nat×Int)):Fl 3 (.lst (R.map rwD)):=Fl.lst fun d hd=>by
 obtain⟨p,_,rfl⟩:=mem_map.mp hd;refine Fl.tup fun e he=>?_;simp only [mem_cons,not_mem_nil,or_false] at he
 rcases he with rfl|rfl
 .exact Fl.lst fun e he=>by
   obtain⟨i,_,rfl⟩:=mem_map.mp he;exact Fl.int _
 .exact Fl.int _
theorem BY(R:List (List Nat×Int)):rn (.lst (R.map rwD)) (.lst []):=rn.of ((BX R).sh (by decide)) (Sh.lstI [])
theorem zq(R:List (List Nat×Int)):deq (.lst (R.map rwD)) (.lst [])=decide (R=[]):=by
 cases R with
 | nil=>rfl
 | cons p r=>rw [decide_eq_false (fun z=>nomatch z)];rfl
theorem zr(js:List Nat):(js.map fun i=>((2^i:Nat):Int)).sum=(mkN js:Int):=by
 unfold mkN
 induction js with
 | nil=>rfl
 | cons i r ih=>rw [map_cons,sum_cons,ih,map_cons,sum_cons];omega
theorem zt(ws:List (List Nat))(p:List Nat×Int):(rA ws p).length<=ws.length:=by
 unfold rA;rw [length_map];refine Nat.le_trans (length_filter_le ..) ?_;rw [length_range];exact Nat.le_refl _
theorem lB(ws:List (List Nat))(hn:ws.length<=4):∀R:List (List Nat×Int),(R.flatMap (rA ws)).length<=R.length*4
 | []=>Nat.le_refl _
 | p::R=>by
  have h1:=zt ws p;have h2:=lB ws hn R;rw [flatMap_cons,length_append,length_cons];omega
theorem BZ(a b:Int):(if b > a then b else a)=max a b:=by
 by_cases c:b > a
 .rw [if_pos c];omega
 .rw [if_neg c];omega
theorem zu(B:List Nat)(i:Nat):atI ((B++[i]).map nD) (-1)=some (.int (i:Int)):=by
 unfold atI ixN;rw [length_map,length_append,if_neg (by decide),if_pos (by show -((B.length+1:Nat):Int)<=-1;omega),show ((-1:Int)+((B.length+[i].length:Nat):Int)).toNat=B.length by show ((-1:Int)+((B.length+1:Nat):Int)).toNat=_;omega];show ((B++[i]).map nD)[B.length]?=_;rw [getElem?_map,getElem?_append_right (Nat.le_refl _),sub_self];rfl
theorem uu{n i:Nat}(h:i<n):ixN n (i:Int)=some i:=by
 unfold ixN;rw [if_pos (by omega)];simp;omega
theorem xj(M:List (List Int)):(M.map fun r=>r.map D.int).map D.lst=M.map uC:=by rw [map_map];rfl
theorem wg{M:List (List Int)}{i:Nat}(h:i<M.length):(M.map fun r=>r.map D.int)[i]?=some ((M.getD i []).map D.int):=by
 rw [getElem?_map,getElem?_eq_getElem h,getD_eq_getElem?_getD,getElem?_eq_getElem h];rfl
theorem uv(M:List (List Int))(i j:Nat)(z:Int):(M.map fun r=>r.map D.int).set i (((M.getD i []).map D.int).set j (.int z))=(uD M i j z).map fun r=>r.map D.int:=by
 unfold uD;rw [map_set,map_set]
theorem spl{js:List Nat}(hj:0<js.length):∃r l,js=r++[l]:=by
 rcases eq_nil_or_concat js with e|⟨r,l,e⟩
 .rw [e] at hj;exact absurd hj (by decide)
 .exact⟨r,l,by rw [e,concat_eq_append]⟩
theorem uw{ws:List (List Nat)}{R:List (List Nat×Int)}{j:Nat}{p:List Nat×Int}(hp:R[j]?=some p):(R.take (j+1)).flatMap (rA ws)=(R.take j).flatMap (rA ws)++rA ws p:=by
 rw [take_succ,hp,flatMap_append];simp
theorem wj{R:List (List Nat×Int)}{j:Nat}{p:List Nat×Int}(hp:R[j]?=some p):(R.take (j+1)).map Prod.fst=(R.take j).map Prod.fst++[p.1]:=by
 rw [take_succ,hp,map_append];rfl
theorem uy{tb:List (List Int)}{m:Nat}(h:m<tb.length):atI (tb.map uC) (m:Int)=some (uC (tb.getD m [])):=by
 refine gy (j:=m) ?_ rfl;rw [getElem?_map,getElem?_eq_getElem h,getD_eq_getElem?_getD,getElem?_eq_getElem h];rfl
theorem wk(pj:List Nat)(k:Nat)(z:Int):D.tup [.lst (pj.map nD++[.int (k:Int)]),.int z]=rwD (pj++[k],z):=by unfold rwD;rw [map_append];rfl
def aP:FN
 | [.lst ls],Q=>∃ws:List (List Nat),ls=eZ ws/\ws.length<=4/\∀tb:List (List Int),Msa ws tb->tb.length=2^ws.length->Q (.dat (.tup (tb.map iE)))
 | _,_=>False
def fW:Nat:=8
structure B0 (ws:List (List Nat)) (tb:List (List Int)) (k:Nat) (done:List Nat) (r:List Int):Prop where
 len:r.length=ws.length
 on:∀j∈done,r.getD j 0=nd ws tb k j
 off:∀j,j<ws.length->¬ j∈done->r.getD j 0=-1
theorem qW(ws:List (List Nat))(tb:List (List Int))(k:Nat):B0 ws tb k [] (List.replicate ws.length (-1)) :=
 ⟨length_replicate,fun j hj=>absurd hj not_mem_nil,fun j hj _=>by rw [getD_eq_getElem?_getD,getElem?_replicate,if_pos hj];rfl⟩
theorem p6{ws:List (List Nat)}{tb:List (List Int)}{k i:Nat}{done:List Nat}{r:List Int}(h:B0 ws tb k done r)(hi:i<ws.length):B0 ws tb k (done++[i]) (r.set i (nd ws tb k i)):=by
 have g:∀j,(r.set i (nd ws tb k i)).getD j 0=if j=i then nd ws tb k i else r.getD j 0:=fun j=>by
  by_cases e:j=i
  .subst e;rw [if_pos rfl,getD_eq_getElem?_getD,getElem?_set_self (by rw [h.len];exact hi)];rfl
  .rw [if_neg e,getD_eq_getElem?_getD,getElem?_set_ne (Ne.symm e),<- getD_eq_getElem?_getD]
 refine⟨by rw [length_set];exact h.len,fun j hj=>?_,fun j hj o=>?_⟩
 .rw [g]
  by_cases e:j=i
  .rw [if_pos e,e]
  .rw [if_neg e];exact h.on j ((mem_append.mp hj).elim id fun z=>absurd (mem_singleton.mp z) e)
 .have o:=fun z=>o (mem_append.mpr z);rw [g,if_neg fun e=>o (.inr (mem_singleton.mpr e))];exact h.off j hj fun z=>o (.inl z)
theorem wl{ws:List (List Nat)}{tb:List (List Int)}{k:Nat}{r:List Int}(hk:k<256)(h:B0 ws tb k (mem k) r):Eb ws tb k ws.length r :=
 ⟨h.len,fun j _ hb=>h.on j ((mem_iff hk).mpr hb),fun j hj o=>h.off j hj fun z=>by
  have z:=(mem_iff hk).mp z
  rcases o with o|o
  .omega
  .rw [z] at o;cases o⟩
theorem zv{k i:Nat}(hk:k<4096)(hb:k.testBit i=true):(mem k).filter (fun j=>decide (j≠i))=mem (k - 2^i):=by
 unfold mem;rw [filter_filter];refine filter_congr fun j _=>?_;rw [(ic hk hb).2 j,Bool.and_comm]
theorem DI{r n:Nat}(hn:n<=8)(h:r<2^n):(List.range n).filter r.testBit=mem r:=by
 unfold mem;obtain⟨d,hd⟩:∃d,8=n+d:=⟨8 - n,by omega⟩
 have:∀d,(List.range (n+d)).filter r.testBit=(List.range n).filter r.testBit:=fun d=>by
  induction d with
  | zero=>rfl
  | succ d ih =>
   rw [<- add_assoc,range_succ,filter_append,ih,filter_cons,if_neg]
   .simp
   .intro z;have:=dS h z;omega
 rw [hd,this d]
def aY:FN
 | [.lst ls],Q=>∃ws:List (List Nat),ls=eZ ws/\ws.length<=8/\∀tb:List (List Int),Msa ws tb->tb.length=2^ws.length->Q (.dat (.tup (tb.map iE)))
 | _,_=>False
def kL:Nat:=1
def bZ:FN
 | [.lst ls],Q=>∃ws:List (List Nat),ls=eZ ws/\ws.length<=8/\∀tb:List (List Int),Msa ws tb->tb.length=2^ws.length->Q (.dat (.tup (tb.map iE)))
 | _,_=>False
def iI:Nat:=6
def l5(f k:Nat):Nat:=97+(f+5*k) % 26
def w9(f k:Nat):List (List Nat):=(List.range k).flatMap fun a=>(List.range 3).map fun b=>[l5 f a,l5 f b]
theorem uz(f k:Nat):w9 f (k+1)=w9 f k++(List.range 3).map fun b=>[l5 f k,l5 f b]:=by
 unfold w9;rw [show List.range (k+1)=List.range k++[k] from range_succ,flatMap_append,flatMap_cons,flatMap_nil,append_nil]
theorem DJ:∀f:_root_.Fin 26,(w9 f.1 3).Nodup:=by decide +kernel
theorem uA(f:Nat):∀k,(w9 f k).length=3*k
 | 0=>rfl
 | k+1=>by rw [uz,length_append,uA f k,length_map,length_range];omega
theorem B1{f k:Nat}{w:List Nat}(h:w∈w9 f k):w.length=2/\Lts w:=by
 unfold w9 at h;obtain⟨a,_,h⟩:=mem_flatMap.mp h;obtain⟨b,_,rfl⟩:=mem_map.mp h;have:=mod_lt (f+5*a) (show 0<26 by decide);have:=mod_lt (f+5*b) (show 0<26 by decide);refine⟨rfl,fun c hc=>?_⟩
 rcases mem_cons.mp hc with rfl|hc
 .unfold l5;omega
 .rw [mem_singleton.mp hc];unfold l5;omega
theorem p7{n:Nat}{ps:List (List Nat)}(nd:ps.Nodup)(h2:∀w∈ps,w.length=n):(aB ps).length=ps.length:=by
 have hk:∀k,k<ps.length->cH ps k=true:=fun k hk=>by
  unfold cH;rw [and_eq_true]
  constructor
  .rw [Bool.not_eq_true',decide_eq_false_iff_not];intro z;obtain⟨i,hi,e⟩:=mem_iff_getElem.mp z;rw [length_take] at hi;rw [getElem_take] at e;have e2:pw ps k=ps[k]:=by unfold pw;rw [getD_eq_getElem?_getD,getElem?_eq_getElem hk];rfl
   rw [e2] at e;have:=(getElem_inj (h₀:=by omega) (h₁:=hk) nd).mp e;omega
  .rw [Bool.not_eq_true',any_eq_false];intro o ho;obtain⟨m1,m2⟩:=mem_filter.mp ho;rw [decide_eq_true_eq,h2 _ (gJ hk),h2 o m1] at m2;omega
 unfold aB aI;rw [length_map,filter_eq_self.mpr fun k hk'=>hk k (mem_range.mp hk'),length_range]
def bD:FR
 | .own ds,[],Q=>∃zs:List Int,ds=zs.map .int/\(Dk zs/\3<=zs.length/\zs.length<=10000)/\∀(ps:List (List Nat)) (ys:List Int),ps.length=8->Pcs 60 ps->(aB ps).length=8->Dk ys->ys.length+3=zs.length->Q (.dat (.lst (ps.map .str))) (.own (ys.map .int))
 | _,_,_=>False
def iJ:Nat:=1
def bg:FN
 | [.int z],Q=>Q (.dat (.bl true))
 | _,_=>False
def iK:Nat:=5
theorem wm{ws:List (List Nat)}{a b:List (List Int)}(hn:ws.length<=8)(hl:a.length=b.length)(hl2:a.length<=256)(ha:Msa ws a)(hb:Msa ws b):a=b:=by
 have key:∀m,m<a.length->a.getD m []=b.getD m []:=fun m=>by
  induction m using Nat.strongRecOn with
  | ind m ih =>
   intro hm;rw [ha m hm,hb m (by omega)];refine map_congr_left fun i hi=>?_;have hi:=mem_range.mp hi;unfold ms
   by_cases hbt:m.testBit i=true
   .rw [if_pos hbt,if_pos hbt];have h1:2^i<=m:=(io ⟨m,by omega⟩ ⟨i,by omega⟩ hbt).1;have h2:0<2^i:=pow_pos (by decide);unfold b5;congr 1;refine map_congr_left fun j _=>?_;unfold cell;rw [ih (m - 2^i) (by omega) (by omega)]
   .rw [if_neg hbt,if_neg hbt]
 refine ext_getElem hl fun m h1 h2=>?_;have:=key m h1;rw [getD_eq_getElem?_getD,getD_eq_getElem?_getD,getElem?_eq_getElem h1,getElem?_eq_getElem h2] at this;exact this
theorem oH(tb:List (List Int)):Fl 2 (.tup (tb.map iE)):=Fl.tup fun d hd=>by
 obtain⟨r,_,rfl⟩:=mem_map.mp hd;exact Fl.tup (Fl.ints r)
def a8:FN
 | [.obj c ns fs,.tup td],Q=>c="Family"/\ns=oa/\∃ps:List (List Nat),fs=og ps/\∃tb:List (List Int),td=tb.map iE/\((aB ps).length<=8/\Msa (aB ps) tb/\tb.length=2^(aB ps).length)/\Q (.dat (.bl true))
 | _,_=>False
def dU:Nat:=5
def mwd(f a k:Nat):List Nat:=[97+a,97+(f+k) % 26,97+a]
theorem B2(f a:Nat){n:Nat}(hn:n<=26):((List.range n).map (mwd f a)).Nodup:=by
 refine pairwise_map.mpr (List.Pairwise.imp_of_mem (fun {x y} hx hy h e=>h ?_) nodup_range);have hx:=mem_range.mp hx;have hy:=mem_range.mp hy;have e:=(List.cons.inj (List.cons.inj e).2).1;omega
theorem xk{f a n:Nat}(ha:a<26){w:List Nat}(h:w∈(List.range n).map (mwd f a)):w.length=3/\Lts w:=by
 obtain⟨k,_,rfl⟩:=mem_map.mp h;have:=mod_lt (f+k) (show 0<26 by decide);refine⟨rfl,fun c hc=>?_⟩;unfold mwd at hc;simp only [mem_cons,not_mem_nil,or_false] at hc;rcases hc with rfl|rfl|rfl <;> omega
def aS:FR
 | .own ds,[.int m],Q=>∃zs:List Int,ds=zs.map .int/\(Dk zs/\2<=zs.length/\zs.length<=10000)/\∃n:Nat,m=(n:Int)/\n<=26/\∀(ps:List (List Nat)) (ys:List Int),ps.length=n->Pcs 60 ps->(aB ps).length=n->Q (.own (ps.map .str)) (.own (ys.map .int))
 | _,_,_=>False
def xl:Nat:=7
abbrev p8:FN:=D0
def fG:PTS:=(bX (cK [none,some 0] (qH (ah (pFz (yX (bj 0))) ar)) (al 0) (pBI (pOp yD (pFz (pOp Dl (pSl 1) (pSl 0))) (pFz (pC (.int 1))))) (bj 0)))
theorem oI(m:Int)(Q:PV->Prop)(h:bu ([.int m]) Q):dz fG kH ([.int m]) Q:=by
 show fG _ [some (.dat (.int m))];obtain⟨k,rfl,hk,q⟩:=h;have hb:=wb ⟨k,hk⟩;have hb8:kF (k:Int)<=8:=zi ⟨k,hk⟩;have hb:(List.range (kF (k:Int))).filter k.testBit=mem k:=hb;walk_at "r"
 refine cfR (fun j=>k.testBit j) (fun j=>nD j) (fun j hj v K1 K2 k1 k2=>?_) (fun v=>?_)
 .have e:=xb k j;show (0:Int)<=(j:Int)/\fN (Builtin.bitAnd ((k:Int) / 2^(j:Int).toNat) 1 != 0) _ _;refine⟨by omega,?_⟩;rw [e]
  cases h:k.testBit j with
  | true=>exact k1 _ h
  | false=>exact k2 _ h
 .rw [toNat_natCast,hb];exact q
theorem qX:∀ds Q,bu ds Q->dz fG kH ds Q:=fun ds Q h=>by
 unfold bu at h
 split at h
 .exact oI _ _ h
 .exact h.elim
def c6:PTS:=(aH (ku (pB (pOp (wT true) (pSl 3) (pFz (b4 bu (ah (pFz (bj 2)) ar))))) (bX (pUn vz (pFz (pC (.int 1))))) cE) (aH (aZ (pOp Bg (pSl 2) (pFz (pOp zJ (pFz (pC (.int 1))) (pSl 3)))) (al 4)) (bX (BI (pFz (cK [none,some 3,some 1,some 4,some 0] (cT (b4 bu (ah (pFz (bj 4)) ar))) (al 0) jr (pOp cr (pFz (pOp fIx (pFz (pOp fIx (pSl 2) (pSl 3))) (pSl 0))) (pFz (pOp fIx (pFz (pOp fIx (pFz (rq "Family" ["pieces","kept","words","left","laps","total"] 4 (pSl 4))) (pSl 0))) (pSl 1)))))) (pC (.int 0))))))
theorem j8(c:Str)(ns:List Str)(fs:List D)(e:D)(m i:Int)(Q:PV->Prop)(h:a7 ([.obj c ns fs,e,.int m,.int i]) Q):dz c6 gO ([.obj c ns fs,e,.int m,.int i]) Q:=by
 show c6 _ [some (.dat (.obj c ns fs)),some (.dat (e)),some (.dat (.int m)),some (.dat (.int i)),none];obtain⟨rfl,rfl,ps,rfl,k,rfl,j,rfl,tb,⟨ht,hn,hk,hj,hkr⟩,q⟩:=h;have h256:=cM hn;have hkk:k<256:=by omega
 have hfl:=vM (mem k);have hin:=mF j (mem k);unfold ms at q;walk_at "r";rw [hin]
 by_cases hb:k.testBit j=true
 .have hmem:=(mem_iff hkk).mpr hb;rw [if_pos hb] at q;rw [decide_eq_true hmem];obtain⟨hle,hsub⟩:=io ⟨k,hkk⟩ ⟨j,by omega⟩ hb;have hle:2^j<=k:=hle
  have er:(k:Int) - 1*2^(j:Int).toNat=((k - 2^j:Nat):Int):=by
   rw [toNat_natCast,Int.one_mul,natCast_sub hle,natCast_pow];rfl
  have hml:=uj (k - 2^j);have hrl:k - 2^j<tb.length:=hkr hb;have hr2:k - 2^j<2^(aB ps).length:=Nat.lt_of_le_of_lt (sub_le _ _) hk;have hrk:k - 2^j<256:=Nat.lt_of_le_of_lt (sub_le _ _) hkk;walk_at "r";rw [er];walk_at "r"
  refine cm1 (e:=nD) (xs:=mem (k - 2^j)) (fun x=>.int (cell tb (k - 2^j) x+lp (aB ps) x j)) (fun x hx v K1 k1=>?_) (fun v=>?_)
  .have hxb:=(mem_iff hrk).mp hx;have hxn:x<(aB ps).length:=dS hr2 hxb;have hw:=ht.wid _ hrl;walk_at "r";refine Bm ht.sq ⟨_,DC (by rw [ht.len];exact hrl),?_⟩;walk_at "r";refine Bm (ht.row _ hrl) ⟨_,oB (by omega),?_⟩;walk_at "r";refine⟨_,zh hxn,?_⟩;walk_at "r";refine⟨_,ui hj,?_⟩;walk_at "r";exact k1 _
  walk_at "r"
  refine⟨b5 (aB ps) tb k j,by unfold b5;rw [map_map];rfl,?_,?_⟩
  .intro h0;rw [h0] at q;exact q
  .intro h0 mx hm1 hm2;rw [<- lA hm1 hm2] at q;exact q
 .have hmem:¬ j∈mem k:=fun z=>hb ((mem_iff hkk).mp z);rw [if_neg hb] at q;rw [decide_eq_false hmem];walk_at "r";exact q
theorem lC:∀ds Q,a7 ds Q->dz c6 gO ds Q:=fun ds Q h=>by
 unfold a7 at h
 split at h
 .exact j8 _ _ _ _ _ _ _ h
 .exact h.elim
def eE(E:D->Prop):PTS:=(aH (aZ (wK "Family" ["pieces","kept","words","left","laps","total"] aX (bj 0) ar) (al 1)) (aH (ku (pB (pOp fGt (pSl 1) (pFz (pC (.int 8))))) (tW E (Br "TooGreat" "most" (ah (pFz (pC (.int 8))) ar))) cE) (aH (aZ (lM ar) (al 2)) (aH (gc (qH (ah (pFz (pOp zJ (pFz (pC (.int 1))) (pSl 1))) ar)) (al 3) (fb (vo 2 (pCB dy (ah (pFz (cK [none,some 0,some 2,some 3] (qH (ah (pFz (bj 1)) ar)) (al 0) jr (BO (b4 a7 (ah (pFz (bj 1)) (ah (pFz (bj 2)) (ah (pFz (bj 3)) (ah (pFz (bj 0)) ar)))))))) ar))))) (bX (pCB dy (ah (pSl 2) ar)))))))
theorem mT(c:Str)(ns:List Str)(fs:List D)(Q:PV->Prop)(E:D->Prop)(h:bd ([.obj c ns fs]) Q E):Ds eE jE ([.obj c ns fs]) Q E:=by
 show eE E _ [some (.dat (.obj c ns fs)),none,none,none];obtain⟨rfl,rfl,ps,rfl,hn,qe,q⟩:=h;generalize hws:aB ps=ws at hn qe q;have hwl:(aB ps).length=ws.length:=by rw [hws]
 walk_at "r";rw [hwl]
 refine ej (fun c=>?_) (fun c=>?_)
 .walk_at "r";exact qe (by omega)
 .have h8:ws.length<=8:=by omega
  have q:=q h8;have h256:=cM h8;have hM:0<=(ws.length:Int)/\(ws.length:Int)<=1000000/\(1:Int).natAbs<2^64:=⟨by omega,by omega,by decide⟩
  have e1:=DE ws.length;have hr2:(-1000000:Int)<=1*2^(ws.length:Int).toNat:=by rw [e1];exact Int.le_trans (show (-1000000:Int)<=0 by decide) (natCast_nonneg _)
  have hr3:(1:Int)*2^(ws.length:Int).toNat<=1000000:=by rw [e1];exact Int.le_trans (ofNat_le.mpr h256) (by decide)
  walk_at "r";rw [e1,toNat_natCast];generalize hN:2^ws.length=N at h256 q
  refine⟨fun k ρ=>∃(f0:PV) (tb:List (List Int)) (v3:Option PV),(f0=.dat (.obj "Family" oa (og ps)))/\Msa ws tb/\tb.length=k/\ρ=[some f0,some (.dat (.int (ws.length:Int))),some (.own (tb.map iE)),v3],⟨_,[],_,rfl,fun m hm=>absurd hm (not_lt_zero m),rfl,rfl⟩,?_,?_⟩
  .rintro k ρ _ hk rfl ⟨f0,tb,v3,rfl,hG,htl,rfl⟩;have htm:(tb.map iE).length=tb.length:=length_map _;walk_at "r"
   refine cmR (fun i=>.int (ms ws tb k i)) (fun i hi v K1 k1=>?_) (fun v=>?_)
   .have hi:i<ws.length:=by rw [toNat_natCast] at hi;exact hi
    have cond:DD (.lst (tb.map iE)) tb (aB ps).length/\(aB ps).length<=8/\k<2^(aB ps).length/\i<(aB ps).length/\(k.testBit i=true->k - 2^i<tb.length):=by
     rw [hws];refine⟨zk hG,h8,by omega,hi,fun hb=>?_⟩;have h1:2^i<=k:=(io ⟨k,by omega⟩ ⟨i,by omega⟩ hb).1;have h2:0<2^i:=pow_pos (by decide);omega
    walk_at "r";refine⟨tb,cond,?_⟩;walk_at "r";rw [hws];exact k1 _
   .have hml:((List.range (ws.length:Int).toNat).map fun i=>D.int (ms ws tb k i)).length<=8:=by rw [length_map,length_range,toNat_natCast];exact h8
    walk_at "r";refine⟨_,tb++[(List.range ws.length).map fun i=>ms ws tb tb.length i],some (.dat (.int (k:Int))),rfl,uk h8 (by omega) hG,by rw [length_append,htl];rfl,?_⟩;rw [map_append,toNat_natCast,htl,show (List.range ws.length).map (fun i=>D.int (ms ws tb k i))=((List.range ws.length).map fun i=>ms ws tb k i).map D.int by rw [map_map];rfl];rfl
  .rintro ρ ⟨f0,tb,v3,rfl,hG,htl,rfl⟩;have htm:(tb.map iE).length=tb.length:=length_map _;walk_at "r";exact q tb hG htl
theorem oJ:∀ds Q E,bd ds Q E->Ds eE jE ds Q E:=fun ds Q E h=>by
 unfold bd at h
 split at h
 .exact mT _ _ _ _ _ h
 .exact h.elim
def qa:PTS:=(aH (gc (C4 (ah (pFz (pOp Bg (pFz (pCB vp (ah (pFz (pCB iT (ah (pSl 0) ar))) (ah (pFz (pCB iT (ah (pSl 1) ar))) ar)))) (pFz (pC (.int 1))))) (ah (pFz (pC (.int 0))) (ah (pFz (pUn vz (pFz (pC (.int 1))))) ar)))) (al 2) (ku (pB (pSM yr (bj 0) (ah (pFz (fQ (pSl 1) gE (e9 (bj 2)))) ar))) (bX (bj 2)) cE)) (bX (pC (.int 0))))
theorem zw(a b:List Nat)(Q:PV->Prop)(h:eP ([.str a,.str b]) Q):dz qa xf ([.str a,.str b]) Q:=by
 show qa _ [some (.dat (.str a)),some (.dat (.str b)),none];obtain⟨⟨a0,a1⟩,⟨b0,b1⟩,q⟩:=h;have hm:(if (b.length:Int)<(a.length:Int) then (b.length:Int) else (a.length:Int))=((min a.length b.length:Nat):Int):=by split <;> omega
 walk_at "r"
 refine⟨fun i ρ=>(∃v2:Option PV,ρ=[some (.dat (.str a)),some (.dat (.str b)),v2])/\∀j,min a.length b.length - i<=j->j<min a.length b.length->¬ b.take j <:+ a,⟨⟨_,rfl⟩,fun j h1 h2=>by omega⟩,?_,?_⟩
 .rintro i ρ d hi ed ⟨⟨v2,rfl⟩,ih⟩;have hi:i<(((if (b.length:Int)<(a.length:Int) then (b.length:Int) else (a.length:Int)) - 1) - 0).toNat:=hi;have ed:d=.int (((if (b.length:Int)<(a.length:Int) then (b.length:Int) else (a.length:Int)) - 1) - (i:Int)):=ed;rw [hm] at hi ed;obtain⟨k,hk,hk2⟩:∃k:Nat,(((min a.length b.length:Nat):Int) - 1) - (i:Int)=(k:Int)/\k=min a.length b.length - 1 - i:=⟨min a.length b.length - 1 - i,by omega,rfl⟩
  rw [hk] at ed;subst ed;walk_at "r";rw [gY]
  refine ej (fun c=>?_) (fun c=>?_)
  .walk_at "r"
   rw [show gg a b=k from lr ⟨by omega,c,fun j h1 h2=>by
    rcases lt_or_ge k j with h|h
    .exact absurd h2 (ih j (by omega) h1)
    .exact h⟩] at q
   exact q
  .refine⟨⟨_,rfl⟩,fun j h1 h2=>?_⟩
   by_cases hj:j=k
   .rw [hj];exact c
   .exact ih j (by omega) h2
 .rintro ρ ⟨⟨v2,rfl⟩,ih⟩;rw [hm] at ih;walk_at "r"
  rw [show gg a b=0 from lr ⟨by omega,by rw [take_zero];exact nil_suffix,fun j h1 h2=>by
   rcases eq_zero_or_pos j with h|h
   .omega
   .exact absurd h2 (ih j (by omega) h1)⟩] at q
  exact q
theorem B3:∀ds Q,eP ds Q->dz qa xf ds Q:=fun ds Q h=>by
 unfold eP at h
 split at h
 .exact zw _ _ _ h
 .exact h.elim
def eG:PTS:=(bX (pCB dy (ah (pFz (cK [none,some 0] (cT (bj 0)) (al 0) jr (pCB dy (ah (pFz (cK [none,some 0] (cT (bj 1)) (al 0) jr (b4 eP (ah (pFz (bj 1)) (ah (pFz (bj 0)) ar))))) ar)))) ar)))
theorem mU(ds:List D)(Q:PV->Prop)(h:bE ([.tup ds]) Q):dz eG jF ([.tup ds]) Q:=by
 show eG _ [some (.dat (.tup ds))];obtain⟨ws,rfl,⟨hn,hw⟩,q⟩:=h;have hlm:(ws.map D.str).length=ws.length:=length_map _
 have rr:∀f:List Nat->D,(List.range (ws.map D.str).length).map (fun k=>f (pw ws k))=ws.map f:=fun f=>by
  rw [hlm];apply ext_getElem?;intro k;rw [getElem?_map,getElem?_map]
  by_cases hk:k<ws.length
  .rw [getElem?_range hk,fR hk];rfl
  .rw [getElem?_eq_none (by rw [length_range];omega),getElem?_eq_none (by omega)];rfl
 walk_at "r"
 refine vB (fun τ=>∃v,τ=[v,some (.dat (.tup (ws.map .str)))]) (fun k=>.tup (ws.map fun v=>.int (gg (pw ws k) v:Int))) ?_ ?_ ?_
 .exact⟨_,rfl⟩
 .rintro k τ d hk ed ⟨v,rfl⟩ K1 k1;rw [fg hk] at ed;subst ed;have w1:=hw _ (gJ (show k<ws.length by omega));walk_at "r"
  refine vB (fun τ=>∃v,τ=[v,some (.dat (.str (pw ws k)))]) (fun j=>.int (gg (pw ws k) (pw ws j):Int)) ?_ ?_ ?_
  .exact⟨_,rfl⟩
  .rintro j τ d hj ed ⟨v,rfl⟩ K2 k2;rw [fg hj] at ed;subst ed;have w2:=hw _ (gJ (show j<ws.length by omega));walk_at "r";exact k2 _ ⟨_,rfl⟩
  .rintro τ ⟨v,rfl⟩;rw [rr (fun w=>D.int (gg (pw ws k) w:Int))];walk_at "r";exact k1 _ ⟨_,rfl⟩
 .rintro τ ⟨v,rfl⟩;rw [rr (fun w=>D.tup (ws.map fun v=>.int (gg w v:Int)))];walk_at "r";exact q
theorem oK:∀ds Q,bE ds Q->dz eG jF ds Q:=fun ds Q h=>by
 unfold bE at h
 split at h
 .exact mU _ _ h
 .exact h.elim
def fH:PTS:=(aH (ku (pOr (x5 (pB (zF .str (pSl 0)))) (x5 (pB (sS fLe fLe (pSl 1) (pFz (pCB iT (ah (pSl 0) ar))) (pSl 2))))) (bX (pC (.bl false))) cE) (bX (pCB Dc (ah (pFz (cK [none] (cT (bj 0)) (al 0) jr (sS fLe fLe (pFz (pC (.str [97]))) (pSl 0) (pFz (pC (.str [122])))))) ar))))
theorem oM(d:D)(a b:Int)(Q:PV->Prop)(h:cf ([d,.int a,.int b]) Q):dz fH kI ([d,.int a,.int b]) Q:=by
 show fH _ [some (.dat (d)),some (.dat (.int a)),some (.dat (.int b))];obtain⟨hd,hl,q⟩:=h
 cases d with
 | str l =>
  have hl:l.length<=1000000:=hl;walk_at "r"
  refine ej (fun c1=>?_) (fun c1=>?_)
  .walk_at "r"
   refine qE (fun c2=>?_) (fun c2=>?_)
   .walk_at "r";rw [show vC (.str l) a b=false by rw [ln,decide_eq_false c2,Bool.and_false];rfl] at q;exact q
   .walk_at "r"
    refine vB (fun τ=>∃v,τ=[v]) (fun k=>.bl (ltB (l.getD k 0))) ?_ ?_ ?_
    .exact⟨_,rfl⟩
    .rintro k τ _ hk rfl ⟨v,rfl⟩ K1 k1;walk_at "r"
     refine qE (fun c=>?_) (fun c=>?_)
     .have hc:97<=l.getD k 0:=of_decide_eq_true (by rw [<- n4];rw [decide_eq_false c];rfl);walk_at "r";show K1 (.bl (!decide (([122]:List Nat)<[l.getD k 0]))) _;rw [n4];rw [show ltB (l.getD k 0)=decide (l.getD k 0<=122) by unfold ltB;rw [decide_eq_true hc];rfl] at k1;exact k1 _ ⟨_,rfl⟩
     .have hc:¬ 97<=l.getD k 0:=of_decide_eq_false (by rw [<- n4,decide_eq_true c];rfl);walk_at "r";rw [show ltB (l.getD k 0)=false by unfold ltB;rw [decide_eq_false hc];rfl] at k1;exact k1 _ ⟨_,rfl⟩
    .rintro τ ⟨v,rfl⟩;walk_at "r";refine⟨(List.range l.length).map fun k=>ltB (l.getD k 0),by rw [map_map];rfl,?_⟩
     have e:vC (.str l) a b=(((List.range l.length).map fun k=>ltB (l.getD k 0)).all id):=by
      rw [ln,decide_eq_true c1,decide_eq_true c2,Bool.and_self,Bool.true_and,et];rw [all_map];rfl
     rw [e] at q;exact q
  .walk_at "r";rw [show vC (.str l) a b=false by rw [ln,decide_eq_false c1,Bool.false_and];rfl] at q;exact q
 | non=>walk_at "r";exact q
 | bl b=>walk_at "r";exact q
 | int i=>walk_at "r";exact q
 | ty n=>cases hd
 | lst ds=>walk_at "r";exact q
 | tup ds=>walk_at "r";exact q
 | scr ns=>cases hd
 | dic ks ds=>walk_at "r";exact q
 | obj c ns ds=>cases hd
 | exc c ns ds=>cases hd
theorem qY:∀ds Q,cf ds Q->dz fH kI ds Q:=fun ds Q h=>by
 unfold cf at h
 split at h
 .exact oM _ _ _ _ h
 .exact h.elim
def cO:PTS:=(bX (pSM tm (bj 0) (ah (pSl 1) ar)))
theorem jL(a b:List Nat)(Q:PV->Prop)(h:aM ([.str a,.str b]) Q):dz cO fT ([.str a,.str b]) Q:=by
 show cO _ [some (.dat (.str a)),some (.dat (.str b))];walk_at "r";exact h
theorem j9:∀ds Q,aM ds Q->dz cO fT ds Q:=fun ds Q h=>by
 unfold aM at h
 split at h
 .exact jL _ _ _ h
 .exact h.elim
def cI:PTS:=(aH (ku (pB (pOp fGt (pFz (pCB iT (ah (pSl 0) ar))) (pFz (pC (.int 40))))) nV cE) (gc (sW (ah (pFz (bj 0)) ar)) (qN 2 (iA (al 1) (iA (al 2) sV))) (ku (x5 (pB (wL cf [] (ah (pFz (bj 2)) (ah (pFz (pC (.int 1))) (ah (pFz (pC (.int 60))) ar)))))) nV cE)))
theorem iY(d:D)(Q:PV->Prop)(h:aU ([d]) Q):dz cI fm ([d]) Q:=by
 show cI _ [some (.dat (d)),none,none];obtain⟨ws,hd,⟨hn,hp⟩,q⟩:=h;have hlm:(ws.map D.str).length=ws.length:=length_map _
 rcases hd with rfl|rfl
 .walk_at "r"
  refine⟨fun k ρ=>∃v1 v2:Option PV,ρ=[some (.dat (.lst (ws.map .str))),v1,v2],⟨_,_,rfl⟩,?_,?_⟩
  .rintro k ρ d hk ed ⟨v1,v2,rfl⟩;have ed:d=.tup [.int k,itD (ws.map D.str) k]:=ed;rw [fg hk] at ed;subst ed;have hw:=hp _ (gJ (show k<ws.length by omega));have ht:vC (.str (pw ws k)) 1 60=true:=tw.mpr hw;have h1:(pw ws k).length<=1000000:=by have:=hw.2.1;omega
   walk_at "r";refine x0 ht ?_;exact⟨_,_,rfl⟩
  .rintro ρ ⟨v1,v2,rfl⟩;exact q
 .walk_at "r"
  refine⟨fun k ρ=>∃v1 v2:Option PV,ρ=[some (.dat (.tup (ws.map .str))),v1,v2],⟨_,_,rfl⟩,?_,?_⟩
  .rintro k ρ d hk ed ⟨v1,v2,rfl⟩;have ed:d=.tup [.int k,itD (ws.map D.str) k]:=ed;rw [fg hk] at ed;subst ed;have hw:=hp _ (gJ (show k<ws.length by omega));have ht:vC (.str (pw ws k)) 1 60=true:=tw.mpr hw;have h1:(pw ws k).length<=1000000:=by have:=hw.2.1;omega
   walk_at "r";refine x0 ht ?_;exact⟨_,_,rfl⟩
  .rintro ρ ⟨v1,v2,rfl⟩;exact q
theorem jM:∀ds Q,aU ds Q->dz cI fm ds Q:=fun ds Q h=>by
 unfold aU at h
 split at h
 .exact iY _ _ h
 .exact h.elim
def cv:PTS:=(bX (pOp fGe (pFz (b4 aM (ah (pFz (bj 1)) (ah (pFz (bj 0)) ar)))) (pFz (pC (.int 0)))))
theorem iq(a b:List Nat)(Q:PV->Prop)(h:aC ([.str a,.str b]) Q):dz cv eQ ([.str a,.str b]) Q:=by
 show cv _ [some (.dat (.str a)),some (.dat (.str b))];walk_at "r";exact h
theorem iZ:∀ds Q,aC ds Q->dz cv eQ ds Q:=fun ds Q h=>by
 unfold aC at h
 split at h
 .exact iq _ _ _ h
 .exact h.elim
def fJ:PTS:=(aH (aZ (pOp fIx (pSl 0) (pSl 1)) (al 2)) (aH (aZ (cK [none,some 2] (cT (bj 0)) (al 0) (pB (pOp fGt (pFz (pCB iT (ah (pSl 0) ar))) (pFz (pCB iT (ah (pSl 1) ar))))) (bj 0)) (al 3)) (bX (x8 (pOp (wT true) (pSl 2) (pFz (fQ (pSl 0) gE (e9 (bj 1))))) (x9 (pCB Dd (ah (pFz (cK [none,some 2] (cT (bj 3)) (al 0) jr (b4 aC (ah (pFz (bj 1)) (ah (pFz (bj 0)) ar))))) ar)))))))
theorem oN(ds:List D)(i:Int)(Q:PV->Prop)(h:bK ([.tup ds,.int i]) Q):dz fJ kJ ([.tup ds,.int i]) Q:=by
 show fJ _ [some (.dat (.tup ds)),some (.dat (.int i)),none,none];obtain⟨ws,rfl,⟨hn,hw⟩,hi,q⟩:=h;obtain⟨k,rfl⟩:∃k:Nat,i=(k:Int):=⟨i.toNat,by omega⟩
 have hk:k<ws.length:=by omega
 have hlm:(ws.map D.str).length=ws.length:=length_map _;have w1:=hw _ (gJ hk);walk_at "r";refine⟨_,gf hk rfl,?_⟩;walk_at "r"
 refine cfm (fun τ=>∃v,τ=[v,some (.dat (.str (pw ws k)))]) (fun j=>if (pw ws k).length<(pw ws j).length then some (.str (pw ws j)) else none) ?_ ?_ ?_
 .exact⟨_,rfl⟩
 .rintro j τ d hj ed ⟨v,rfl⟩ K1 K2 k1 k2;rw [fg hj] at ed;subst ed;have w2:=hw _ (gJ (show j<ws.length by omega));walk_at "r"
  refine ej (fun c=>?_) (fun c=>?_)
  .walk_at "r";exact k1 _ _ (by rw [if_pos (by omega)]) ⟨_,rfl⟩
  .exact k2 _ (by rw [if_neg (by omega)]) ⟨_,rfl⟩
 .rintro τ ⟨v,rfl⟩
  have e1:(List.range (ws.map D.str).length).filterMap (fun j=>if (pw ws k).length<(pw ws j).length then some (D.str (pw ws j)) else none)=(ws.filter fun o=>decide ((pw ws k).length<o.length)).map D.str:=by
   rw [hlm,vN (fun w=>if (pw ws k).length<w.length then some (D.str w) else none) ws,<- cq];congr 1;funext w
   by_cases h:(pw ws k).length<w.length
   .rw [if_pos h,if_pos (decide_eq_true h)]
   .rw [if_neg h,if_neg (by rw [decide_eq_false h];decide)]
  rw [e1];have hll:(ws.filter fun o=>decide ((pw ws k).length<o.length)).length<=ws.length:=length_filter_le ..;generalize hL:(ws.filter fun o=>decide ((pw ws k).length<o.length))=ls at hll ⊢;have hlm2:(ls.map D.str).length=ls.length:=length_map _;have c1:eW (ws.map D.str) none (some (k:Int))=(ws.take k).map D.str:=by rw [gY,map_take]
  have hfl:(eW (ws.map D.str) none (some (k:Int))).all D.fl=true:=by rw [c1];exact tO _
  have hin:inD (.str (pw ws k)) (eW (ws.map D.str) none (some (k:Int)))=decide (pw ws k∈ws.take k):=by rw [c1];exact lu _ _
  have hkb:cH ws k=(!inD (.str (pw ws k)) (eW (ws.map D.str) none (some (k:Int))) && !ls.any fun o=>eY (pw ws k) o):=by
   unfold cH;rw [hin,hL]
  rw [toNat_natCast,hkb] at q;walk_at "r"
  refine lh (zC (fun c=>?_) (fun c=>?_))
  .walk_at "r";have c:inD (.str (pw ws k)) (eW (ws.map D.str) none (some (k:Int)))=true:=c;rw [c] at q;exact q
  .have c:inD (.str (pw ws k)) (eW (ws.map D.str) none (some (k:Int)))=false:=c;rw [c,Bool.not_false,Bool.true_and] at q;walk_at "r"
   refine vB (fun τ=>∃v,τ=[v,some (.dat (.str (pw ws k)))]) (fun j=>.bl (eY (pw ws k) (pw ls j))) ?_ ?_ ?_
   .exact⟨_,rfl⟩
   .rintro j τ d hj ed ⟨v,rfl⟩ K1 k1;rw [fg hj] at ed;subst ed;walk_at "r";exact k1 _ ⟨_,rfl⟩
   .rintro τ ⟨v,rfl⟩;walk_at "r"
    refine⟨ls.map fun o=>eY (pw ws k) o,?_,?_⟩
    .rw [hlm2,map_map]
     conv=>rhs;rw [<- pR ls,map_map]
     rfl
    .rw [show ((ls.map fun o=>eY (pw ws k) o).any id)=ls.any (fun o=>eY (pw ws k) o) by rw [any_map];rfl];walk_at "r";exact q
theorem qZ:∀ds Q,bK ds Q->dz fJ kJ ds Q:=fun ds Q h=>by
 unfold bK at h
 split at h
 .exact oN _ _ _ h
 .exact h.elim
def eH:PTS:=(aH (aZ (pCB ym (ah (pFz (cK [none,some 0,some 2] (cT (bj 1)) (al 0) (pB (b4 aC (ah (pFz (pOp fIx (pSl 1) (pSl 2))) (ah (pFz (pOp fIx (pSl 1) (pSl 0))) ar)))) (bj 0))) ar)) (al 3)) (bX (Cc (ah (pFz (bj 2)) (ah (pFz (bj 3)) (ah (pFz (b4 aM (ah (pFz (pOp fIx (pSl 0) (pSl 3))) (ah (pFz (pOp fIx (pSl 0) (pSl 2))) ar)))) ar))))))
theorem mV(ds ks:List D)(i:Int)(Q:PV->Prop)(h:bw ([.tup ds,.tup ks,.int i]) Q):dz eH jG ([.tup ds,.tup ks,.int i]) Q:=by
 show eH _ [some (.dat (.tup ds)),some (.dat (.tup ks)),some (.dat (.int i)),none];obtain⟨ws,rfl,rfl,⟨hn,hw⟩,hi,q⟩:=h;obtain⟨k,rfl⟩:∃k:Nat,i=(k:Int):=⟨i.toNat,by omega⟩
 have hk:k<ws.length:=by omega
 rw [toNat_natCast] at q;have hkl:=h9 ws;have hkm:((aI ws).map nD).length=(aI ws).length:=length_map _;walk_at "r"
 refine cfm (fun τ=>∃v,τ=[v,some (.dat (.tup (ws.map .str))),some (.dat (.int (k:Int)))]) (fun j=>if eY (pw ws k) (pw ws ((aI ws).getD j 0))=true then some (nD ((aI ws).getD j 0)) else none) ?_ ?_ ?_
 .exact⟨_,rfl⟩
 .rintro j τ d hj ed ⟨v,rfl⟩ K1 K2 k1 k2;have hj2:(aI ws).getD j 0<ws.length:=fi (mem_of_getElem? (by rw [getD_eq_getElem?_getD,getElem?_eq_getElem (show j<(aI ws).length by omega)];rfl));rw [tN hj] at ed;subst ed;generalize (aI ws).getD j 0=z at hj2 k1 k2 ⊢;walk_at "r";refine⟨_,gf hk rfl,?_⟩;walk_at "r";refine⟨_,gf hj2 rfl,?_⟩;walk_at "r"
  cases hc:eY (pw ws k) (pw ws z) with
  | true=>walk_at "r";exact k1 _ _ (by rw [if_pos hc];rfl) ⟨_,rfl⟩
  | false=>walk_at "r";exact k2 _ (by rw [if_neg (by rw [hc];decide)]) ⟨_,rfl⟩
 .rintro τ ⟨v,rfl⟩
  have e1:(List.range ((aI ws).map nD).length).filterMap (fun j=>if eY (pw ws k) (pw ws ((aI ws).getD j 0))=true then some (nD ((aI ws).getD j 0)) else none)=((jw ws k).map fun j=>((j:Nat):Int)).map D.int:=by
   rw [hkm,vO (fun j=>if eY (pw ws k) (pw ws j)=true then some (nD j) else none) (aI ws),cq (fun j=>eY (pw ws k) (pw ws j)) nD,map_map];rfl
  rw [e1];obtain⟨h0,hh0⟩:=qO hw hk;walk_at "r";refine⟨by rw [length_map];exact length_pos_of_mem hh0,fun m hm hle=>?_⟩;obtain⟨z,hz,rfl⟩:=mem_map.mp hm;have hz2:z<ws.length:=fi (mem_filter.mp hz).1;have hho:pQ ws k=z:=tM hz fun a ha=>by have:=hle _ (mem_map_of_mem ha);omega
  walk_at "r";refine⟨_,gf hz2 rfl,?_⟩;walk_at "r";refine⟨_,gf hk rfl,?_⟩;walk_at "r";unfold di at q;rw [hho] at q;exact q
theorem oO:∀ds Q,bw ds Q->dz eH jG ds Q:=fun ds Q h=>by
 unfold bw at h
 split at h
 .exact mV _ _ _ _ h
 .exact h.elim
def cP:PTS:=(aH (fb (b4 aU (ah (pFz (bj 1)) ar))) (aH (jv "Family" [] "pieces" 0 (pCB dy (ah (pSl 1) ar))) (aH (aZ (Ba false (ah (pFz (pCB iT (ah (pFz (rq "Family" ["pieces"] 0 (pSl 0))) ar))) ar)) (al 2)) (aH (jv "Family" ["pieces"] "kept" 0 (pCB dy (ah (pFz (cK [none,some 0] (cT (bj 2)) (al 0) (pB (b4 bK (ah (pFz (rq "Family" ["pieces"] 0 (pSl 1))) (ah (pFz (bj 0)) ar)))) (bj 0))) ar))) (aH (jv "Family" ["pieces","kept"] "words" 0 (pCB dy (ah (pFz (cK [none,some 0] (cT (rq "Family" ["pieces","kept"] 1 (pSl 0))) (al 0) jr (pOp fIx (pFz (rq "Family" ["pieces","kept"] 0 (pSl 1))) (pSl 0)))) ar))) (aH (jv "Family" ["pieces","kept","words"] "left" 0 (pCB dy (ah (pFz (cK [none,some 0] (cT (bj 2)) (al 0) (pB (pOp (wT true) (pSl 0) (pFz (rq "Family" ["pieces","kept","words"] 1 (pSl 1))))) (b4 bw (ah (pFz (rq "Family" ["pieces","kept","words"] 0 (pSl 1))) (ah (pFz (rq "Family" ["pieces","kept","words"] 1 (pSl 1))) (ah (pFz (bj 0)) ar)))))) ar))) (aH (jv "Family" ["pieces","kept","words","left"] "laps" 0 (b4 bE (ah (pFz (rq "Family" ["pieces","kept","words","left"] 2 (pSl 0))) ar))) (jv "Family" ["pieces","kept","words","left","laps"] "total" 0 (pCB vq (ah (pFz (cK [none] (cT (rq "Family" ["pieces","kept","words","left","laps"] 2 (pSl 0))) (al 0) jr (pCB iT (ah (pSl 0) ar)))) ar))))))))))
theorem jN(d:D)(Q:PV->PV->Prop)(h:aW (.ins "Family" [] []) ([d]) Q):rz cP fU (.ins "Family" [] []) ([d]) Q:=by
 show cP _ [some (.ins "Family" [] []),some (.dat (d)),none];obtain⟨ws,hd,⟨hn,hp⟩,q⟩:=h;have hlm:(ws.map D.str).length=ws.length:=length_map _;have hkl:=h9 ws;have hkm:((aI ws).map nD).length=(aI ws).length:=length_map _;have hrl:(rp 0 (((ws.map D.str).length:Nat):Int).toNat).length=ws.length:=by rw [ia];omega
 have hk1:ws.length<=1000/\∀w∈ws,w.length<=10000:=⟨by omega,fun w hw=>by have:=(hp w hw).2.1;omega⟩
 have hk2:ws.length<=1000/\∀w∈ws,w.length<=60:=⟨by omega,fun w hw=>(hp w hw).2.1⟩
 walk_at "r";refine⟨ws,hd,⟨hn,hp⟩,?_⟩
 rcases hd with rfl|rfl
 .walk_at "r"
  refine cfm (fun τ=>∃v,τ=[v,some (.ins "Family" ["pieces"] [.tup (ws.map .str)])]) (fun j=>if cH ws j=true then some (nD j) else none) ?_ ?_ ?_
  .exact⟨_,rfl⟩
  .rintro j τ d hj ed ⟨v,rfl⟩ K1 K2 k1 k2;have hj2:j<ws.length:=by rw [ia] at hj;omega
   rw [lv hj] at ed;subst ed;walk_at "r";rw [toNat_natCast]
   cases hc:cH ws j with
   | true=>walk_at "r";exact k1 _ _ (by rw [if_pos hc];rfl) ⟨_,rfl⟩
   | false=>walk_at "r";exact k2 _ (by rw [if_neg (by rw [hc];decide)]) ⟨_,rfl⟩
  .rintro τ ⟨v,rfl⟩
   have e1:(List.range (rp 0 (((ws.map D.str).length:Nat):Int).toNat).length).filterMap (fun j=>if cH ws j=true then some (nD j) else none)=(aI ws).map nD:=by
    rw [ia,hlm,toNat_natCast,cq (cH ws) nD];rfl
   rw [e1];walk_at "r"
   refine vB (fun τ=>∃v,τ=[v,some (.ins "Family" ["pieces","kept"] [.tup (ws.map .str),.tup ((aI ws).map nD)])]) (fun k=>.str (pw ws ((aI ws).getD k 0))) ?_ ?_ ?_
   .exact⟨_,rfl⟩
   .rintro j τ d hj ed ⟨v,rfl⟩ K1 k1;have hj2:(aI ws).getD j 0<ws.length:=fi (mem_of_getElem? (by rw [getD_eq_getElem?_getD,getElem?_eq_getElem (show j<(aI ws).length by omega)];rfl));rw [tN hj] at ed;subst ed;walk_at "r";refine⟨_,gf hj2 rfl,?_⟩;walk_at "r";exact k1 _ ⟨_,rfl⟩
   .rintro τ ⟨v,rfl⟩
    have e2:(List.range ((aI ws).map nD).length).map (fun k=>D.str (pw ws ((aI ws).getD k 0)))=(aB ws).map D.str:=by
     rw [hkm,et (fun j=>D.str (pw ws j)) (aI ws)];unfold aB;rw [map_map];rfl
    rw [e2];have hwl:=fF ws;have hwm:((aB ws).map D.str).length=(aB ws).length:=length_map _;have hwp:=fE hp;have hwq:(aB ws).length<=1000/\∀w∈aB ws,0<w.length/\w.length<=10000:=⟨by omega,fun w hw=>⟨(hwp w hw).1,by have:=(hwp w hw).2.1;omega⟩⟩
    have hfl:((aI ws).map nD).all D.fl=true:=vM _;walk_at "r"
    refine cfm (fun τ=>∃v,τ=[v,some (.ins "Family" ["pieces","kept","words"] [.tup (ws.map .str),.tup ((aI ws).map nD),.tup ((aB ws).map .str)])]) (fun j=>if (!decide (j∈aI ws))=true then some (di ws j) else none) ?_ ?_ ?_
    .exact⟨_,rfl⟩
    .rintro j τ d hj ed ⟨v,rfl⟩ K1 K2 k1 k2;have hj2:j<ws.length:=by omega
     rw [lv hj] at ed;subst ed;have hin:=mF j (aI ws);walk_at "r"
     refine lh (zC (fun c=>?_) (fun c=>?_))
     .have c:inD (.int (j:Int)) ((aI ws).map nD)=true:=c;rw [hin] at c;exact k2 _ (by rw [c];rfl) ⟨_,rfl⟩
     .have c:inD (.int (j:Int)) ((aI ws).map nD)=false:=c;rw [hin] at c;walk_at "r";rw [toNat_natCast];exact k1 _ _ (by rw [c];rfl) ⟨_,rfl⟩
    .rintro τ ⟨v,rfl⟩
     have e3:(List.range (rp 0 (((ws.map D.str).length:Nat):Int).toNat).length).filterMap (fun j=>if (!decide (j∈aI ws))=true then some (di ws j) else none)=(tL ws).map (di ws):=by
      rw [hrl,cq (fun j=>!decide (j∈aI ws)) (di ws)];rfl
     rw [e3];walk_at "r"
     refine vB (fun τ=>∃v,τ=[v]) (fun k=>.int ((pw (aB ws) k).length:Int)) ?_ ?_ ?_
     .exact⟨_,rfl⟩
     .rintro j τ d hj ed ⟨v,rfl⟩ K1 k1;rw [fg hj] at ed;subst ed;walk_at "r";exact k1 _ ⟨_,rfl⟩
     .rintro τ ⟨v,rfl⟩
      have e4:(List.range ((aB ws).map D.str).length).map (fun k=>D.int ((pw (aB ws) k).length:Int))=((aB ws).map fun w=>(w.length:Int)).map D.int:=by
       rw [hwm,map_map]
       conv=>rhs;rw [<- pR (aB ws),map_map]
       rfl
      rw [e4];walk_at "r";exact q
 .walk_at "r"
  refine cfm (fun τ=>∃v,τ=[v,some (.ins "Family" ["pieces"] [.tup (ws.map .str)])]) (fun j=>if cH ws j=true then some (nD j) else none) ?_ ?_ ?_
  .exact⟨_,rfl⟩
  .rintro j τ d hj ed ⟨v,rfl⟩ K1 K2 k1 k2;have hj2:j<ws.length:=by rw [ia] at hj;omega
   rw [lv hj] at ed;subst ed;walk_at "r";rw [toNat_natCast]
   cases hc:cH ws j with
   | true=>walk_at "r";exact k1 _ _ (by rw [if_pos hc];rfl) ⟨_,rfl⟩
   | false=>walk_at "r";exact k2 _ (by rw [if_neg (by rw [hc];decide)]) ⟨_,rfl⟩
  .rintro τ ⟨v,rfl⟩
   have e1:(List.range (rp 0 (((ws.map D.str).length:Nat):Int).toNat).length).filterMap (fun j=>if cH ws j=true then some (nD j) else none)=(aI ws).map nD:=by
    rw [ia,hlm,toNat_natCast,cq (cH ws) nD];rfl
   rw [e1];walk_at "r"
   refine vB (fun τ=>∃v,τ=[v,some (.ins "Family" ["pieces","kept"] [.tup (ws.map .str),.tup ((aI ws).map nD)])]) (fun k=>.str (pw ws ((aI ws).getD k 0))) ?_ ?_ ?_
   .exact⟨_,rfl⟩
   .rintro j τ d hj ed ⟨v,rfl⟩ K1 k1;have hj2:(aI ws).getD j 0<ws.length:=fi (mem_of_getElem? (by rw [getD_eq_getElem?_getD,getElem?_eq_getElem (show j<(aI ws).length by omega)];rfl));rw [tN hj] at ed;subst ed;walk_at "r";refine⟨_,gf hj2 rfl,?_⟩;walk_at "r";exact k1 _ ⟨_,rfl⟩
   .rintro τ ⟨v,rfl⟩
    have e2:(List.range ((aI ws).map nD).length).map (fun k=>D.str (pw ws ((aI ws).getD k 0)))=(aB ws).map D.str:=by
     rw [hkm,et (fun j=>D.str (pw ws j)) (aI ws)];unfold aB;rw [map_map];rfl
    rw [e2];have hwl:=fF ws;have hwm:((aB ws).map D.str).length=(aB ws).length:=length_map _;have hwp:=fE hp;have hwq:(aB ws).length<=1000/\∀w∈aB ws,0<w.length/\w.length<=10000:=⟨by omega,fun w hw=>⟨(hwp w hw).1,by have:=(hwp w hw).2.1;omega⟩⟩
    have hfl:((aI ws).map nD).all D.fl=true:=vM _;walk_at "r"
    refine cfm (fun τ=>∃v,τ=[v,some (.ins "Family" ["pieces","kept","words"] [.tup (ws.map .str),.tup ((aI ws).map nD),.tup ((aB ws).map .str)])]) (fun j=>if (!decide (j∈aI ws))=true then some (di ws j) else none) ?_ ?_ ?_
    .exact⟨_,rfl⟩
    .rintro j τ d hj ed ⟨v,rfl⟩ K1 K2 k1 k2;have hj2:j<ws.length:=by omega
     rw [lv hj] at ed;subst ed;have hin:=mF j (aI ws);walk_at "r"
     refine lh (zC (fun c=>?_) (fun c=>?_))
     .have c:inD (.int (j:Int)) ((aI ws).map nD)=true:=c;rw [hin] at c;exact k2 _ (by rw [c];rfl) ⟨_,rfl⟩
     .have c:inD (.int (j:Int)) ((aI ws).map nD)=false:=c;rw [hin] at c;walk_at "r";rw [toNat_natCast];exact k1 _ _ (by rw [c];rfl) ⟨_,rfl⟩
    .rintro τ ⟨v,rfl⟩
     have e3:(List.range (rp 0 (((ws.map D.str).length:Nat):Int).toNat).length).filterMap (fun j=>if (!decide (j∈aI ws))=true then some (di ws j) else none)=(tL ws).map (di ws):=by
      rw [hrl,cq (fun j=>!decide (j∈aI ws)) (di ws)];rfl
     rw [e3];walk_at "r"
     refine vB (fun τ=>∃v,τ=[v]) (fun k=>.int ((pw (aB ws) k).length:Int)) ?_ ?_ ?_
     .exact⟨_,rfl⟩
     .rintro j τ d hj ed ⟨v,rfl⟩ K1 k1;rw [fg hj] at ed;subst ed;walk_at "r";exact k1 _ ⟨_,rfl⟩
     .rintro τ ⟨v,rfl⟩
      have e4:(List.range ((aB ws).map D.str).length).map (fun k=>D.int ((pw (aB ws) k).length:Int))=((aB ws).map fun w=>(w.length:Int)).map D.int:=by
       rw [hwm,map_map]
       conv=>rhs;rw [<- pR (aB ws),map_map]
       rfl
      rw [e4];walk_at "r";exact q
theorem ka:∀p ds Q,p.isOwn=true->aW p ds Q->rz cP fU p ds Q:=fun p ds Q _ h=>by
 unfold aW at h
 split at h
 .exact jN _ _ h
 .exact h.elim
def cQ:PTS:=(bX (pCB iT (ah (pFz (rq "Family" ["pieces","kept","words","left","laps","total"] 2 (pSl 0))) ar)))
theorem jO(c:Str)(ns:List Str)(fs:List D)(Q:PV->Prop)(h:aX ([.obj c ns fs]) Q):dz cQ fV ([.obj c ns fs]) Q:=by
 show cQ _ [some (.dat (.obj c ns fs))];obtain⟨rfl,rfl,ws,rfl,q⟩:=h;walk_at "r";rw [length_map];exact q
theorem kc:∀ds Q,aX ds Q->dz cQ fV ds Q:=fun ds Q h=>by
 unfold aX at h
 split at h
 .exact jO _ _ _ _ h
 .exact h.elim
def dD:PTS:=(aH (aZ (pOp cr (pFz (pOp cr (pFz (pOp cr (pFz (pOp gH (pSl 0) (pFz (pC (.int 2305843009213693951))))) (pFz (pOp nQ (pFz (pOp nQ (pSl 1) (pSl 1))) (pFz (pC (.int 48271))))))) (pFz (pOp nQ (pSl 1) (pFz (pC (.int 9973))))))) (pFz (pC (.int 20021)))) (al 2)) (aH (aZ (pOp gH (pSl 2) (pFz (pC (.int 2305843009213693951)))) (al 2)) (aH (aZ (pOp gH (pFz (pOp nQ (pSl 2) (pSl 2))) (pFz (pC (.int 2305843009213693951)))) (al 2)) (aH (aZ (pOp gH (pFz (pOp nQ (pFz (pOp cr (pFz (pOp cr (pSl 2) (pFz (pOp nQ (pSl 1) (pFz (pC (.int 16807))))))) (pFz (pC (.int 11))))) (pFz (pC (.int 69621))))) (pFz (pC (.int 2305843009213693951)))) (al 2)) (bX (pOp Bh (pFz (pOp gH (pFz (pOp nQ (pSl 2) (pSl 2))) (pFz (pC (.int 2305843009213693951))))) (pFz (pC (.int 4096)))))))))
theorem lD(c k:Int)(Q:PV->Prop)(h:bp ([.int c,.int k]) Q):dz dD iF ([.int c,.int k]) Q:=by
 show dD _ [some (.dat (.int c)),some (.dat (.int k)),none];obtain⟨⟨h0,h1⟩,q⟩:=h;walk_at "r";exact q _ (ediv_nonneg (emod_nonneg _ (by decide)) (by decide))
theorem mW:∀ds Q,bp ds Q->dz dD iF ds Q:=fun ds Q h=>by
 unfold bp at h
 split at h
 .exact lD _ _ _ h
 .exact h.elim
def eI:PTS:=(aH (aZ (pOp cr (pFz (pCB yo (ah (pSl 0) ar))) (pFz (lM (ah (pFz (pCB iT (ah (pSl 0) ar))) ar)))) (al 2)) (aH (aZ (lM ar) (al 3)) (aH (aZ (pC (.int 0)) (al 4)) (aH (nW (pB (pOp fLt (pFz (pCB iT (ah (pSl 3) ar))) (pSl 1))) (aH (gc (cT (bj 2)) (al 5) (aH (aZ (bj 5) (al 6)) (aH (mz (ku (pOr (pB (pOp fGt (pSl 4) (pFz (pC (.int 0))))) (pB (pOp fLt (pSl 5) (pFz (pOp Es (pFz (pC (.int 10))) (pFz (pC (.int 18)))))))) (aH (fb (vo 3 (pOp gH (pFz (b4 bp (ah (pFz (bj 5)) (ah (pFz (pOp cr (pFz (pCB iT (ah (pSl 3) ar))) (pFz (pC (.int 1))))) ar)))) (pFz (pC (.int 1000)))))) (aZ (pC (.int 0)) (al 6))) cE)) (nW (Cd (pB (pOp fGt (pSl 6) (pFz (pC (.int 0))))) (pB (pOp fLt (pFz (pCB iT (ah (pSl 3) ar))) (pSl 1)))) (aH (fb (vo 3 (pOp gH (pSl 6) (pFz (pC (.int 1000)))))) (aZ (pOp Bh (pSl 6) (pFz (pC (.int 1000)))) (al 6))))))) (aZ (pOp cr (pSl 4) (pFz (pC (.int 1)))) (al 4)))) (bX (pK (pFz (fQ (pSl 3) gE (e9 (bj 1))))))))))
theorem mX(ns:List Int)(mo:Int)(Q:PV->Prop)(h:bF ([.scr ns,.int mo]) Q):dz eI jH ([.scr ns,.int mo]) Q:=by
 show eI _ [some (.dat (.scr ns)),some (.dat (.int mo)),none,none,none,none,none];obtain⟨⟨hn,h0,h1⟩,q⟩:=h;obtain⟨n,rfl⟩:∃n:Nat,mo=(n:Int):=⟨mo.toNat,by omega⟩
 have ecs:ns.map D.int++[D.int (ns.length:Int)]=(ns++[(ns.length:Int)]).map D.int:=by rw [map_append];rfl
 have hnm:(ns.map D.int).length=ns.length:=length_map _;walk_at "r";rw [ecs];generalize hcs:ns++[(ns.length:Int)]=cs;have hcl:cs.length=ns.length+1:=by rw [<- hcs,length_append];rfl
 have hcm:(cs.map D.int).length=cs.length:=length_map _;refine⟨fun m ρ=>∃(x:Option PV) (zs:List Int) (tn:Nat) (v5 v6:Option PV),(x=some (.own (cs.map .int))\/x=some (.dat (.lst (cs.map .int))))/\Dk zs/\zs.length<=n+65/\tn<=zs.length/\m=n - zs.length/\ρ=[some (.dat (.scr ns)),some (.dat (.int (n:Int))),x,some (.own (zs.map .int)),some (.dat (.int (tn:Int))),v5,v6],⟨n,_,[],0,_,_,.inl rfl,nofun,zero_le _,zero_le _,rfl,rfl⟩,?_⟩
 rintro m ρ ⟨x,zs,tn,v5,v6,hx,hz,hzl,htn,hm,rfl⟩;have hzm:(zs.map D.int).length=zs.length:=length_map _
 have fin:∀zs:List Int,Dk zs->n<=zs.length->Q (.own ((zs.take n).map D.int).reverse):=fun zs hz hl=>by
  rw [<- map_reverse];refine q _ (fun x hx=>hz x (mem_of_mem_take (mem_reverse.mp hx))) ?_;rw [length_reverse,length_take,toNat_natCast];omega
 have p18:((10:Int)^(18:Nat))=1000000000000000000:=by decide
 rcases hx with rfl|rfl <;> (
  walk_at "r"
  refine ej (fun c0=>?_) (fun c0=>?_)
  .have c0:zs.length<n:=by omega
   walk_at "r"
   refine⟨fun k ρ=>∃(ys:List Int) (w5 w6:Option PV),Dk ys/\ys.length<=n+k/\zs.length<=ys.length/\(0<k->zs.length<ys.length)/\ρ=[some (.dat (.scr ns)),some (.dat (.int (n:Int))),some (.dat (.lst (cs.map .int))),some (.own (ys.map .int)),some (.dat (.int (tn:Int))),w5,w6],⟨zs,_,_,hz,by omega,Nat.le_refl _,fun z=>absurd z (Nat.lt_irrefl _),rfl⟩,?_,?_⟩
   .rintro k ρ d hk ed ⟨ys,w5,w6,hy,hyl,hzy,hpr,rfl⟩;have hk:k<cs.length:=by rw [hcm] at hk;exact hk
    have ed:d=.int (cs.getD k 0):=by rw [ed];exact yx (by rw [hcm];exact hk)
    subst ed;generalize cs.getD k 0=c;have hym:(ys.map D.int).length=ys.length:=length_map _;walk_at "r"
    refine⟨fun ρ=>∃(us:List Int) (r:Int),Dk us/\0<=r/\((us.length=ys.length+1/\r=0)\/(us.length=ys.length/\0<r))/\ρ=[some (.dat (.scr ns)),some (.dat (.int (n:Int))),some (.dat (.lst (cs.map .int))),some (.own (us.map .int)),some (.dat (.int (tn:Int))),some (.dat (.int c)),some (.dat (.int r))],?_,?_⟩
    .have dm:∀(us:List Int) (z:Int),Dk us->Dk (us++[z % 1000]):=fun us z hu x hx=>by
      rcases mem_append.mp hx with w|w
      .exact hu x w
      .rw [mem_singleton.mp w];exact⟨emod_nonneg _ (by decide),emod_lt_of_pos _ (by decide)⟩
     have app:∀(us:List Int) (z:Int),us.map D.int++[D.int (z % 1000)]=(us++[z % 1000]).map D.int:=fun us z=>by rw [map_append];rfl
     walk_at "r"
     refine ej (fun c1=>?_) (fun c1=>?_)
     .walk_at "r";rintro z hz0;walk_at "r";exact⟨ys++[z % 1000],0,dm ys z hy,by decide,.inl ⟨by rw [length_append];rfl,rfl⟩,by rw [<- app]⟩
     .walk_at "r"
      refine ej (fun c2=>?_) (fun c2=>?_)
      .walk_at "r";rintro z hz0;walk_at "r";exact⟨ys++[z % 1000],0,dm ys z hy,by decide,.inl ⟨by rw [length_append];rfl,rfl⟩,by rw [<- app]⟩
      .have c3:¬ (c<1000000000000000000):=c2;walk_at "r";exact⟨ys,c,hy,by omega,.inr ⟨rfl,by omega⟩,rfl⟩
    .rintro ρ ⟨us,r,hu,hr,hc,rfl⟩
     have dm:∀(us:List Int) (z:Int),Dk us->Dk (us++[z % 1000]):=fun us z hu x hx=>by
      rcases mem_append.mp hx with w|w
      .exact hu x w
      .rw [mem_singleton.mp w];exact⟨emod_nonneg _ (by decide),emod_lt_of_pos _ (by decide)⟩
     have app:∀(us:List Int) (z:Int),us.map D.int++[D.int (z % 1000)]=(us++[z % 1000]).map D.int:=fun us z=>by rw [map_append];rfl
     walk_at "r";refine⟨fun m ρ=>∃(vs:List Int) (r:Int),Dk vs/\0<=r/\us.length<=vs.length/\(vs.length<=n\/vs.length=us.length)/\(vs.length=us.length->us.length=ys.length->0<r)/\m=n - vs.length/\ρ=[some (.dat (.scr ns)),some (.dat (.int (n:Int))),some (.dat (.lst (cs.map .int))),some (.own (vs.map .int)),some (.dat (.int (tn:Int))),some (.dat (.int c)),some (.dat (.int r))],⟨_,us,r,hu,hr,Nat.le_refl _,.inr rfl,fun _ e=>by omega,rfl,rfl⟩,?_⟩
     rintro m ρ ⟨vs,r,hv,hr0,huv,hvn,hrp,hm2,rfl⟩;have hvm:(vs.map D.int).length=vs.length:=length_map _
     have done:¬ (0<r/\vs.length<n)->∃(ys:List Int) (w5 w6:Option PV),Dk ys/\ys.length<=n+(k+1)/\zs.length<=ys.length/\(0<k+1->zs.length<ys.length)/\[some (.dat (.scr ns)),some (.dat (.int (n:Int))),some (.dat (.lst (cs.map .int))),some (.own (vs.map .int)),some (.dat (.int (tn:Int))),some (.dat (.int c)),some (.dat (.int r))]=[some (PV.dat (.scr ns)),some (.dat (.int (n:Int))),some (.dat (.lst (cs.map .int))),some (.own (ys.map .int)),some (.dat (.int (tn:Int))),w5,w6]:=fun hd=>by
      refine⟨vs,_,_,hv,by omega,by omega,fun _=>?_,rfl⟩
      rcases hc with ⟨e1,e2⟩|⟨e1,e2⟩
      .omega
      .by_cases g:vs.length=us.length
       .have:=hrp g e1
        by_cases k0:0<k
        .have:=hpr k0;omega
        .omega
       .omega
     walk_at "r"
     refine ej (fun c3=>?_) (fun c3=>?_)
     .walk_at "r"
      refine ej (fun c4=>?_) (fun c4=>?_)
      .walk_at "r"
       refine⟨_,?_,vs++[r % 1000],r / 1000,dm vs r hv,ediv_nonneg hr0 (by decide),?_,?_,?_,rfl,by rw [<- app]⟩
       .rw [length_append];show n - (vs.length+1)<m;omega
       .rw [length_append];omega
       .rw [length_append];show vs.length+1<=n\/_;omega
       .rw [length_append];intro e;exfalso;have e:vs.length+1=us.length:=e;omega
      .exact done (by omega)
     .exact done (by omega)
   .rintro ρ ⟨ys,w5,w6,hy,hyl,hzy,hpr,rfl⟩;rw [hcm] at hyl hpr;walk_at "r";exact⟨_,by omega,_,ys,tn+1,_,_,.inr rfl,hy,by omega,by have:=hpr (by omega);omega,rfl,by rw [show ((tn:Int)+1)=((tn+1:Nat):Int) by omega]⟩
  .have c0:n<=zs.length:=by omega
   walk_at "r";rw [gY,<- map_take];exact fin zs hz c0)
theorem oP:∀ds Q,bF ds Q->dz eI jH ds Q:=fun ds Q h=>by
 unfold bF at h
 split at h
 .exact mX _ _ _ h
 .exact h.elim
def eJ:PTS:=(bX (C8 0))
theorem mY(ds:List D)(Q:PV->PV->Prop)(h:az (.own ds) ([]) Q):rz eJ jI (.own ds) ([]) Q:=by
 show eJ _ [some (.own ds)];obtain⟨zs,rfl,⟨hz,h0,h1⟩,q⟩:=h;obtain⟨ys,z,rfl⟩:∃ys z,zs=ys++[z]:=⟨zs.dropLast,zs.getLast (ne_nil_of_length_pos h0),(dropLast_concat_getLast _).symm⟩
 have hm:((ys++[z]).map D.int)=ys.map D.int++[D.int z]:=by rw [map_append];rfl
 have hl:(ys.map D.int++[D.int z]).length - 1=(ys.map D.int).length:=by rw [length_append];rfl
 rw [hm];walk_at "r";refine⟨.int z,by rw [hl,getElem?_append_right (Nat.le_refl _),sub_self];rfl,?_⟩;walk_at "r";rw [dropLast_concat];have hzz:=hz z (mem_append_right _ (mem_singleton.mpr rfl));exact q z ys hzz.1 hzz.2 (fun x hx=>hz x (mem_append_left _ hx)) (by rw [length_append];rfl)
theorem oQ:∀p ds Q,p.isOwn=true->az p ds Q->rz eJ jI p ds Q:=fun p ds Q _ h=>by
 unfold az at h
 split at h
 .exact mY _ _ h
 .exact h.elim
def dE:PTS:=(aH (aZ (pC (.str [])) (al 3)) (aH (gc (qH (ah (pFz (bj 2)) ar)) (al 4) (aZ (pOp cr (pSl 3) (pFz (pOp fIx (pSl 1) (pFz (pOp gH (pFz (ci az 0 ar)) (pFz (pCB iT (ah (pSl 1) ar)))))))) (al 3))) (bX (bj 3))))
theorem lE(ds es:List D)(n:Int)(Q:PV->PV->Prop)(h:bq (.own ds) ([.lst es,.int n]) Q):rz dE iG (.own ds) ([.lst es,.int n]) Q:=by
 show dE _ [some (.own ds),some (.dat (.lst es)),some (.dat (.int n)),none,none];obtain⟨zs,rfl,ls,rfl,⟨hl0,hl1,hL⟩,⟨hz,h1⟩,⟨hn0,hn1⟩,q⟩:=h;have hlm:(ls.map fun c=>D.str [c]).length=ls.length:=length_map _;walk_at "r"
 refine⟨fun k ρ=>∃(w:List Nat) (ys:List Int) (v4:Option PV),w.length=k/\Lts w/\(∀c∈w,c∈ls)/\Dk ys/\ys.length+k=zs.length/\ρ=[some (.own (ys.map .int)),some (.dat (.lst (ls.map fun c=>.str [c]))),some (.dat (.int n)),some (.dat (.str w)),v4],⟨[],zs,_,rfl,Lts.nil,(fun c hc=>nomatch hc),hz,rfl,rfl⟩,?_,?_⟩
 .rintro k ρ _ hk rfl ⟨w,ys,v4,hw,hwL,hwc,hy,hyl,rfl⟩;have hk2:(k:Int)<n:=by omega
  have g1:Dk ys/\0<ys.length/\ys.length<=100000:=⟨hy,by omega,by omega⟩
  walk_at "r";rintro z y2 hz0 hz1 hd2 hl2;obtain⟨j,hj⟩:∃j:Nat,z % (ls.length:Int)=(j:Int):=⟨(z % (ls.length:Int)).toNat,by have:=emod_nonneg z (show (ls.length:Int)≠0 by omega);omega⟩
  have hj2:j<ls.length:=by have:=emod_lt_of_pos z (show 0<(ls.length:Int) by omega);omega
  walk_at "r";rw [hlm,hj];refine⟨_,gy (j:=j) (by rw [getElem?_map,getElem?_eq_getElem hj2];rfl) rfl,?_⟩;walk_at "r";refine⟨w++[ls[j]],y2,_,by rw [length_append,hw];rfl,hwL.app (Lts.one (hL _ (getElem_mem hj2))),fun c hc=>?_,hd2,by omega,rfl⟩
  rcases mem_append.mp hc with x|x
  .exact hwc c x
  .rw [mem_singleton.mp x];exact getElem_mem hj2
 .rintro ρ ⟨w,ys,v4,hw,hwL,hwc,hy,hyl,rfl⟩;walk_at "r";exact q w ys hw hwL hwc hy hyl
theorem mZ:∀p ds Q,p.isOwn=true->bq p ds Q->rz dE iG p ds Q:=fun p ds Q _ h=>by
 unfold bq at h
 split at h
 .exact lE _ _ _ _ h
 .exact h.elim
def c7:PTS:=(aH (aZ (pOp gH (pFz (ci az 0 ar)) (pFz (pC (.int 26)))) (al 2)) (aH (aZ (pOp fIx (pFz (lM (ah (pFz (pC (.int 2))) (ah (pFz (pC (.int 2))) (ah (pFz (pC (.int 3))) (ah (pFz (pC (.int 26))) ar)))))) (pFz (pOp gH (pFz (ci az 0 ar)) (pFz (pC (.int 4)))))) (al 3)) (aH (aZ (cK [none,some 2] (qH (ah (pFz (bj 3)) ar)) (al 0) jr (pOp fIx (pFz (pC (.str [97,98,99,100,101,102,103,104,105,106,107,108,109,110,111,112,113,114,115,116,117,118,119,120,121,122]))) (pFz (pOp gH (pFz (pOp cr (pSl 1) (pFz (pOp nQ (pFz (pC (.int 7))) (pSl 0))))) (pFz (pC (.int 26))))))) (al 4)) (aH (aZ (pOp gH (pFz (ci az 0 ar)) (pFz (pC (.int 4)))) (al 5)) (aH (aZ (pOp cr (pFz (pC (.int 1))) (pFz (pOp gH (pFz (ci az 0 ar)) (pFz (pC (.int 6)))))) (al 6)) (aH (aZ (pOp nQ (pFz (ci bq 0 (ah (pFz (bj 4)) (ah (pFz (pOp cr (pFz (pC (.int 2))) (pFz (pOp gH (pFz (ci az 0 ar)) (pFz (pC (.int 9))))))) ar)))) (pFz (pC (.int 9)))) (al 7)) (aH (aZ (lM ar) (al 8)) (aH (gc (qH (ah (pFz (pOp gH (pFz (ci az 0 ar)) (pFz (pOp cr (pSl 1) (pFz (pC (.int 1))))))) ar)) (al 9) (aH (aZ (ci az 0 ar) (al 10)) (aH (aZ (fQ (pSl 7) (e9 (pOp gH (pSl 10) (pFz (pC (.int 9))))) (e9 (pOp cr (pFz (pOp cr (pFz (pOp gH (pSl 10) (pFz (pC (.int 9))))) (pSl 6))) (pFz (pOp Bh (pFz (pOp gH (pFz (pOp Bh (pSl 10) (pFz (pC (.int 9))))) (pFz (pC (.int 5))))) (pFz (pC (.int 3)))))))) (al 11)) (aH (mz (ku (pB (pOp wM (pSl 5) (pFz (pC (.int 2))))) (aZ (ci bq 0 (ah (pFz (bj 4)) (ah (pFz (pOp cr (pFz (pC (.int 1))) (pFz (pOp gH (pSl 10) (pFz (pC (.int 6))))))) ar))) (al 11)) cE)) (aH (mz (ku (pB (pOp wM (pSl 5) (pFz (pC (.int 3))))) (aZ (pOp cr (pFz (pOp cr (pFz (pOp nQ (pFz (pOp fIx (pSl 4) (pFz (pC (.int 0))))) (pFz (pOp gH (pSl 10) (pFz (pC (.int 4))))))) (pFz (pOp fIx (pSl 4) (pFz (pC (.int 1))))))) (pFz (pOp nQ (pFz (pOp fIx (pSl 4) (pFz (pC (.int 0))))) (pFz (pOp gH (pFz (pOp Bh (pSl 10) (pFz (pC (.int 4))))) (pFz (pC (.int 4)))))))) (al 11)) cE)) (fb (vo 8 (bj 11)))))))) (bX (bj 8))))))))))
theorem kd(ds:List D)(mo:Int)(Q:PV->PV->Prop)(h:bn (.own ds) ([.int mo]) Q):rz c7 gP (.own ds) ([.int mo]) Q:=by
 show c7 _ [some (.own ds),some (.dat (.int mo)),none,none,none,none,none,none,none,none,none,none];obtain⟨zs,rfl,⟨hz,h1⟩,⟨hm0,hm1,hm2⟩,q⟩:=h;have g0:Dk zs/\0<zs.length/\zs.length<=100000:=⟨hz,by omega,by omega⟩
 walk_at "r";rintro a y1 ha0 ha1 hd1 hl1;have g1:Dk y1/\0<y1.length/\y1.length<=100000:=⟨hd1,by omega,by omega⟩
 obtain⟨f,hf⟩:∃f:Nat,a % 26=(f:Int):=⟨(a % 26).toNat,by omega⟩
 have hf26:f<26:=by omega
 walk_at "r";rintro b y2 hb0 hb1 hd2 hl2;rw [hf]
 have hm:∃n:Nat,atI [D.int 2,D.int 2,D.int 3,D.int 26] (b % 4)=some (.int (n:Int))/\(n=2\/n=3\/n=26):=by
  rcases (show b % 4=0\/b % 4=1\/b % 4=2\/b % 4=3 by omega) with e|e|e|e <;> rw [e]
  .exact⟨2,rfl,.inl rfl⟩
  .exact⟨2,rfl,.inl rfl⟩
  .exact⟨3,rfl,.inr (.inl rfl)⟩
  .exact⟨26,rfl,.inr (.inr rfl)⟩
 obtain⟨n,en,hn⟩:=hm;have hn26:n<=26:=by omega
 walk_at "r";refine⟨_,en,?_⟩;walk_at "r"
 refine cmR (fun k=>.str [97+(f+7*k) % 26]) (fun k hk v K1 k1=>?_) (fun v=>?_)
 .have hk:k<n:=by rw [toNat_natCast] at hk;exact hk
  have hk26:k<26:=by omega
  walk_at "r";rw [show ((f:Int)+7*(k:Int)) % 26=(((f+7*k) % 26:Nat):Int) by omega];exact⟨_,pY (mod_lt _ (by decide)),k1 _⟩
 rw [toNat_natCast,show (List.range n).map (fun k=>D.str [97+(f+7*k) % 26])=(qS n f).map fun c=>.str [c] by unfold qS;rw [map_map];rfl];have hll:(qS n f).length=n:=by unfold qS;rw [length_map,length_range]
 have hL:=ul n f;generalize qS n f=ls at hll hL;have gl:0<ls.length/\ls.length<=26/\Lts ls:=⟨by omega,by omega,hL⟩
 have hlm:(ls.map fun c=>D.str [c]).length=ls.length:=length_map _;have g2:Dk y2/\0<y2.length/\y2.length<=100000:=⟨hd2,by omega,by omega⟩
 walk_at "r";rintro c y3 hc0 hc1 hd3 hl3;have g3:Dk y3/\0<y3.length/\y3.length<=100000:=⟨hd3,by omega,by omega⟩
 walk_at "r";rintro e y4 he0 he1 hd4 hl4;have g4:Dk y4/\0<y4.length/\y4.length<=100000:=⟨hd4,by omega,by omega⟩
 obtain⟨lo,hlo,hlo6⟩:∃lo:Nat,1+e % 6=(lo:Int)/\1<=lo/\lo<=6:=⟨(1+e % 6).toNat,by omega,by omega,by omega⟩
 walk_at "r";rintro u y5 hu0 hu1 hd5 hl5;rw [hlo];generalize c % 4=so;have g5:Dk y5/\y5.length<=100000:=⟨hd5,by omega⟩
 have g6:0<=2+u % 9/\2+u % 9<=(y5.length:Int):=⟨by omega,by omega⟩
 have u9:0<=u % 9/\u % 9<9:=by omega
 walk_at "r";rintro b0 y6 hb0l hb0L _ hd6 hl6;have w2:(-1000000:Int)<=9/\(9:Int)<=1000000/\Int.toNat 9*b0.length<=1000000:=⟨by decide,by decide,by show 9*_<=_;omega⟩
 walk_at "r";have hbl:(kZ b0 9).length=9*b0.length:=dZ ..;have hbL:Lts (kZ b0 9):=hb0L.rep _;generalize kZ b0 9=bs at hbl hbL;have g7:Dk y6/\0<y6.length/\y6.length<=100000:=⟨hd6,by omega,by omega⟩
 walk_at "r";rintro r y7 hr0 hr1 hd7 hl7;obtain⟨m,hm,hmm⟩:∃m:Nat,r % (mo+1)=(m:Int)/\(m:Int)<=mo:=⟨(r % (mo+1)).toNat,by have:=emod_nonneg r (show mo+1≠0 by omega);omega,by have:=emod_lt_of_pos r (show 0<mo+1 by omega);have:=emod_nonneg r (show mo+1≠0 by omega);omega⟩
 walk_at "r";rw [hm];rw [toNat_natCast]
 refine⟨fun k ρ=>∃(ps:List (List Nat)) (ys:List Int) (v9 v10 v11:Option PV),ps.length=k/\Pcs 60 ps/\Dk ys/\y7.length<=ys.length+7*k/\ys.length<=y7.length/\ρ=[some (.own (ys.map .int)),some (.dat (.int mo)),some (.dat (.int (f:Int))),some (.dat (.int (n:Int))),some (.dat (.lst (ls.map fun c=>.str [c]))),some (.dat (.int so)),some (.dat (.int (lo:Int))),some (.dat (.str bs)),some (.own (ps.map .str)),v9,v10,v11],⟨[],y7,_,_,_,rfl,(fun w hw=>nomatch hw),hd7,Nat.le_refl _,Nat.le_refl _,rfl⟩,?_,?_⟩
 .rintro k ρ _ hk rfl ⟨ps,ys,v9,v10,v11,hpl,hps,hdy,hyl,hyl',rfl⟩;have hpm:(ps.map D.str).length=ps.length:=length_map _;have g8:Dk ys/\0<ys.length/\ys.length<=100000:=⟨hdy,by omega,by omega⟩
  walk_at "r";rintro t y8 ht0 ht1 hd8 hl8;obtain⟨p9,hp9,hp9'⟩:∃p9:Nat,t % 9=(p9:Int)/\p9<9:=⟨(t % 9).toNat,by omega,by omega⟩
  obtain⟨x1,hx1,hx1'⟩:∃x1:Nat,t / 9 % 5 / 3=(x1:Int)/\x1<=1:=⟨(t / 9 % 5 / 3).toNat,by omega,by omega⟩
  walk_at "r";rw [hp9,hx1]
  have cb:eW bs (some (p9:Int)) (some ((p9:Int)+(lo:Int)+(x1:Int)))=(bs.drop p9).take (lo+x1):=by
   rw [show (p9:Int)+(lo:Int)+(x1:Int)=((p9+lo+x1:Nat):Int) by omega,sm,show p9+lo+x1 - p9=lo+x1 by omega]
  rw [cb];have w0:Pc 60 ((bs.drop p9).take (lo+x1)):=⟨by rw [length_take,length_drop];omega,by rw [length_take];omega,(hbL.drop _).take _⟩
  generalize (bs.drop p9).take (lo+x1)=w at w0
  refine⟨fun ρ=>∃(p:List Nat) (yy:List Int),Pc 60 p/\Dk yy/\y8.length<=yy.length+6/\yy.length<=y8.length/\ρ=[some (.own (yy.map .int)),some (.dat (.int mo)),some (.dat (.int (f:Int))),some (.dat (.int (n:Int))),some (.dat (.lst (ls.map fun c=>.str [c]))),some (.dat (.int so)),some (.dat (.int (lo:Int))),some (.dat (.str bs)),some (.own (ps.map .str)),some (.dat (.int (k:Int))),some (.dat (.int t)),some (.dat (.str p))],?_,?_⟩
  .walk_at "r"
   refine ej (fun c=>?_) (fun c=>?_)
   .have g9:Dk y8/\y8.length<=100000:=⟨hd8,by omega⟩
    have g10:0<=1+t % 6/\1+t % 6<=(y8.length:Int):=⟨by omega,by omega⟩
    walk_at "r";rintro w' y9 hw hwL _ hd9 hl9;walk_at "r";exact⟨w',y9,⟨by omega,by omega,hwL⟩,hd9,by omega,by omega,rfl⟩
   .exact⟨w,y8,w0,hd8,by omega,by omega,rfl⟩
  rintro ρ ⟨p,y9,pc,hd9,hl9,hl9',rfl⟩;walk_at "r"
  refine⟨fun ρ=>∃(p:List Nat),Pc 60 p/\ρ=[some (.own (y9.map .int)),some (.dat (.int mo)),some (.dat (.int (f:Int))),some (.dat (.int (n:Int))),some (.dat (.lst (ls.map fun c=>.str [c]))),some (.dat (.int so)),some (.dat (.int (lo:Int))),some (.dat (.str bs)),some (.own (ps.map .str)),some (.dat (.int (k:Int))),some (.dat (.int t)),some (.dat (.str p))],?_,?_⟩
  .walk_at "r"
   refine ej (fun c=>?_) (fun c=>?_)
   .have s0:=pZ (ls:=ls) (j:=0) (by omega);have s1:=pZ (ls:=ls) (j:=1) (by omega);have l0:=xg hL (j:=0) (by omega);have l1:=xg hL (j:=1) (by omega);generalize ls.getD 0 0=c0 at s0 l0;generalize ls.getD 1 0=c1 at s1 l1;have w3:(-1000000:Int)<=t % 4/\t % 4<=1000000/\(t % 4).toNat*[c0].length<=1000000:=⟨by omega,by omega,by show _*1<=_;omega⟩
    have w4:(-1000000:Int)<=t / 4 % 4/\t / 4 % 4<=1000000/\(t / 4 % 4).toNat*[c0].length<=1000000:=⟨by omega,by omega,by show _*1<=_;omega⟩
    have r3:(kZ [c0] (t % 4)).length=(t % 4).toNat*1:=dZ ..;have r4:(kZ [c0] (t / 4 % 4)).length=(t / 4 % 4).toNat*1:=dZ ..;walk_at "r";refine⟨_,s0,?_⟩;walk_at "r";refine⟨_,s1,?_⟩;walk_at "r";refine⟨_,s0,?_⟩;walk_at "r";exact⟨_,⟨by rw [length_append,length_append];show 0<_+1+_;omega,by rw [length_append,length_append];show _+1+_<=60;omega,((l0.rep _).app l1).app (l0.rep _)⟩,rfl⟩
   .exact⟨p,pc,rfl⟩
  clear pc p;rintro ρ ⟨p,pc,rfl⟩;walk_at "r";refine⟨ps++[p],y9,_,_,_,by rw [length_append,hpl];rfl,fun w hw=>?_,hd9,by omega,by omega,by rw [map_append];rfl⟩
  rcases mem_append.mp hw with h|h
  .exact hps w h
  .rw [mem_singleton.mp h];exact pc
 .rintro ρ ⟨ps,ys,v9,v10,v11,hpl,hps,hdy,hyl,hyl',rfl⟩;walk_at "r";exact q ps ys (by omega) hps hdy (by omega) (by omega)
theorem lF:∀p ds Q,p.isOwn=true->bn p ds Q->rz c7 gP p ds Q:=fun p ds Q _ h=>by
 unfold bn at h
 split at h
 .exact kd _ _ _ h
 .exact h.elim
def dF:PTS:=(aH (aZ (lM ar) (al 1)) (aH (gc (sW (ah (pFz (bj 0)) ar)) (qN 2 (iA (al 2) (iA (al 3) sV))) (aH (aZ (cK [none,some 3] (cT (bj 0)) (al 0) (Cd (pB (pOp fGt (pFz (pCB iT (ah (pSl 0) ar))) (pFz (pCB iT (ah (pSl 1) ar))))) (pB (pOp (wT false) (pSl 1) (pSl 0)))) (bj 0)) (al 4)) (ku (Cd (pB (pOp wM (pSl 4) (pFz (lM ar)))) (pB (pOp (wT true) (pSl 3) (pFz (fQ (pSl 0) gE (e9 (bj 2))))))) (fb (vo 1 (bj 3))) cE))) (bX (bj 1))))
theorem lG(ds:List D)(Q:PV->Prop)(h:br ([.lst ds]) Q):dz dF iH ([.lst ds]) Q:=by
 show dF _ [some (.dat (.lst ds)),none,none,none,none];obtain⟨ps,rfl,⟨hn,hw⟩,q⟩:=h;have hlm:(ps.map D.str).length=ps.length:=length_map _;walk_at "r"
 refine⟨fun k ρ=>∃v2 v3 v4:Option PV,ρ=[some (.dat (.lst (ps.map .str))),some (.own ((((List.range k).filter (cH ps)).map (pw ps)).map .str)),v2,v3,v4],⟨_,_,_,rfl⟩,?_,?_⟩
 .rintro k ρ d hk ed ⟨v2,v3,v4,rfl⟩;have hk:k<ps.length:=by rw [hlm] at hk;exact hk
  subst ed;rw [show itD (ps.map D.str) k=.str (pw ps k) from dP (by rw [getElem?_map,fR hk];rfl)];have hpm:=gJ hk;obtain⟨hpl,hpL⟩:=hw _ hpm
  have hml:((((List.range k).filter (cH ps)).map (pw ps)).map D.str).length<=40:=by
   rw [length_map,length_map];refine Nat.le_trans (length_filter_le ..) ?_;rw [length_range];omega
  walk_at "r"
  refine cf1 (fun o=>decide ((pw ps k).length<o.length) && eY (pw ps k) o) (fun o=>.str o) (fun o ho v K1 K2 k1 k2=>?_) (fun v=>?_)
  .walk_at "r"
   refine ej (fun c=>?_) (fun c=>?_)
   .walk_at "r"
    cases hs:eY (pw ps k) o with
    | true=>exact k1 _ (by rw [decide_eq_true (by omega:(pw ps k).length<o.length)];exact hs)
    | false=>exact k2 _ (by rw [hs,Bool.and_false])
   .exact k2 _ (by rw [decide_eq_false (by omega:¬ (pw ps k).length<o.length),Bool.false_and])
  .have c1:eW (ps.map D.str) none (some (k:Int))=(ps.take k).map D.str:=by rw [gY,map_take]
   have hfl:(eW (ps.map D.str) none (some (k:Int))).all D.fl=true:=by rw [c1];exact tO _
   have hin:inD (.str (pw ps k)) (eW (ps.map D.str) none (some (k:Int)))=decide (pw ps k∈ps.take k):=by rw [c1];exact lu _ _
   have eF:=oG (ws:=ps.filter fun o=>decide ((pw ps k).length<o.length) && eY (pw ps k) o) fun w h=>(hw w (mem_filter.mp h).1).2;have eD:=mR (ps.filter fun o=>decide ((pw ps k).length<o.length) && eY (pw ps k) o);have hkb:=zl (ps:=ps) (k:=k)
   have hrs:((List.range (k+1)).filter (cH ps)).map (pw ps)=((List.range k).filter (cH ps)).map (pw ps)++(if cH ps k=true then [pw ps k] else []):=by
    rw [range_succ,filter_append,map_append];congr 1;rw [filter_cons];split <;> rfl
   rw [hrs];generalize ((List.range k).filter (cH ps)).map (pw ps)=ks at hml ⊢;have hk1:(ks.map D.str).length<=40:=hml;walk_at "r";rw [eD]
   refine ej (fun c=>?_) (fun c=>?_)
   .walk_at "r";rw [hin]
    refine lh (zC (fun c2=>?_) (fun c2=>?_))
    .walk_at "r";have e:cH ps k=false:=by rw [hkb,c2,Bool.not_true,Bool.and_false]
     exact⟨_,_,_,by rw [e,if_neg (by decide),append_nil]⟩
    .walk_at "r";have e:cH ps k=true:=by rw [hkb,c2,decide_eq_true c];rfl
     exact⟨_,_,_,by rw [e,if_pos rfl,map_append];rfl⟩
   .walk_at "r";have e:cH ps k=false:=by rw [hkb,decide_eq_false c,Bool.false_and]
    exact⟨_,_,_,by rw [e,if_neg (by decide),append_nil]⟩
 .rintro ρ ⟨v2,v3,v4,rfl⟩;rw [hlm];walk_at "r";exact q
theorem m4:∀ds Q,br ds Q->dz dF iH ds Q:=fun ds Q h=>by
 unfold br at h
 split at h
 .exact lG _ _ h
 .exact h.elim
def fK:PTS:=(aH (gc (C4 (ah (pFz (pOp Bg (pFz (pCB vp (ah (pFz (pCB iT (ah (pSl 0) ar))) (ah (pFz (pCB iT (ah (pSl 1) ar))) ar)))) (pFz (pC (.int 1))))) (ah (pFz (pC (.int 0))) (ah (pFz (pUn vz (pFz (pC (.int 1))))) ar)))) (al 2) (ku (pB (pOp wM (pFz (fQ (pSl 0) (e9 (pOp Bg (pFz (pCB iT (ah (pSl 0) ar))) (pSl 2))) gE)) (pFz (fQ (pSl 1) gE (e9 (bj 2)))))) (bX (bj 2)) cE)) (bX (pC (.int 0))))
theorem oR(a b:List Nat)(Q:PV->Prop)(h:bB ([.str a,.str b]) Q):dz fK kK ([.str a,.str b]) Q:=by
 show fK _ [some (.dat (.str a)),some (.dat (.str b)),none];obtain⟨a1,⟨b0,b1⟩,q⟩:=h;have hm:(if (b.length:Int)<(a.length:Int) then (b.length:Int) else (a.length:Int))=((min a.length b.length:Nat):Int):=by split <;> omega
 walk_at "r";rw [hm]
 refine⟨fun i ρ=>(∃v2:Option PV,ρ=[some (.dat (.str a)),some (.dat (.str b)),v2])/\∀j,min a.length b.length - i<=j->j<min a.length b.length->¬ b.take j <:+ a,⟨⟨_,rfl⟩,fun j h1 h2=>by omega⟩,?_,?_⟩
 .rintro i ρ d hi ed ⟨⟨v2,rfl⟩,ih⟩;obtain⟨k,hk,hk2⟩:∃k:Nat,(((min a.length b.length:Nat):Int) - 1) - (i:Int)=(k:Int)/\k=min a.length b.length - 1 - i:=⟨min a.length b.length - 1 - i,by omega,rfl⟩
  have hk0:0<k:=by omega
  rw [hk] at ed;subst ed;have cd:eW a (some ((a.length:Int) - (k:Int))) none=a.drop (a.length - k):=by rw [show (a.length:Int) - (k:Int)=((a.length - k:Nat):Int) by omega,l6]
  have ct:=gY b k;walk_at "r";rw [cd,ct]
  refine ej (fun c=>?_) (fun c=>?_)
  .walk_at "r"
   rw [show gg a b=k from lr ⟨by omega,by rw [<- c];exact drop_suffix ..,fun j h1 h2=>by
    rcases lt_or_ge k j with h|h
    .exact absurd h2 (ih j (by omega) h1)
    .exact h⟩] at q
   exact q
  .refine⟨⟨_,rfl⟩,fun j h1 h2=>?_⟩
   by_cases hj:j=k
   .subst hj;intro z;refine c ?_;obtain⟨t,ht⟩:=z;have hl:=congrArg List.length ht;rw [length_append,length_take] at hl;rw [<- ht,show (t++b.take j).length - j=t.length by rw [length_append,length_take];omega,drop_left]
   .exact ih j (by omega) h2
 .rintro ρ ⟨⟨v2,rfl⟩,ih⟩;walk_at "r"
  by_cases a0:0<a.length
  .rw [show gg a b=0 from lr ⟨by omega,by rw [take_zero];exact nil_suffix,fun j h1 h2=>by
    rcases lt_or_ge 0 j with h|h
    .exact absurd h2 (ih j (by omega) h1)
    .exact h⟩] at q
   exact q
  .rw [show gg a b=0 by
    unfold gg;rw [dif_neg];rintro⟨k,hk⟩;have:=hk.1;omega] at q
   exact q
theorem rc:∀ds Q,bB ds Q->dz fK kK ds Q:=fun ds Q h=>by
 unfold bB at h
 split at h
 .exact oR _ _ _ h
 .exact h.elim
def eM:PTS:=(bX (Dt (cK [none,some 0] (cT (bj 0)) (al 0) jr (cK [none,some 0] (cT (bj 1)) (al 0) jr (b4 bB (ah (pFz (bj 1)) (ah (pFz (bj 0)) ar)))))))
theorem m5(ds:List D)(Q:PV->Prop)(h:bG ([.lst ds]) Q):dz eM jJ ([.lst ds]) Q:=by
 show eM _ [some (.dat (.lst ds))];obtain⟨ws,rfl,hwo,q⟩:=h;have hwm:(ws.map D.str).length=ws.length:=length_map _;have hn40:=hwo.1;walk_at "r"
 
 refine cm1 (e:=D.str) (xs:=ws) (fun w=>DF ws w) (fun w hw v K1 k1=>?_) (fun v=>?_)
 .have w1:=hwo.2 w hw;walk_at "r"
  refine cm1 (e:=D.str) (xs:=ws) (fun u=>.int (gg w u:Int)) (fun u hu v K1 k1=>?_) (fun v=>?_)
  .have u1:=hwo.2 u hu;have w2:w.length<=10000:=by omega
   walk_at "r";exact k1 _
  .exact k1 _
 .exact q
theorem oS:∀ds Q,bG ds Q->dz eM jJ ds Q:=fun ds Q h=>by
 unfold bG at h
 split at h
 .exact m5 _ _ h
 .exact h.elim
def cw:PTS:=(aH (aZ (pCB iT (ah (pSl 0) ar)) (al 1)) (BL 2 (wY 1) (ou (zL (aZ (cK [none] (qH (ah (pFz (bj 1)) ar)) (al 0) jr (Cc (ah (pFz (lM (ah (pFz (bj 0)) ar))) (ah (pFz (pC (.int 0))) ar)))) (al 3))) (ou (ug (pB (pOp yA (pSl 3) (pFz (lM ar)))) (ou (zL (aZ (lM ar) (al 4))) (ou (BQ (cT (bj 3)) (qN 2 (iA (al 5) (iA (al 6) sV))) (ou (zL (aZ (pCB vq (ah (pFz (cK [none] (cT (bj 5)) (al 0) jr (pOp zJ (pFz (pC (.int 1))) (pSl 0)))) ar)) (al 7))) (ou (wW 2 (pCB yk (ah (pFz (pOp fIx (pFz (pOp fIx (pSl 2) (pSl 7))) (pFz (pOp fIx (pSl 5) (pFz (pUn vz (pFz (pC (.int 1))))))))) (ah (pSl 6) ar))) (bj 7) (pOp fIx (pSl 5) (pFz (pUn vz (pFz (pC (.int 1))))))) (zL (gc (qH (ah (pFz (bj 1)) ar)) (al 8) (ku (pB (pOp (wT true) (pSl 8) (pSl 5))) (fb (vo 4 (Cc (ah (pFz (pOp cr (pSl 5) (pFz (lM (ah (pFz (bj 8)) ar))))) (ah (pFz (pOp cr (pSl 6) (pFz (pOp fIx (pFz (pOp fIx (pSl 0) (pFz (pOp fIx (pSl 5) (pFz (pUn vz (pFz (pC (.int 1))))))))) (pSl 8))))) ar))))) cE)))))) (zL (aZ (bj 4) (al 3)))))) (Ci 2 (bX (pCB dy (ah (pFz (cK [none] (cT (bj 2)) (al 0) jr (pCB dy (ah (pSl 0) ar)))) ar))))))))
theorem ir(ls:List D)(Q:PV->Prop)(h:aP ([.lst ls]) Q):dz cw eR ([.lst ls]) Q:=by
 show cw _ [some (.dat (.lst ls)),none,none,none,none,none,none,none,none];obtain⟨ws,rfl,hn,q⟩:=h;have h8:ws.length<=8:=by omega
 have h256:=cM h8;have hlm:(eZ ws).length=ws.length:=length_map _;walk_at "r"
 refine cmR (fun i=>.tup [.lst [nD i],.int 0]) (fun i hi v K1 k1=>?_) (fun v=>?_)
 .walk_at "r";exact k1 _
 rw [toNat_natCast,hlm];have e1:(List.range ws.length).map (fun i=>D.tup [.lst [nD i],.int 0])=((List.range ws.length).map fun i=>([i],(0:Int))).map rwD:=by rw [map_map];rfl
 have e2:List.replicate (2^ws.length) (List.replicate ws.length (D.int (-1)))=(List.replicate (2^ws.length) (List.replicate ws.length (-1:Int))).map fun r=>r.map D.int:=by rw [map_replicate,map_replicate]
 rw [e1];walk_at "r";rw [e2];refine⟨fun k ρ rows=>∃(L:Nat) (R:List (List Nat×Int)) (T:List (List Int)) (x3:PV) (v4 v5 v6 v7 v8:Option PV),k+L=ws.length+1/\1<=L/\uo ws L R/\R.length<=4^L/\qV ws T (fun ks=>ks.length<L)/\rows=(T.map fun r=>r.map D.int)/\(x3=.own (R.map rwD)\/x3=.dat (.lst (R.map rwD)))/\ρ=[some (.dat (.lst (eZ ws))),some (.dat (.int (ws.length:Int))),none,some x3,v4,v5,v6,v7,v8],⟨ws.length,1,_,_,_,_,_,_,_,_,rfl,Nat.le_refl _,uq ws,by rw [length_map,length_range];omega,(ut ws).imp (fun ks h1 h2=>by cases ks with|nil=>exact h1 rfl|cons a b=>exact absurd h2 (by show ¬ (b.length+1<1);omega)),rfl,.inl rfl,rfl⟩,?_⟩
 rintro k ρ rows ⟨L,R,T,x3,v4,v5,v6,v7,v8,hk,hL,hR,hRl,hT,rfl,hx,rfl⟩;have eq1:=BY R;have eq2:=zq R;have h4:4^L<=4^5:=pow_le_pow_right (by decide) (by omega);have h4':4^5=1024:=by decide
 have hRm:(R.map rwD).length=R.length:=length_map _;have step:∀v5 v6 v7 v8:Option PV,True:=fun _ _ _ _=>trivial
 rcases hx with rfl|rfl <;> (
  walk_at "r";rw [eq2]
  refine qE (fun c=>?_) (fun c=>?_)
  .have hLn:L<=ws.length:=by
    obtain⟨p,hp⟩:=exists_mem_of_ne_nil R c;obtain⟨p1,p2,p3,_⟩:=hR.ok p hp;rw [<- p1];exact ja p2 p3
   walk_at "r"
   refine⟨fun j ρ rows=>∃(T:List (List Int)) (v5 v6 v7 v8:Option PV),qV ws T (fun ks=>ks.length<L\/ks∈(R.take j).map Prod.fst)/\rows=(T.map fun r=>r.map D.int)/\ρ=[some (.dat (.lst (eZ ws))),some (.dat (.int (ws.length:Int))),none,some (.dat (.lst (R.map rwD))),some (.own (((R.take j).flatMap (rA ws)).map rwD)),v5,v6,v7,v8],⟨T,_,_,_,_,hT.imp (fun ks _ h=>h.elim (fun z=>z) fun h=>by simp at h),rfl,rfl⟩,?_,?_⟩
   .rintro j ρ rows d hj ed ⟨T,v5,v6,v7,v8,hT,rfl,rfl⟩;rw [hRm] at hj;subst ed;have hp:R[j]?=some R[j]:=getElem?_eq_getElem hj;obtain⟨p1,p2,p3,p4⟩:=hR.ok R[j] (getElem_mem hj);rw [dP (show (R.map rwD)[j]?=some (rwD R[j]) by rw [getElem?_map,hp];rfl)];have tf:=uw (ws:=ws) hp;have tf2:=wj hp;generalize R[j]=p at hp p1 p2 p3 p4 tf tf2;obtain⟨pj,pf⟩:=p;have p1:pj.length=L:=p1;have p2:pj.Nodup:=p2;have p3:∀i∈pj,i<ws.length:=p3
    have p4:pf=(ny ws pj:Int):=p4;obtain⟨r,i,e⟩:=spl (js:=pj) (by omega);have hpm:(pj.map nD).length=pj.length:=length_map _;have hnd:=p2;have hlt:=p3;rw [e] at hnd hlt;obtain⟨t1,t2,t3⟩:=wd h8 hT hnd hlt;rw [<- e] at t1 t3;have hlast:atI (pj.map nD) (-1)=some (.int (i:Int)):=by rw [e];exact zu r i
    have hTl:=hT.len;have hTm:(T.map fun r=>r.map D.int).length=T.length:=length_map _;have hTw:=hT.wid _ t1;have hrm:((T.getD (mkN pj) []).map D.int).length=ws.length:=by rw [length_map];exact hTw
    have hacc:(((R.take j).flatMap (rA ws)).map rwD).length<=4096:=by
     rw [length_map];have:=lB ws hn (R.take j);rw [length_take] at this;omega
    show qN 2 _ (.dat (.tup [.lst (pj.map nD),.int pf])) _ _;walk_at "r"
    refine cm1 (e:=nD) (xs:=pj) (fun i=>.int ((2^i:Nat):Int)) (fun i hi v K1 k1=>?_) (fun v=>?_)
    .have hi8:=p3 i hi;have hS:0<=(i:Int)/\(i:Int)<=1000000/\(1:Int).natAbs<2^64:=⟨by omega,by omega,by decide⟩
     have eS:=DE i;show al 0 (.dat (.int (i:Int))) _ _;walk_at "r";rw [eS];exact k1 _
    walk_at "r";refine⟨pj.map fun i=>((2^i:Nat):Int),by rw [map_map];rfl,?_⟩;rw [zr];walk_at "r";rw [xj];refine⟨_,uy t1,?_⟩;walk_at "r";refine⟨_,hlast,?_⟩;walk_at "r";refine⟨_,oB (by omega),?_⟩;walk_at "r";rw [BZ];refine⟨mkN pj,_,by rw [hTm];exact uu t1,wg t1,?_⟩;walk_at "r";refine⟨_,hlast,?_⟩;walk_at "r";refine⟨i,by rw [hrm];exact uu t2,?_⟩;rw [uv]
    have t4:qV ws (uD T (mkN pj) i (max ((T.getD (mkN pj) []).getD i 0) pf)) (fun ks=>ks.length<L\/ks∈(R.take (j+1)).map Prod.fst):=by
     rw [p4];refine t3.imp fun ks _ h=>?_;rw [tf2] at h
     rcases h with h|h
     .exact .inl (.inl h)
     .rcases mem_append.mp h with h|h
      .exact .inl (.inr h)
      .exact .inr (mem_singleton.mp h)
    generalize uD T (mkN pj) i (max ((T.getD (mkN pj) []).getD i 0) pf)=T2 at t4;have hfl:(pj.map nD).all D.fl=true:=vM pj;walk_at "r";rw [toNat_natCast]
    refine⟨fun k2 ρ=>∃v8:Option PV,ρ=[some (.dat (.lst (eZ ws))),some (.dat (.int (ws.length:Int))),none,some (.dat (.lst (R.map rwD))),some (.own (((R.take j).flatMap (rA ws)).map rwD++(((List.range k2).filter fun i=>!decide (i∈pj)).map fun i=>(pj++[i],pf+lp ws (pj.getLastD 0) i)).map rwD)),some (.dat (.lst (pj.map nD))),some (.dat (.int pf)),some (.dat (.int (mkN pj:Int))),v8],⟨v8,by simp⟩,?_,?_⟩
    .rintro k2 ρ _ hk2 rfl ⟨v8,rfl⟩;have hin:inD (.int (k2:Int)) (pj.map nD)=decide (k2∈pj):=mF k2 pj
     have hl2:((((List.range k2).filter fun i=>!decide (i∈pj)).map fun i=>(pj++[i],pf+lp ws (pj.getLastD 0) i)).map rwD).length<=8:=by
      rw [length_map,length_map];refine Nat.le_trans (length_filter_le ..) ?_;rw [length_range];omega
     have hrs:((List.range (k2+1)).filter fun i=>!decide (i∈pj)).map (fun i=>(pj++[i],pf+lp ws (pj.getLastD 0) i))=((List.range k2).filter fun i=>!decide (i∈pj)).map (fun i=>(pj++[i],pf+lp ws (pj.getLastD 0) i))++(if k2∈pj then [] else [(pj++[k2],pf+lp ws (pj.getLastD 0) k2)]):=by
      rw [range_succ,filter_append,map_append];congr 1
      by_cases c:k2∈pj
      .simp [c]
      .simp [c]
     have hld:pj.getLastD 0=i:=by rw [e];exact jK r i
     walk_at "r";rw [hin]
     by_cases c2:k2∈pj
     .rw [decide_eq_true c2];rw [if_pos c2,append_nil] at hrs;walk_at "r";exact⟨_,by rw [hrs]⟩
     .rw [decide_eq_false c2];rw [if_neg c2] at hrs;have hla:(((R.take j).flatMap (rA ws)).map rwD++(((List.range k2).filter fun i=>!decide (i∈pj)).map fun i=>(pj++[i],pf+lp ws (pj.getLastD 0) i)).map rwD).length<=5000:=by rw [length_append];omega
      walk_at "r";refine⟨_,hlast,?_⟩;walk_at "r";refine⟨_,p5 t2,?_⟩;walk_at "r";refine⟨_,ui hk2,?_⟩;walk_at "r";rw [wk];exact⟨_,by rw [hrs,map_append (l₂:=[_]),<- append_assoc,hld];rfl⟩
    .rintro ρ ⟨v8,rfl⟩;refine⟨T2,some (.dat (.lst (pj.map nD))),some (.dat (.int pf)),some (.dat (.int (mkN pj:Int))),v8,t4,rfl,?_⟩;rw [tf,map_append];rfl
   .rintro ρ rows ⟨T,v5,v6,v7,v8,hT,rfl,rfl⟩;rw [hRm,take_length] at hT;rw [hRm,take_length];have hfl:=lB ws hn R;walk_at "r";refine⟨k - 1,by omega,L+1,R.flatMap (rA ws),T,_,_,_,_,_,_,by omega,by omega,qT hR hL,by rw [pow_succ];omega,hT.imps (fun ks h1 h2 h3=>?_),rfl,.inr rfl,rfl⟩
    by_cases e:ks.length=L
    .exact .inr (mem_map.mpr ⟨_,hR.all ks e h1 h2,rfl⟩)
    .exact .inl (by omega)
  .have c:R=[]:=c;subst c;have hst:=qU hR;have hM:=wf h8 hT fun js hj=>by omega
   have hTl:=hT.len;have hTm:(T.map uC).length=T.length:=length_map _;have hwT:=hT.wid;refine (show Ci 2 _ _ _ _ from ?_);unfold Ci;rw [oq,xj];walk_at "r"
   refine cm1 (e:=uC) (xs:=T) iE (fun r hr v K1 k1=>?_) (fun v=>?_)
   .have hrl:(r.map D.int).length<=8:=by
     obtain⟨i,hi,e⟩:=xh (d:=[]) hr;rw [length_map,<- e,hwT i hi];exact h8
    walk_at "r";exact k1 _
   have hTt:(T.map iE).length=T.length:=length_map _;walk_at "r";exact q T hM hTl)
theorem i3:∀ds Q,aP ds Q->dz cw eR ds Q:=fun ds Q h=>by
 unfold aP at h
 split at h
 .exact ir _ _ h
 .exact h.elim
def cR:PTS:=(aH (aZ (pCB iT (ah (pSl 0) ar)) (al 1)) (aH (aZ (lM ar) (al 2)) (aH (gc (qH (ah (pFz (pOp zJ (pFz (pC (.int 1))) (pSl 1))) ar)) (al 3) (aH (aZ (pOp nQ (pFz (lM (ah (pFz (pUn vz (pFz (pC (.int 1))))) ar))) (pSl 1)) (al 4)) (aH (aZ (cK [none,some 3] (qH (ah (pFz (bj 1)) ar)) (al 0) (pB (pOp wM (pFz (pOp yD (pFz (pOp Dl (pSl 1) (pSl 0))) (pFz (pC (.int 1))))) (pFz (pC (.int 1))))) (bj 0)) (al 5)) (aH (gc (cT (bj 5)) (al 6) (aH (aZ (pIf (pB (pOp fGt (pFz (pCB iT (ah (pSl 5) ar))) (pFz (pC (.int 1))))) (pOp fIx (pSl 2) (pFz (pOp Bg (pSl 3) (pFz (pOp zJ (pFz (pC (.int 1))) (pSl 6)))))) (lM ar)) (al 7)) (wG 4 (pCB yB (ah (pFz (pOp cr (pFz (lM (ah (pFz (pC (.int 0))) ar))) (pFz (cK [none,some 7,some 6,some 0] (cT (bj 5)) (al 0) (pB (pOp yA (pSl 0) (pSl 2))) (pOp cr (pFz (pOp fIx (pSl 1) (pSl 0))) (pFz (pOp fIx (pFz (pOp fIx (pSl 3) (pSl 0))) (pSl 2)))))))) ar)) (bj 6)))) (fb (vo 2 (bj 4))))))) (bX (pCB dy (ah (pFz (cK [none] (cT (bj 2)) (al 0) jr (pCB dy (ah (pSl 0) ar)))) ar))))))
theorem jP(ls:List D)(Q:PV->Prop)(h:aY ([.lst ls]) Q):dz cR fW ([.lst ls]) Q:=by
 show cR _ [some (.dat (.lst ls)),none,none,none,none,none,none,none];obtain⟨ws,rfl,hn,q⟩:=h;have hlm:(eZ ws).length=ws.length:=length_map _;have h256:=cM hn;have hM:0<=(ws.length:Int)/\(ws.length:Int)<=1000000/\(1:Int).natAbs<2^64:=⟨by omega,by omega,by decide⟩
 have e1:=DE ws.length;have hr2:(-1000000:Int)<=1*2^(ws.length:Int).toNat:=by rw [e1];exact Int.le_trans (show (-1000000:Int)<=0 by decide) (natCast_nonneg _)
 have hr3:(1:Int)*2^(ws.length:Int).toNat<=1000000:=by rw [e1];exact Int.le_trans (ofNat_le.mpr h256) (by decide)
 have hM2:0<=((eZ ws).length:Int)/\((eZ ws).length:Int)<=1000000/\(1:Int).natAbs<2^64:=by rw [hlm];exact hM
 have hr4:(-1000000:Int)<=1*2^((eZ ws).length:Int).toNat:=by rw [hlm];exact hr2
 have hr5:(1:Int)*2^((eZ ws).length:Int).toNat<=1000000:=by rw [hlm];exact hr3
 walk_at "r";rw [hlm,e1,toNat_natCast];generalize hN:2^ws.length=N at h256 q
 refine⟨fun k ρ=>∃(tb:List (List Int)) (v3 v4 v5 v6 v7:Option PV),Exa ws tb/\tb.length=k/\ρ=[some (.dat (.lst (eZ ws))),some (.dat (.int (ws.length:Int))),some (.own (tb.map uC)),v3,v4,v5,v6,v7],⟨[],_,_,_,_,_,⟨fun r hr=>absurd hr (not_lt_zero r),fun r hr=>absurd hr (not_lt_zero r),fun r hr=>absurd hr (not_lt_zero r)⟩,rfl,rfl⟩,?_,?_⟩
 .rintro k ρ _ hk rfl ⟨tb,v3,v4,v5,v6,v7,hG,htl,rfl⟩;have htm:(tb.map uC).length=tb.length:=length_map _;have w2:(-1000000:Int)<=(ws.length:Int)/\(ws.length:Int)<=1000000/\(ws.length:Int).toNat*[D.int (-1)].length<=1000000:=⟨by omega,by omega,by show _*1<=_;omega⟩
  have er:=zm ws.length;have hk2:k<256:=by omega
  have hkn:k<2^ws.length:=by omega
  walk_at "r";rw [er]
  refine cfR (fun x=>k.testBit x) nD (fun x hx v K1 K2 k1 k2=>?_) (fun v=>?_)
  .have e:=xb k x;show (0:Int)<=(x:Int)/\fN (decide (Builtin.bitAnd ((k:Int) / 2^(x:Int).toNat) 1=1)) _ _;refine⟨by omega,?_⟩;rw [e]
   cases h:k.testBit x with
   | true=>exact k1 _ h
   | false=>exact k2 _ h
  rw [toNat_natCast,DI hn hkn];have hml:=uj k;have hmm:((mem k).map nD).length=(mem k).length:=length_map _;walk_at "r"
  refine⟨fun t ρ=>∃(r:List Int) (v6 v7:Option PV),B0 ws tb k ((mem k).take t) r/\ρ=[some (.dat (.lst (eZ ws))),some (.dat (.int (ws.length:Int))),some (.own (tb.map uC)),some (.dat (.int (k:Int))),some (.own (r.map .int)),some (.dat (.lst ((mem k).map nD))),v6,v7],⟨_,_,_,qW ws tb k,rfl⟩,?_,?_⟩
  .rintro t ρ d ht ed ⟨r,v6,v7,hR,rfl⟩;rw [hmm] at ht;subst ed;have hp:(mem k)[t]?=some (mem k)[t]:=getElem?_eq_getElem ht;have hip:(mem k)[t]∈mem k:=getElem_mem ht;rw [dP (show ((mem k).map nD)[t]?=some (nD (mem k)[t]) by rw [getElem?_map,hp];rfl)];have tk:(mem k).take (t+1)=(mem k).take t++[(mem k)[t]]:=by rw [take_succ,hp];rfl
   generalize (mem k)[t]=i at hp hip tk;have hb:=(mem_iff hk2).mp hip;have hi:i<ws.length:=dS hkn hb;obtain⟨hle,hof⟩:=ic (show k<4096 by omega) hb;have hrl:=hR.len;have hrm:(r.map D.int).length=r.length:=length_map _;have hm1:0<=(i:Int)/\(i:Int)<=1000000/\(1:Int).natAbs<2^64:=⟨by omega,by omega,by decide⟩
   have er2:(k:Int) - 1*2^(i:Int).toNat=((k - 2^i:Nat):Int):=by
    rw [toNat_natCast,Int.one_mul,natCast_sub hle,natCast_pow];rfl
   have h2p:0<2^i:=pow_pos (by decide);have hbel:k - 2^i<tb.length:=by omega
   have hbw:=hG.wid _ hbel;have hmf:=zv (show k<4096 by omega) hb;show al 6 (.dat (.int (i:Int))) _ _;walk_at "r";have mi:(b5 ws tb k i).map D.int=((mem k).filter fun j=>decide (j≠i)).map (fun x=>D.int (cell tb (k - 2^i) x+lp ws x i)):=by rw [hmf,b5,map_map];rfl
   have hol:[D.int 0].length+((b5 ws tb k i).map D.int).length<=1000000:=by
    rw [mi,length_map];have:=length_filter_le (fun j=>decide (j≠i)) (mem k);show 1+_<=_;omega
   refine ej (fun c=>?_) (fun c=>?_)
   .walk_at "r";rw [er2];refine⟨_,uy hbel,?_⟩;walk_at "r"
    refine cf1 (e:=nD) (xs:=mem k) (fun j=>decide (j≠i)) (fun x=>.int (cell tb (k - 2^i) x+lp ws x i)) (fun x hx v K1 K2 k1 k2=>?_) (fun v=>?_)
    .have hxn:x<ws.length:=dS hkn ((mem_iff hk2).mp hx);walk_at "r"
     refine qE (fun e=>?_) (fun e=>?_)
     .have e:x≠i:=fun z=>e (by rw [z]);walk_at "r";refine⟨_,oB (by omega),?_⟩;walk_at "r";refine⟨_,p5 hxn,?_⟩;walk_at "r";refine⟨_,ui hi,?_⟩;walk_at "r";exact k1 _ (decide_eq_true e)
     .exact k2 _ (decide_eq_false fun z=>z (by omega))
    rw [<- mi];walk_at "r";refine⟨0::b5 ws tb k i,rfl,zero_lt_succ _,fun mx hm1 hm2=>?_⟩;rw [lA hm1 hm2];walk_at "r";refine⟨i,Dw (by rw [hrm,hrl];exact hi),?_⟩;rw [<- map_set (f:=D.int)];exact⟨_,_,_,by rw [tk];exact p6 hR hi,rfl⟩
   .have h1:mem k=[i]:=by
     have hl:(mem k).length<=1:=by omega
     cases hm:mem k with
     | nil=>rw [hm] at hip;cases hip
     | cons a b =>
      rw [hm] at hl hip
      cases b with
      | nil=>rw [mem_singleton.mp hip]
      | cons _ _=>exact absurd hl (by show ¬ (_+1+1<=1);omega)
    walk_at "r"
    refine cf1 (e:=nD) (xs:=mem k) (fun j=>decide (j≠i)) (fun x=>.int (cell tb (k - 2^i) x+lp ws x i)) (fun x hx v K1 K2 k1 k2=>?_) (fun v=>?_)
    .rw [h1] at hx;have e:=mem_singleton.mp hx;subst e;walk_at "r";exact k2 _ (decide_eq_false fun z=>z rfl)
    rw [<- mi];walk_at "r";refine⟨0::b5 ws tb k i,rfl,zero_lt_succ _,fun mx hm1 hm2=>?_⟩;rw [lA hm1 hm2];walk_at "r";refine⟨i,Dw (by rw [hrm,hrl];exact hi),?_⟩;rw [<- map_set (f:=D.int)];exact⟨_,_,_,by rw [tk];exact p6 hR hi,rfl⟩
  .rintro ρ ⟨r,v6,v7,hR,rfl⟩;rw [hmm,take_length] at hR;walk_at "r";exact⟨tb++[r],_,_,_,_,_,um hn (by omega) hG (by rw [htl];exact wl hk2 hR),by rw [length_append,htl];rfl,by rw [map_append];rfl⟩
 .rintro ρ ⟨tb,v3,v4,v5,v6,v7,hG,htl,rfl⟩;have hwT:=hG.wid;have hM:=zo hG hn (htl.trans hN.symm);have hTm:(tb.map uC).length=tb.length:=length_map _;walk_at "r"
  refine cm1 (e:=uC) (xs:=tb) iE (fun r hr v K1 k1=>?_) (fun v=>?_)
  .have hrl:(r.map D.int).length<=8:=by
    obtain⟨i,hi,e⟩:=xh (d:=[]) hr;rw [length_map,<- e,hwT i hi];exact hn
   walk_at "r";exact k1 _
  have hTt:(tb.map iE).length=tb.length:=length_map _;walk_at "r";exact q tb hM htl
theorem ke:∀ds Q,aY ds Q->dz cR fW ds Q:=fun ds Q h=>by
 unfold aY at h
 split at h
 .exact jP _ _ h
 .exact h.elim
def fL:PTS:=(aH (ku (pB (pOp fLt (pFz (pCB iT (ah (pSl 0) ar))) (pFz (pC (.int 5))))) (bX (b4 aP (ah (pFz (bj 0)) ar))) cE) (bX (b4 aY (ah (pFz (bj 0)) ar))))
theorem oU(ls:List D)(Q:PV->Prop)(h:bZ ([.lst ls]) Q):dz fL kL ([.lst ls]) Q:=by
 show fL _ [some (.dat (.lst ls))];obtain⟨ws,rfl,hn,q⟩:=h;have hlm:(eZ ws).length=ws.length:=length_map _;walk_at "r"
 refine ej (fun c=>?_) (fun c=>?_)
 .have h4:ws.length<=4:=by omega
  walk_at "r";intro tb h1 h2;walk_at "r";exact q tb h1 h2
 .walk_at "r";intro tb h1 h2;walk_at "r";exact q tb h1 h2
theorem re:∀ds Q,bZ ds Q->dz fL kL ds Q:=fun ds Q h=>by
 unfold bZ at h
 split at h
 .exact oU _ _ h
 .exact h.elim
def dG:PTS:=(aH (aZ (pOp gH (pFz (ci az 0 ar)) (pFz (pC (.int 26)))) (al 1)) (aH (aZ (cK [none,some 1] (qH (ah (pFz (pC (.int 3))) ar)) (al 0) jr (pOp fIx (pFz (pC (.str [97,98,99,100,101,102,103,104,105,106,107,108,109,110,111,112,113,114,115,116,117,118,119,120,121,122]))) (pFz (pOp gH (pFz (pOp cr (pSl 1) (pFz (pOp nQ (pFz (pC (.int 5))) (pSl 0))))) (pFz (pC (.int 26))))))) (al 2)) (aH (aZ (lM ar) (al 3)) (aH (gc (cT (bj 2)) (al 4) (fb (Dz 3 (cK [none,some 4] (cT (bj 2)) (al 0) jr (pOp cr (pSl 1) (pSl 0)))))) (aH (fb (tF 3 (pOp gH (pFz (ci az 0 ar)) (pFz (pC (.int 9)))))) (aH (aZ (pOp gH (pFz (ci az 0 ar)) (pFz (pC (.int 8)))) (al 5)) (bX (Dt (pOp cr (pFz (fQ (pSl 3) (e9 (bj 5)) gE)) (pFz (fQ (pSl 3) gE (e9 (bj 5)))))))))))))
theorem lH(ds:List D)(Q:PV->PV->Prop)(h:bD (.own ds) ([]) Q):rz dG iI (.own ds) ([]) Q:=by
 show dG _ [some (.own ds),none,none,none,none,none];obtain⟨zs,rfl,⟨hz,h3,hzu⟩,q⟩:=h;have g0:Dk zs/\0<zs.length/\zs.length<=100000:=⟨hz,by omega,by omega⟩
 walk_at "r";rintro a y1 ha0 ha1 hd1 hl1;obtain⟨f,hf⟩:∃f:Nat,a % 26=(f:Int):=⟨(a % 26).toNat,by omega⟩
 have hf26:f<26:=by omega
 walk_at "r";rw [hf]
 refine cmR (fun k=>.str [l5 f k]) (fun k hk v K1 k1=>?_) (fun v=>?_)
 .have hk:k<3:=hk;walk_at "r";rw [show ((f:Int)+5*(k:Int)) % 26=(((f+5*k) % 26:Nat):Int) by omega];exact⟨_,pY (mod_lt _ (by decide)),k1 _⟩
 have e3:(List.range (Int.toNat 3)).map (fun k=>D.str [l5 f k])=(List.range 3).map fun k=>D.str [l5 f k]:=rfl;rw [e3];have l3:((List.range 3).map fun k=>D.str [l5 f k]).length=3:=rfl;walk_at "r"
 refine⟨fun k ρ=>∃v4:Option PV,ρ=[some (.own (y1.map .int)),some (.dat (.int (f:Int))),some (.dat (.lst ((List.range 3).map fun k=>.str [l5 f k]))),some (.own ((w9 f k).map .str)),v4,none],⟨_,rfl⟩,?_,?_⟩
 .rintro k ρ d hk ed ⟨v4,rfl⟩;have hk:k<3:=hk;have hwl:=uA f k;subst ed;rw [show itD ((List.range 3).map fun k=>D.str [l5 f k]) k=.str [l5 f k] from dP (by rw [getElem?_map,getElem?_range hk];rfl)];have hwm:((w9 f k).map D.str).length=(w9 f k).length:=length_map _;walk_at "r"
  refine cm1 (e:=fun k=>D.str [l5 f k]) (xs:=List.range 3) (fun b=>.str [l5 f k,l5 f b]) (fun b hb v K1 k1=>?_) (fun v=>?_)
  .walk_at "r";exact k1 _
  have hml:((List.range 3).map fun b=>D.str [l5 f k,l5 f b]).length=3:=rfl;walk_at "r";exact⟨_,by rw [uz,map_append,map_map];rfl⟩
 rintro ρ ⟨v4,rfl⟩;rw [l3];have hwl:=uA f 3;have hwm:((w9 f 3).map D.str).length=(w9 f 3).length:=length_map _;have hnd:(w9 f 3).Nodup:=DJ ⟨f,hf26⟩;have h2:∀w∈w9 f 3,w.length=2/\Lts w:=fun w hw=>B1 hw;generalize w9 f 3=W at hwl hwm hnd h2;have hwl:W.length=9:=hwl;have g1:Dk y1/\0<y1.length/\y1.length<=100000:=⟨hd1,by omega,by omega⟩
 walk_at "r";rintro b y2 hb0 hb1 hd2 hl2;obtain⟨i,hi,hi9⟩:∃i:Nat,b % 9=(i:Int)/\i<9:=⟨(b % 9).toNat,by omega,by omega⟩
 have g2:Dk y2/\0<y2.length/\y2.length<=100000:=⟨hd2,by omega,by omega⟩
 walk_at "r";rw [hi];refine⟨i,.str W[i],⟨Dw (by omega),by omega⟩,by rw [getElem?_map,getElem?_eq_getElem (by omega)];rfl,?_⟩;rw [t7];have hVl:(W.eraseIdx i).length=8:=by rw [length_eraseIdx,if_pos (by omega)];omega
 have hVn:(W.eraseIdx i).Nodup:=hnd.sublist (eraseIdx_sublist ..);have hV2:∀w∈W.eraseIdx i,w.length=2/\Lts w:=fun w hw=>h2 w (mem_of_mem_eraseIdx hw);generalize W.eraseIdx i=V at hVl hVn hV2;have hVm:(V.map D.str).length=V.length:=length_map _;walk_at "r";rintro c y3 hc0 hc1 hd3 hl3;obtain⟨t,ht,ht8⟩:∃t:Nat,c % 8=(t:Int)/\t<8:=⟨(c % 8).toNat,by omega,by omega⟩
 walk_at "r";rw [ht,l6,gY,<- map_drop,<- map_take,<- map_append];have hpm:(V.drop t++V.take t).Perm V:=perm_append_comm.trans (by rw [take_append_drop]);have hmm:∀w∈V.drop t++V.take t,w∈V:=fun w hw=>hpm.mem_iff.mp hw;refine⟨by rw [length_map,length_map,length_drop,length_take];omega,?_⟩;walk_at "r"
 refine q (V.drop t++V.take t) y3 (by rw [hpm.length_eq];exact hVl) (fun w hw=>?_) ?_ hd3 (by omega)
 .have:=hV2 w (hmm w hw);exact⟨by omega,by omega,this.2⟩
 .rw [p7 (hpm.nodup_iff.mpr hVn) fun w hw=>(hV2 w (hmm w hw)).1,hpm.length_eq];exact hVl
theorem m7:∀p ds Q,p.isOwn=true->bD p ds Q->rz dG iI p ds Q:=fun p ds Q _ h=>by
 unfold bD at h
 split at h
 .exact lH _ _ h
 .exact h.elim
def dH:PTS:=(bX (x8 (zF .int (pSl 0)) (x9 (zF .bool (pSl 0)))))
theorem lI(z:Int)(Q:PV->Prop)(h:bg ([.int z]) Q):dz dH iJ ([.int z]) Q:=by
 show dH _ [some (.dat (.int z))];walk_at "r";exact h
theorem m8:∀ds Q,bg ds Q->dz dH iJ ds Q:=fun ds Q h=>by
 unfold bg at h
 split at h
 .exact lI _ _ h
 .exact h.elim
def dI:PTS:=(aH (aZ (wR bd (ah (pFz (bj 0)) ar)) (al 2)) (aH (ku (pB (pOp yA (pSl 2) (pSl 1))) (bX (pC (.bl false))) cE) (aH (gc (cT (bj 2)) (al 3) (aH (aZ (cK [none] (cT (bj 3)) (al 0) (x5 (pB (b4 bg (ah (pFz (bj 0)) ar)))) (bj 0)) (al 4)) (ku (pOr (x5 (pB (zF .tuple (pSl 3)))) (pB (pOp yA (pSl 4) (pFz (lM ar))))) (bX (pC (.bl false))) cE))) (bX (zF .tuple (pSl 2))))))
theorem lJ(c:Str)(ns:List Str)(fs td:List D)(Q:PV->Prop)(h:a8 ([.obj c ns fs,.tup td]) Q):dz dI iK ([.obj c ns fs,.tup td]) Q:=by
 show dI _ [some (.dat (.obj c ns fs)),some (.dat (.tup td)),none,none,none];obtain⟨rfl,rfl,ps,rfl,tb,rfl,⟨h8,hM,hl⟩,q⟩:=h;have h256:=cM h8;have hw40:(aB ps).length<=40:=by omega
 have o1:rn (.tup (tb.map iE)) (.tup (tb.map iE)):=rn.of ((oH tb).sh (by decide)) ((oH tb).sh (by decide));have o2:deq (.tup (tb.map iE)) (.tup (tb.map iE))=true:=pN ((oH tb).sh (by decide));have htm:(tb.map iE).length=tb.length:=length_map _;walk_at "r";intro _ tb' h1 h2;have e:tb'=tb:=wm h8 (by omega) (by omega) h1 hM;subst e;have e3:rn (.lst []) (.lst []):=rn.of (Sh.lstI []) (Sh.lstI []);have e4:deq (.lst []) (.lst [])=true:=pN (Sh.lstI [])
 walk_at "r"
 refine⟨fun k ρ=>∃v3 v4:Option PV,ρ=[some (.dat (.obj "Family" oa (og ps))),some (.dat (.tup (tb'.map iE))),some (.dat (.tup (tb'.map iE))),v3,v4],⟨_,_,rfl⟩,?_,?_⟩
 .rintro k ρ d hk ed ⟨v3,v4,rfl⟩;rw [htm] at hk;subst ed;rw [dP (show (tb'.map iE)[k]?=some (iE (tb'.getD k [])) by rw [getElem?_map,getElem?_eq_getElem hk,getD_eq_getElem?_getD,getElem?_eq_getElem hk];rfl)];have hwl:((tb'.getD k []).map D.int).length<=8:=by rw [length_map,hM k hk,length_map,length_range];exact h8
  walk_at "r"
  refine cf1 (e:=D.int) (xs:=tb'.getD k []) (fun _=>false) D.int (fun x hx v K1 K2 k1 k2=>?_) (fun v=>?_)
  .walk_at "r";exact k2 _ rfl
  rw [show (tb'.getD k []).filter (fun _=>false)=[] from filter_eq_nil_iff.mpr fun _ _ z=>nomatch z];walk_at "r";exact⟨_,_,rfl⟩
 .rintro ρ ⟨v3,v4,rfl⟩;walk_at "r";exact q
theorem m9:∀ds Q,a8 ds Q->dz dI iK ds Q:=fun ds Q h=>by
 unfold a8 at h
 split at h
 .exact lJ _ _ _ _ _ h
 .exact h.elim
def cg:PTS:=(aH (aZ (ci az 0 ar) (al 2)) (aH (aZ (pOp fIx (pFz (pC (.str [97,98,99,100,101,102,103,104,105,106,107,108,109,110,111,112,113,114,115,116,117,118,119,120,121,122]))) (pFz (pOp gH (pFz (ci az 0 ar)) (pFz (pC (.int 26)))))) (al 3)) (aH (aZ (pC (.str [97,98,99,100,101,102,103,104,105,106,107,108,109,110,111,112,113,114,115,116,117,118,119,120,121,122])) (al 4)) (bX (cK [none,some 3,some 4,some 2] (qH (ah (pFz (bj 1)) ar)) (al 0) jr (pOp cr (pFz (pOp cr (pSl 1) (pFz (pOp fIx (pSl 2) (pFz (pOp gH (pFz (pOp cr (pSl 3) (pSl 0))) (pFz (pC (.int 26))))))))) (pSl 1)))))))
theorem gR(ds:List D)(m:Int)(Q:PV->PV->Prop)(h:aS (.own ds) ([.int m]) Q):rz cg dU (.own ds) ([.int m]) Q:=by
 show cg _ [some (.own ds),some (.dat (.int m)),none,none,none];obtain⟨zs,rfl,⟨hz,h3,hzu⟩,n,rfl,hn,q⟩:=h;have g0:Dk zs/\0<zs.length/\zs.length<=100000:=⟨hz,by omega,by omega⟩
 walk_at "r";rintro b y1 hb0 hb1 hd1 hl1;obtain⟨f,rfl⟩:∃f:Nat,b=(f:Int):=⟨b.toNat,by omega⟩
 have g1:Dk y1/\0<y1.length/\y1.length<=100000:=⟨hd1,by omega,by omega⟩
 walk_at "r";rintro c y2 hc0 hc1 hd2 hl2;obtain⟨a,ha,ha26⟩:∃a:Nat,c % 26=(a:Int)/\a<26:=⟨(c % 26).toNat,by omega,by omega⟩
 walk_at "r";rw [ha];refine⟨_,pY ha26,?_⟩;walk_at "r"
 refine cmR (fun k=>.str (mwd f a k)) (fun k hk v K1 k1=>?_) (fun v=>?_)
 .walk_at "r";rw [show ((f:Int)+(k:Int)) % 26=(((f+k) % 26:Nat):Int) by omega];refine⟨_,pY (mod_lt _ (by decide)),?_⟩;walk_at "r";exact k1 _
 rw [toNat_natCast,show (List.range n).map (fun k=>D.str (mwd f a k))=((List.range n).map (mwd f a)).map D.str by rw [map_map];rfl];have hl:((List.range n).map (mwd f a)).length=n:=by rw [length_map,length_range]
 walk_at "r"
 refine q _ y2 hl (fun w hw=>?_) ?_
 .have:=xk ha26 hw;exact⟨by omega,by omega,this.2⟩
 .rw [p7 (B2 f a hn) fun w hw=>(xk ha26 hw).1,hl]
theorem iu:∀p ds Q,p.isOwn=true->aS p ds Q->rz cg dU p ds Q:=fun p ds Q _ h=>by
 unfold aS at h
 split at h
 .exact gR _ _ _ h
 .exact h.elim
def qb:PTS:=(aH (aZ (b4 bF (ah (pFz (bj 0)) (ah (pFz (pC (.int 110))) ar))) (al 1)) (aH (aZ (ci bn 1 (ah (pFz (pC (.int 8))) ar)) (al 2)) (aH (mz (ku (pB (pOp wM (pFz (pOp gH (pFz (ci az 1 ar)) (pFz (pC (.int 6))))) (pFz (pC (.int 1))))) (aZ (ci bD 1 ar) (al 2)) cE)) (aH (aZ (yu "Family" aW (ah (pFz (bj 2)) ar)) (al 3)) (aH (aZ (b4 bZ (ah (pFz (b4 bG (ah (pFz (b4 br (ah (pFz (bj 2)) ar))) ar))) ar)) (al 4)) (aH (aZ (yu "Family" aW (ah (pFz (ci aS 1 (ah (pFz (pOp cr (pFz (pC (.int 9))) (pFz (pOp gH (pFz (ci az 1 ar)) (pFz (pC (.int 12))))))) ar))) ar)) (al 5)) (aH (ku (x5 (pB (b4 a8 (ah (pFz (bj 3)) (ah (pFz (bj 4)) ar))))) (bX (pC (.bl false))) cE) (aH (wX bd (ah (pFz (bj 5)) ar) (bX (pC (.bl false))) (D6 xcs "TooGreat" 6 (ku (pB (pOp yA (pFz (Bs xcs DB "most" (pSl 6))) (pFz (pC (.int 8))))) (bX (pC (.bl false))) cE) By)) (bX (b4 a8 (ah (pFz (bj 3)) (ah (pFz (bj 4)) ar))))))))))))
theorem zx(ns:List Int)(h63:ns.length<=63)(Q:PV->Prop)(q:Q (.dat (.bl true))):dz qb xl [.scr ns] Q:=by
 show qb _ [some (.dat (.scr ns)),none,none,none,none,none,none];walk_at "r";rintro z1 hz1 hl1;have hl1:z1.length=110:=hl1;have g1:Dk z1/\z1.length<=10000:=⟨hz1,by omega⟩
 walk_at "r";rintro ps0 z2 hp0 hps0 hz2 hl2 hl2';have hp0:ps0.length<=8:=by omega
 walk_at "r"
 refine⟨fun ρ=>∃(ps:List (List Nat)) (yy:List Int),ps.length<=8/\Pcs 60 ps/\Dk yy/\30<=yy.length/\yy.length<=110/\ρ=[some (.dat (.scr ns)),some (.own (yy.map .int)),some (.dat (.lst (ps.map .str))),none,none,none,none],?_,?_⟩
 .have g2:Dk z2/\0<z2.length/\z2.length<=100000:=⟨hz2,by omega,by omega⟩
  walk_at "r";rintro a y1 ha0 ha1 hd1 hy1;walk_at "r"
  refine ej (fun c=>?_) (fun c=>?_)
  .have g3:Dk y1/\3<=y1.length/\y1.length<=10000:=⟨hd1,by omega,by omega⟩
   walk_at "r";rintro ps y2 hpl hpc hpw hd2 hy2;walk_at "r";exact⟨ps,y2,by omega,hpc,hd2,by omega,by omega,rfl⟩
  .exact⟨ps0,y1,by omega,hps0,hd1,by omega,by omega,rfl⟩
 rintro ρ ⟨ps,yy,hp,hps,hdy,hyl,hyu,rfl⟩;have hk:ps.length<=40/\∀w∈ps,w.length<=60/\Lts w:=⟨by omega,fun w hw=>⟨(hps w hw).2.1,(hps w hw).2.2⟩⟩
 have hk2:ps.length<=40/\Pcs 60 ps:=⟨by omega,hps⟩
 have hwn:=fF ps;have hwo:=Ez hk.1 hps;have hwm:((aB ps).map D.str).length=(aB ps).length:=length_map _;have hlm:(eZ (aB ps)).length=(aB ps).length:=length_map _;have h8:(aB ps).length<=8:=by omega
 have h256:=cM h8;have g2:Dk yy/\0<yy.length/\yy.length<=100000:=⟨hdy,by omega,by omega⟩
 walk_at "r";rintro tb hM htb;walk_at "r";rintro a y1 ha0 ha1 hd1 hy1;obtain⟨n,hn,hn9,hn20⟩:∃n:Nat,9+a % 12=(n:Int)/\9<=n/\n<=20:=⟨(9+a % 12).toNat,by omega,by omega,by omega⟩
 have g3:Dk y1/\2<=y1.length/\y1.length<=10000:=⟨hd1,by omega,by omega⟩
 have hn26:n<=26:=by omega
 walk_at "r";rw [hn];walk_at "r";rintro ps2 y2 hl2 hp2 hw2;have hk3:ps2.length<=40/\Pcs 60 ps2:=⟨by omega,hp2⟩
 have c2:(aB ps).length<=8/\Msa (aB ps) tb/\tb.length=2^(aB ps).length:=⟨h8,hM,htb⟩
 have h40:(aB ps2).length<=40:=by omega
 walk_at "r";refine⟨fun _=>?_,fun h=>absurd h (by omega)⟩;walk_at "r";exact q
theorem B4:∀ds Q,p8 ds Q->dz qb xl ds Q:=fun ds Q h=>by
 obtain⟨ns,rfl,h63,q⟩:=h;exact zx ns h63 Q q
section
variable {P:Program}{w:World}{K:PySem.W.Frag}{mg:Str->Option Value}{base:Heap}
theorem kM:∀ds Q,bu ds Q->ds.length=1:=fun ds Q h=>by unfold bu at h;split at h;(first|rfl|exact h.elim);(first|rfl|exact h.elim)
theorem rf(D:b9 K mg "members" jz)(T:Txt mg)(TC:TxC K)(TX:TxX K mg):Cal P w K mg base 1 "members" ["mark"] (spP K bu):=by
 refine D.ok qP (fun _ _ _ _ _ _ us hl=>match us,hl with|[_],_=>rfl) (fun vs H Q E h=>?_) (fun f cdv A outer s H vs Q E hr h=>?_)
 .exact jX kM h
 .have hu:=hr.units;exact⟨_,(aq (a9 (bJ (wi:=(jd (ba (As K "int" yV (aV 0)) dN))) (g:=(b3 0)) (tts:=(tBI (tOp vH (tOp Ch (aV 1) (aV 0)) (tC (V.int 1))))) (te:=(aV 0)) ["i","mark"] [none,some 0] rfl (bI rfl T.b_range (paC (yZ K rfl PySem.F.plainAttrs_int PySem.F.slot_int_bit_length PySem.F.type_int_bit_length yW (pv 0)) af)) (fun _ _ _ _=>⟨(aF (i:=0) (by show List.Nodup (["i","mark"]:List Str);decide +kernel) rfl (by walk_at "o")),(ei (BN (aD wO (aD Bl (pv 1) (pv 0)) ap))),(pv 0)⟩) (by kernel_rfl)))),fnP (K:=K) (c:=bu) (ps:=fG) (N:=["mark"]) (bb (a4 (ix:=[none,some 0]) rfl (gF (aa (ac (yY (ao (i:=0)))) ae)) (fun fs hc=>(aw (i:=0) (gI hc (by decide)))) (DA (am tG (ac (am wN (ak (i:=1)) (ak (i:=0)))) (ac le_int))) (ao (i:=0)))) (fun ds Q h=>Nat.le_trans (le_of_eq (kM ds Q h)) (by decide)) qX h⟩
theorem gS:∀ds Q,a7 ds Q->ds.length=4:=fun ds Q h=>by unfold a7 at h;split at h;(first|rfl|exact h.elim);(first|rfl|exact h.elim)
theorem lK(D:b9 K mg "most_saved" fj)(T:Txt mg)(TC:TxC K)(TX:TxX K mg)(C_members:Cal P w K mg base 1 "members" ["mark"] (spP K bu)):Cal P w K mg base 2 "most_saved" ["family","table","mark","i"] (spP K a7):=by
 refine D.ok gN (fun _ _ _ _ _ _ us hl=>match us,hl with|[_,_,_,_],_=>rfl) (fun vs H Q E h=>?_) (fun f cdv A outer s H vs Q E hr h=>?_)
 .exact jX gS h
 .have hu:=hr.units;exact⟨_,(ag (eV (bc (gM K rfl) (pv 3) (aG C_members (hr.mono (by decide)) (paC (pv 2) af)) (by with_unfolding_all rfl)) (aq (a9 (lP iy ap))) b2) (ag (aL (i:=4) gN.nd rfl (by walk_at "o") (aD tu (pv 2) (aD qM ap (pv 3)))) (aq (a9 (za K rfl rfl rfl T.b_max (paC (bJ (wi:=(iU K (dY (spP K bu) [] E0 (ba (aV 4) dN)))) (g:=(b3 0)) (tts:=i7) (te:=(tOp (j5 K) (tOp (nv K) (tOp (nv K) (aV 2) (aV 3)) (aV 0)) (tOp (nv K) (tOp (nv K) (rV K (aV 4) "laps") (aV 0)) (aV 1)))) ["j","i","table","rest","family"] [none,some 3,some 1,some 4,some 0] rfl (bY K rfl (aG C_members (hr.mono (by decide)) (paC (pv 4) af))) (fun _ _ _ _=>⟨(aF (i:=0) (by show List.Nodup (["j","i","table","rest","family"]:List Str);decide +kernel) rfl (by walk_at "o")),bR,(aD (bA K rfl) (cz (gb K rfl) (cz (gb K rfl) (pv 2) (pv 3) (fun _ _=>rfl)) (pv 0) (fun _ _=>rfl)) (cz (gb K rfl) (cz (gb K rfl) (de K rfl (pv 4) rfl) (pv 0) (fun _ _=>rfl)) (pv 1) (fun _ _=>rfl)))⟩) (by kernel_rfl)) af) ap))))),fnP (K:=K) (c:=a7) (ps:=c6) (N:=["family","table","mark","i","rest"]) (ax (eX (gC (am jx (ak (i:=3)) (ac (a6 (c:=bu) (aa (ac (ao (i:=2))) ae))))) (bb (mq iC (ac le_int))) bS) (ax (aE (am mw (ak (i:=2)) (ac (am kB (ac le_int) (ak (i:=3))))) (au (i:=4) rfl)) (bb (zb (ac (a4 (ix:=[none,some 3,some 1,some 4,some 0]) rfl (bM (a6 (c:=bu) (aa (ac (ao (i:=4))) ae))) (fun fs hc=>(aw (i:=0) (gI hc (by decide)))) cB (am aT (ac (am cj (ac (am cj (ak (i:=2)) (ak (i:=3)))) (ak (i:=0)))) (ac (am cj (ac (am cj (ac (fe (ns0:=["pieces","kept","words","left","laps","total"]) TC.cl_Family TC.n_Family_laps (i:=4) (by decide +kernel) (ak (i:=4)))) (ak (i:=0)))) (ak (i:=1))))))) le_int)))) (fun ds Q h=>Nat.le_trans (le_of_eq (gS ds Q h)) (by decide)) lC h⟩
theorem jQ:∀ds Q E,bd ds Q E->ds.length=1:=fun ds Q E h=>by unfold bd at h;split at h;(first|rfl|exact h.elim);(first|rfl|exact h.elim)
theorem oV(D:b9 K mg "table_of" ie)(T:Txt mg)(TC:TxC K)(TX:TxX K mg)(C_Family_many:Cb P w K mg base 1 (aQ K "Family") "many" ["self"] (spP K aX))(C_TooGreat_init:Bo P w K mg base 1 (aQ K "TooGreat") "TooGreat" "most")(C_most_saved:Cal P w K mg base 2 "most_saved" ["family","table","mark","i"] (spP K a7)):Bu P w K mg base 3 "table_of" ["family"] (spX K bd):=by
 refine D.okE eC (fun _ _ _ _ _ _ us hl=>match us,hl with|[_],_=>rfl) (fun vs H Q E h=>?_) (fun f cdv A outer s H vs Q E hr h=>?_)
 .exact Ex jQ h
 .have hu:=hr.units;exact⟨_,(ag (PS.nox (aL (i:=1) eC.nd rfl (by walk_at "o") (vc (pv 0) TC.cl_Family C_Family_many (hr.mono (by decide))))) (ag (eV (PT.nox (bc yw (pv 1) (i8 rfl T.g_MOST_TABLE_WORDS) (b6 _))) (aq (vS K rfl rfl Bt (yN C_TooGreat_init (hr.mono (by decide)) (paC (i8 rfl T.g_MOST_TABLE_WORDS) af)))) b2) (ag (PS.nox (aL (i:=2) eC.nd rfl (by walk_at "o") (cL af))) (ag (dr PassesOwn.leaving rfl (bI rfl T.b_range (paC (aD qM ap (pv 1)) af)) (aF (i:=3) eC.nd rfl (by walk_at "o")) (aq (PS.nox (c8 (e8 K rfl PySem.F.plainAttrs_list PySem.F.slot_list_append PySem.F.type_list_append cS (pv 2) (paC (bi (cW K rfl) rfl T.b_tuple boot_tuple (paC (bJ (wi:=(jd (ba (aV 1) dN))) (g:=(b3 0)) (tts:=i7) (te:=(dY (spP K a7) [] E0 (ba (aV 1) (ba (aV 2) (ba (aV 3) (ba (aV 0) dN)))))) ["i","family","table","mark"] [none,some 0,some 2,some 3] rfl (bI rfl T.b_range (paC (pv 1) af)) (fun _ _ _ _=>⟨(aF (i:=0) (by show List.Nodup (["i","family","table","mark"]:List Str);decide +kernel) rfl (by walk_at "o")),bR,(aG C_most_saved (hr.mono (by decide)) (paC (pv 1) (paC (pv 2) (paC (pv 3) (paC (pv 0) af)))))⟩) (by kernel_rfl)) af)) af)))))) (aq (PS.nox (a9 (bi (cW K rfl) rfl T.b_tuple boot_tuple (paC (pv 2) af))))))))),Ey (K:=K) (c:=bd) (ps:=eE) (N:=["family","many","table","mark"]) (fun _=>(pS (LS.x (aE (vx (c0:="Family") (m:="many") (ns0:=["pieces","kept","words","left","laps","total"]) (c:=aX) (by decide +kernel) (ao (i:=0)) ae) (au (i:=1) rfl))) (pS (Dp (gC (am nR (ak (i:=1)) (ac (le_int (i:=8))))) (tX TX.all (contains_iff_mem.mp (by decide +kernel)) (aa (ac (le_int (i:=8))) ae)) (LS.x bS)) (pS (LS.x (aE (cA ae) (au (i:=2) rfl))) (pS (Bx (gF (aa (ac (am kB (ac le_int) (ak (i:=1)))) ae)) (aw (i:=3) rfl) (LS.x (dg (iB (i:=2) (bx cu (aa (ac (a4 (ix:=[none,some 0,some 2,some 3]) rfl (gF (aa (ac (ao (i:=1))) ae)) (fun fs hc=>(aw (i:=0) (gI hc (by decide)))) cB (zc (a6 (c:=a7) (aa (ac (ao (i:=1))) (aa (ac (ao (i:=2))) (aa (ac (ao (i:=3))) (aa (ac (ao (i:=0))) ae)))))))) ae)))))) (LS.x (bb (bx cu (aa (ak (i:=2)) ae))))))))) (fun ds Q E h=>Nat.le_trans (le_of_eq (jQ ds Q E h)) (by decide)) oJ h⟩
theorem xm:∀ds Q,eP ds Q->ds.length=2:=fun ds Q h=>by unfold eP at h;split at h;(first|rfl|exact h.elim);(first|rfl|exact h.elim)
theorem B5(D:b9 K mg "lap" zf)(T:Txt mg)(TC:TxC K)(TX:TxX K mg):Cal P w K mg base 1 "lap" ["one","other"] (spP K eP):=by
 refine D.ok wZ (fun _ _ _ _ _ _ us hl=>match us,hl with|[_,_],_=>rfl) (fun vs H Q E h=>?_) (fun f cdv A outer s H vs Q E hr h=>?_)
 .exact jX xm h
 .have hu:=hr.units;exact⟨_,(ag (dr PassesOwn.never rfl (l7 rfl T.b_range (paC (aD tu (ay (wH rfl) rfl T.b_min boot_min (paC (ay (df K rfl) rfl T.b_len PySem.boot_len (paC (pv 0) af)) (paC (ay (df K rfl) rfl T.b_len PySem.boot_len (paC (pv 1) af)) af))) ap) (paC ap (paC (lP iy ap) af)))) (aF (i:=2) wZ.nd rfl (by walk_at "o")) (aq (eV (fh (e8 K rfl PySem.F.plainAttrs_str PySem.F.slot_str_endswith PySem.F.type_str_endswith yq (pv 0) (paC (cY (vm K rfl) (pv 1) e5 (dJ (pv 2))) af))) (aq (a9 (pv 2))) b2))) (aq (a9 ap))),fnP (K:=K) (c:=eP) (ps:=qa) (N:=["one","other","k"]) (ax (dQ (AZ (aa (ac (am mw (ac (bx sY (aa (ac (bx b7 (aa (ak (i:=0)) ae))) (aa (ac (bx b7 (aa (ak (i:=1)) ae))) ae)))) (ac le_int))) (aa (ac le_int) (aa (ac (mq iC (ac le_int))) ae)))) (aw (i:=2) rfl) (eX (vf (Be yt (ao (i:=0)) (aa (ac (cZ (ak (i:=1)) dw (cN (ao (i:=2))))) ae))) (bb (ao (i:=2))) bS)) (bb le_int)) (fun ds Q h=>Nat.le_trans (le_of_eq (xm ds Q h)) (by decide)) B3 h⟩
theorem jR:∀ds Q,bE ds Q->ds.length=1:=fun ds Q h=>by unfold bE at h;split at h;(first|rfl|exact h.elim);(first|rfl|exact h.elim)
theorem oW(D:b9 K mg "all_laps" ig)(T:Txt mg)(TC:TxC K)(TX:TxX K mg)(C_lap:Cal P w K mg base 1 "lap" ["one","other"] (spP K eP)):Cal P w K mg base 2 "all_laps" ["words"] (spP K bE):=by
 refine D.ok oy (fun _ _ _ _ _ _ us hl=>match us,hl with|[_],_=>rfl) (fun vs H Q E h=>?_) (fun f cdv A outer s H vs Q E hr h=>?_)
 .exact jX jR h
 .have hu:=hr.units;exact⟨_,(aq (a9 (bi (cW K rfl) rfl T.b_tuple boot_tuple (paC (bJ (wi:=(iU K (aV 0))) (g:=(b3 0)) (tts:=i7) (te:=(tCB (sZ K) (ba (nL [none,some 0] (iU K (aV 1)) (b3 0) i7 (dY (spP K eP) [] E0 (ba (aV 1) (ba (aV 0) dN)))) dN))) ["one","words"] [none,some 0] rfl (bY K rfl (pv 0)) (fun _ _ _ _=>⟨(aF (i:=0) (by show List.Nodup (["one","words"]:List Str);decide +kernel) rfl (by walk_at "o")),bR,(bi (cW K rfl) rfl T.b_tuple boot_tuple (paC (bJ (wi:=(iU K (aV 1))) (g:=(b3 0)) (tts:=i7) (te:=(dY (spP K eP) [] E0 (ba (aV 1) (ba (aV 0) dN)))) ["other","one"] [none,some 0] rfl (bY K rfl (pv 1)) (fun _ _ _ _=>⟨(aF (i:=0) (by show List.Nodup (["other","one"]:List Str);decide +kernel) rfl (by walk_at "o")),bR,(aG C_lap (hr.mono (by decide)) (paC (pv 1) (paC (pv 0) af)))⟩) (by kernel_rfl)) af))⟩) (by kernel_rfl)) af)))),fnP (K:=K) (c:=bE) (ps:=eG) (N:=["words"]) (bb (bx cu (aa (ac (a4 (ix:=[none,some 0]) rfl (bM (ao (i:=0))) (fun fs hc=>(aw (i:=0) (gI hc (by decide)))) cB (bx cu (aa (ac (a4 (ix:=[none,some 0]) rfl (bM (ao (i:=1))) (fun fs hc=>(aw (i:=0) (gI hc (by decide)))) cB (a6 (c:=eP) (aa (ac (ao (i:=1))) (aa (ac (ao (i:=0))) ae))))) ae)))) ae))) (fun ds Q h=>Nat.le_trans (le_of_eq (jR ds Q h)) (by decide)) oK h⟩
theorem kN:∀ds Q,cf ds Q->ds.length=3:=fun ds Q h=>by unfold cf at h;split at h;(first|rfl|exact h.elim);(first|rfl|exact h.elim)
theorem rg(D:pE K mg "is_text" dR [.int 0,.int 4000])(T:Txt mg)(TC:TxC K)(TX:TxX K mg):AN P w K mg base 1 "is_text" ["thing","least","most"] [.int 0,.int 4000] (spP K cf):=by
 refine D.ok qQ (fun dT kV doc pm an cdv ct items us n hi hn hl=>?_) (fun vs H Q E h=>?_) (fun f cdv A outer s H vs Q E hr h=>?_)
 .obtain⟨i0,i1,rfl⟩:∃i0 i1,items=[i0,i1]:=match items,hi with|[i0,i1],_=>⟨i0,i1,rfl⟩
  have hn':n=0\/n=1\/n=2:=by (have:n<=2:=hn);omega
  rcases hn' with rfl|rfl|rfl
  .have hl2:us.length=1:=by (simp at hl;omega)
   match us,hl2 with
   | [_],_=>exact⟨_,rfl,rfl⟩
  .have hl2:us.length=2:=by (simp at hl;omega)
   match us,hl2 with
   | [_,_],_=>exact⟨_,rfl,rfl⟩
  .have hl2:us.length=3:=by (simp at hl;omega)
   match us,hl2 with
   | [_,_,_],_=>exact⟨_,rfl,rfl⟩
 .exact jX kN h
 .have hu:=hr.units;exact⟨_,(ag (eV (PW.pt (xt (kj (fh (ay (sU K rfl) rfl T.b_isinstance boot_isinstance (paC (pv 0) (paC (jc (v:=.ty "str") rfl T.b_str boot_str rfl) af))))) (rE (kj (uK Cg Cg (pv 1) (ay (df K rfl) rfl T.b_len PySem.boot_len (paC (pv 0) af)) (pv 2)))))) (aq (a9 qf)) b2) (aq (a9 (ay (C9 K rfl rfl) rfl T.b_all boot_all (paC (bJ (wi:=(iU K (aV 0))) (g:=(b3 0)) (tts:=i7) (te:=(o7 Ce Ce (tC (V.str (S [97]))) (aV 0) (tC (V.str (S [122]))))) ["sign"] [none] rfl (bY K rfl (pv 0)) (fun _ _ _ _=>⟨(aF (i:=0) (by show List.Nodup (["sign"]:List Str);decide +kernel) rfl (by walk_at "o")),bR,(uJ Cg Cg (f8 (l:=[97]) (by decide +kernel)) (pv 0) (f8 (l:=[122]) (by decide +kernel)))⟩) (by kernel_rfl)) af))))),fnP (K:=K) (c:=cf) (ps:=fH) (N:=["thing","least","most"]) (ax (eX (x6 (kt (vf (my .str (ak (i:=0))))) (kt (gC (pH vk vk (ak (i:=1)) (ac (bx b7 (aa (ak (i:=0)) ae))) (ak (i:=2)))))) (bb qF) bS) (bb (bx A7 (aa (ac (a4 (ix:=[none]) rfl (bM (ao (i:=0))) (fun fs hc=>(aw (i:=0) (gI hc (by decide)))) cB (pH vk vk (ac (le_str (l:=[97]))) (ak (i:=0)) (ac (le_str (l:=[122])))))) ae)))) (fun ds Q h=>Nat.le_trans (le_of_eq (kN ds Q h)) (by decide)) qY h⟩
theorem fX:∀ds Q,aM ds Q->ds.length=2:=fun ds Q h=>by unfold aM at h;split at h;(first|rfl|exact h.elim);(first|rfl|exact h.elim)
theorem kf(D:b9 K mg "first_place" eA)(T:Txt mg)(TC:TxC K)(TX:TxX K mg):Cal P w K mg base 1 "first_place" ["text","piece"] (spP K aM):=by
 refine D.ok j6 (fun _ _ _ _ _ _ us hl=>match us,hl with|[_,_],_=>rfl) (fun vs H Q E h=>?_) (fun f cdv A outer s H vs Q E hr h=>?_)
 .exact jX fX h
 .have hu:=hr.units;exact⟨_,(aq (a9 (e8 K rfl PySem.F.plainAttrs_str PySem.F.slot_str_find PySem.F.type_str_find vv (pv 0) (paC (pv 1) af)))),fnP (K:=K) (c:=aM) (ps:=cO) (N:=["text","piece"]) (bb (Be vw (ao (i:=0)) (aa (ak (i:=1)) ae))) (fun ds Q h=>Nat.le_trans (le_of_eq (fX ds Q h)) (by decide)) j9 h⟩
theorem fo:∀ds Q,aU ds Q->ds.length=1:=fun ds Q h=>by unfold aU at h;split at h;(first|rfl|exact h.elim);(first|rfl|exact h.elim)
theorem jS(D:b9 K mg "check_pieces" dM)(T:Txt mg)(TC:TxC K)(TX:TxX K mg)(C_is_text:AN P w K mg base 1 "is_text" ["thing","least","most"] [.int 0,.int 4000] (spP K cf)):Cal P w K mg base 2 "check_pieces" ["things"] (spP K aU):=by
 refine D.ok dq (fun _ _ _ _ _ _ us hl=>match us,hl with|[_],_=>rfl) (fun vs H Q E h=>?_) (fun f cdv A outer s H vs Q E hr h=>?_)
 .exact jX fo h
 .have hu:=hr.units;exact⟨_,(ag (eV (bc yw (ay (df K rfl) rfl T.b_len PySem.boot_len (paC (pv 0) af)) (i8 rfl T.g_MOST_PIECES) (b6 _)) (aq o5) b2) (aq (dr PassesOwn.never rfl (pM K rfl rfl T.b_enumerate (paC (pv 0) af)) (tH K rfl (n:=2) rfl (fq (aF (i:=1) dq.nd rfl (by walk_at "o")) (fq (aF (i:=2) dq.nd rfl (by walk_at "o")) nC))) (aq (eV (kj (fh (vI 2 C_is_text (hr.mono (by decide)) (by decide) (paC (pv 2) (paC ap (paC (i8 rfl T.g_MOST_SIGNS) af)))))) (aq o5) b2))))),fnP (K:=K) (c:=aU) (ps:=cI) (N:=["things","at","thing"]) (ax (eX (gC (am nR (ac (bx b7 (aa (ak (i:=0)) ae))) (ac (le_int (i:=40))))) pI bS) (dQ (sX (aa (ac (ao (i:=0))) ae)) (n8 (fB (aw (i:=1) rfl) (fB (aw (i:=2) rfl) nU))) (eX (kt (vf (vA (ds:=[]) (by repeat (first|exact .nil|exact .cons (.int _) .nil|refine .cons (.int _) ?_)) (aa (ac (ao (i:=2))) (aa (ac le_int) (aa (ac (le_int (i:=60))) ae)))))) pI bS))) (fun ds Q h=>Nat.le_trans (le_of_eq (fo ds Q h)) (by decide)) jM h⟩
theorem eT:∀ds Q,aC ds Q->ds.length=2:=fun ds Q h=>by unfold aC at h;split at h;(first|rfl|exact h.elim);(first|rfl|exact h.elim)
theorem i4(D:b9 K mg "stands_within" dk)(T:Txt mg)(TC:TxC K)(TX:TxX K mg)(C_first_place:Cal P w K mg base 1 "first_place" ["text","piece"] (spP K aM)):Cal P w K mg base 2 "stands_within" ["piece","other"] (spP K aC):=by
 refine D.ok iW (fun _ _ _ _ _ _ us hl=>match us,hl with|[_,_],_=>rfl) (fun vs H Q E h=>?_) (fun f cdv A outer s H vs Q E hr h=>?_)
 .exact jX eT h
 .have hu:=hr.units;exact⟨_,(aq (a9 (rO Et (aG C_first_place (hr.mono (by decide)) (paC (pv 1) (paC (pv 0) af))) ap (b6 _)))),fnP (K:=K) (c:=aC) (ps:=cv) (N:=["piece","other"]) (bb (am CY (ac (a6 (c:=aM) (aa (ac (ao (i:=1))) (aa (ac (ao (i:=0))) ae)))) (ac le_int))) (fun ds Q h=>Nat.le_trans (le_of_eq (eT ds Q h)) (by decide)) iZ h⟩
theorem kO:∀ds Q,bK ds Q->ds.length=2:=fun ds Q h=>by unfold bK at h;split at h;(first|rfl|exact h.elim);(first|rfl|exact h.elim)
theorem rh(D:b9 K mg "is_kept" jA)(T:Txt mg)(TC:TxC K)(TX:TxX K mg)(C_stands_within:Cal P w K mg base 2 "stands_within" ["piece","other"] (spP K aC)):Cal P w K mg base 3 "is_kept" ["pieces","at"] (spP K bK):=by
 refine D.ok im (fun _ _ _ _ _ _ us hl=>match us,hl with|[_,_],_=>rfl) (fun vs H Q E h=>?_) (fun f cdv A outer s H vs Q E hr h=>?_)
 .exact jX kO h
 .have hu:=hr.units;exact⟨_,(ag (aL (i:=2) im.nd rfl (by walk_at "o") (cz (gb K rfl) (pv 0) (pv 1) (fun _ _=>rfl))) (ag (e7 (wi:=(iU K (aV 0))) (g:=(b3 0)) (tts:=(kU (tOp Dh (tCB (nS K) (ba (aV 0) dN)) (tCB (nS K) (ba (aV 1) dN))))) (te:=(aV 0)) (i:=3) ["other","piece"] [none,some 2] im.nd rfl (Or.inl rfl) rfl (bY K rfl (pv 0)) (fun _ _ _ _=>⟨(aF (i:=0) (by show List.Nodup (["other","piece"]:List Str);decide +kernel) rfl (by walk_at "o")),(ei (bc yw (ay (df K rfl) rfl T.b_len PySem.boot_len (paC (pv 0) af)) (ay (df K rfl) rfl T.b_len PySem.boot_len (paC (pv 1) af)) (b6 _))),(pv 0)⟩) (by kernel_rfl)) (aq (a9 (wp (rO (gM K rfl) (pv 2) (cY (vm K rfl) (pv 0) e5 (dJ (pv 1))) (by with_unfolding_all rfl)) (wo (wq (ay (Db K rfl rfl) rfl T.b_any boot_any (paC (bJ (wi:=(iU K (aV 3))) (g:=(b3 0)) (tts:=i7) (te:=(dY (spP K aC) [] E0 (ba (aV 1) (ba (aV 0) dN)))) ["other","piece"] [none,some 2] rfl (bY K rfl (pv 3)) (fun _ _ _ _=>⟨(aF (i:=0) (by show List.Nodup (["other","piece"]:List Str);decide +kernel) rfl (by walk_at "o")),bR,(aG C_stands_within (hr.mono (by decide)) (paC (pv 1) (paC (pv 0) af)))⟩) (by kernel_rfl)) af))))))))),fnP (K:=K) (c:=bK) (ps:=fJ) (N:=["pieces","at","piece","longer"]) (ax (aE (am cj (ak (i:=0)) (ak (i:=1))) (au (i:=2) rfl)) (ax (aE (a4 (ix:=[none,some 2]) rfl (bM (ao (i:=0))) (fun fs hc=>(aw (i:=0) (gI hc (by decide)))) (gC (am nR (ac (bx b7 (aa (ak (i:=0)) ae))) (ac (bx b7 (aa (ak (i:=1)) ae))))) (ao (i:=0))) (au (i:=3) rfl)) (bb (wD (am jx (ak (i:=2)) (ac (cZ (ak (i:=0)) dw (cN (ao (i:=1)))))) (wE (bx A8 (aa (ac (a4 (ix:=[none,some 2]) rfl (bM (ao (i:=3))) (fun fs hc=>(aw (i:=0) (gI hc (by decide)))) cB (a6 (c:=aC) (aa (ac (ao (i:=1))) (aa (ac (ao (i:=0))) ae))))) ae))))))) (fun ds Q h=>Nat.le_trans (le_of_eq (kO ds Q h)) (by decide)) qZ h⟩
theorem jT:∀ds Q,bw ds Q->ds.length=3:=fun ds Q h=>by unfold bw at h;split at h;(first|rfl|exact h.elim);(first|rfl|exact h.elim)
theorem oX(D:b9 K mg "left_row" ii)(T:Txt mg)(TC:TxC K)(TX:TxX K mg)(C_first_place:Cal P w K mg base 1 "first_place" ["text","piece"] (spP K aM))(C_stands_within:Cal P w K mg base 2 "stands_within" ["piece","other"] (spP K aC)):Cal P w K mg base 3 "left_row" ["pieces","kept","at"] (spP K bw):=by
 refine D.ok jD (fun _ _ _ _ _ _ us hl=>match us,hl with|[_,_,_],_=>rfl) (fun vs H Q E h=>?_) (fun f cdv A outer s H vs Q E hr h=>?_)
 .exact jX jT h
 .have hu:=hr.units;exact⟨_,(ag (aL (i:=3) jD.nd rfl (by walk_at "o") (ay (A6 K rfl rfl) rfl T.b_min boot_min (paC (bJ (wi:=(iU K (aV 1))) (g:=(b3 0)) (tts:=(tB (dY (spP K aC) [] E0 (ba (tOp (nv K) (aV 1) (aV 2)) (ba (tOp (nv K) (aV 1) (aV 0)) dN))))) (te:=(aV 0)) ["one","pieces","at"] [none,some 0,some 2] rfl (bY K rfl (pv 1)) (fun _ _ _ _=>⟨(aF (i:=0) (by show List.Nodup (["one","pieces","at"]:List Str);decide +kernel) rfl (by walk_at "o")),(ei (fh (aG C_stands_within (hr.mono (by decide)) (paC (cz (gb K rfl) (pv 1) (pv 2) (fun _ _=>rfl)) (paC (cz (gb K rfl) (pv 1) (pv 0) (fun _ _=>rfl)) af))))),(pv 0)⟩) (by kernel_rfl)) af))) (aq (a9 (rX (paC (pv 2) (paC (pv 3) (paC (aG C_first_place (hr.mono (by decide)) (paC (cz (gb K rfl) (pv 0) (pv 3) (fun _ _=>rfl)) (paC (cz (gb K rfl) (pv 0) (pv 2) (fun _ _=>rfl)) af))) af))))))),fnP (K:=K) (c:=bw) (ps:=eH) (N:=["pieces","kept","at","holder"]) (ax (aE (bx yn (aa (ac (a4 (ix:=[none,some 0,some 2]) rfl (bM (ao (i:=1))) (fun fs hc=>(aw (i:=0) (gI hc (by decide)))) (vf (a6 (c:=aC) (aa (ac (am cj (ak (i:=1)) (ak (i:=2)))) (aa (ac (am cj (ak (i:=1)) (ak (i:=0)))) ae)))) (ao (i:=0)))) ae)) (au (i:=3) rfl)) (bb (mr (aa (ac (ao (i:=2))) (aa (ac (ao (i:=3))) (aa (ac (a6 (c:=aM) (aa (ac (am cj (ak (i:=0)) (ak (i:=3)))) (aa (ac (am cj (ak (i:=0)) (ak (i:=2)))) ae)))) ae)))))) (fun ds Q h=>Nat.le_trans (le_of_eq (jT ds Q h)) (by decide)) oO h⟩
theorem fY:∀p ds Q,aW p ds Q->ds.length+1=2:=fun p ds Q h=>by unfold aW at h;split at h;(first|rfl|exact h.elim);(first|rfl|exact h.elim)
theorem kg(D:pG K mg (aQ K "Family") "Family" "Family.__init__" bU)(T:Txt mg)(TC:TxC K)(TX:TxX K mg)(C_all_laps:Cal P w K mg base 2 "all_laps" ["words"] (spP K bE))(C_check_pieces:Cal P w K mg base 2 "check_pieces" ["things"] (spP K aU))(C_is_kept:Cal P w K mg base 3 "is_kept" ["pieces","at"] (spP K bK))(C_left_row:Cal P w K mg base 3 "left_row" ["pieces","kept","at"] (spP K bw)):AO P w K mg base 4 (aQ K "Family") "Family" ["self","pieces"] (spR K aW):=by
 refine D.ok fS (fun _ _ _ _ _ _ us hl=>match us,hl with|[_,_],_=>rfl) (fun vs H Q E h=>?_) (fun f cdv A outer s H vs Q E hr h=>?_)
 .exact zI fY h
 .have hu:=hr.units;exact⟨_,(ag (c8 (aG C_check_pieces (hr.mono (by decide)) (paC (pv 1) af))) (ag (kn (pv 0) (bi (cW K rfl) rfl T.b_tuple boot_tuple (paC (pv 1) af)) rfl) (ag (aL (i:=2) fS.nd rfl (by walk_at "o") (bi (Bd K rfl rfl) rfl T.b_list boot_list (paC (sF rfl T.b_range (paC (ay (df K rfl) rfl T.b_len PySem.boot_len (paC (de K rfl (pv 0) rfl) af)) af)) af))) (ag (kn (pv 0) (bi (cW K rfl) rfl T.b_tuple boot_tuple (paC (bJ (wi:=(iU K (aV 2))) (g:=(b3 0)) (tts:=(tB (dY (spP K bK) [] E0 (ba (rV K (aV 1) "pieces") (ba (aV 0) dN))))) (te:=(aV 0)) ["at","self"] [none,some 0] rfl (bY K rfl (pv 2)) (fun _ _ _ _=>⟨(aF (i:=0) (by show List.Nodup (["at","self"]:List Str);decide +kernel) rfl (by walk_at "o")),(ei (fh (aG C_is_kept (hr.mono (by decide)) (paC (de K rfl (pv 1) rfl) (paC (pv 0) af))))),(pv 0)⟩) (by kernel_rfl)) af)) rfl) (ag (kn (pv 0) (bi (cW K rfl) rfl T.b_tuple boot_tuple (paC (bJ (wi:=(iU K (rV K (aV 0) "kept"))) (g:=(b3 0)) (tts:=i7) (te:=(tOp (nv K) (rV K (aV 1) "pieces") (aV 0))) ["at","self"] [none,some 0] rfl (bY K rfl (de K rfl (pv 0) rfl)) (fun _ _ _ _=>⟨(aF (i:=0) (by show List.Nodup (["at","self"]:List Str);decide +kernel) rfl (by walk_at "o")),bR,(cz (gb K rfl) (de K rfl (pv 1) rfl) (pv 0) (fun _ _=>rfl))⟩) (by kernel_rfl)) af)) rfl) (ag (kn (pv 0) (bi (cW K rfl) rfl T.b_tuple boot_tuple (paC (bJ (wi:=(iU K (aV 2))) (g:=(b3 0)) (tts:=(kU (tOp (BE K true) (aV 0) (rV K (aV 1) "kept")))) (te:=(dY (spP K bw) [] E0 (ba (rV K (aV 1) "pieces") (ba (rV K (aV 1) "kept") (ba (aV 0) dN))))) ["at","self"] [none,some 0] rfl (bY K rfl (pv 2)) (fun _ _ _ _=>⟨(aF (i:=0) (by show List.Nodup (["at","self"]:List Str);decide +kernel) rfl (by walk_at "o")),(ei (bc (gM K rfl) (pv 0) (de K rfl (pv 1) rfl) (by with_unfolding_all rfl))),(aG C_left_row (hr.mono (by decide)) (paC (de K rfl (pv 1) rfl) (paC (de K rfl (pv 1) rfl) (paC (pv 0) af))))⟩) (by kernel_rfl)) af)) rfl) (ag (kn (pv 0) (aG C_all_laps (hr.mono (by decide)) (paC (de K rfl (pv 0) rfl) af)) rfl) (aq (kn (pv 0) (ay (wI K rfl rfl) rfl T.b_sum boot_sum (paC (bJ (wi:=(iU K (rV K (aV 0) "words"))) (g:=(b3 0)) (tts:=i7) (te:=(tCB (nS K) (ba (aV 0) dN))) ["word"] [none] rfl (bY K rfl (de K rfl (pv 0) rfl)) (fun _ _ _ _=>⟨(aF (i:=0) (by show List.Nodup (["word"]:List Str);decide +kernel) rfl (by walk_at "o")),bR,(ay (df K rfl) rfl T.b_len PySem.boot_len (paC (pv 0) af))⟩) (by kernel_rfl)) af)) rfl))))))))),fnR (K:=K) (c:=aW) (ps:=cP) (N:=["self","pieces","indexes"]) (ax (dg (a6 (c:=aU) (aa (ac (ao (i:=1))) ae))) (ax (hX (c0:="Family") (ns0:=[]) (i:=0) TC.cl_Family TC.n_Family_pieces (by decide +kernel) (bx cu (aa (ak (i:=1)) ae))) (ax (aE (vt false (aa (ac (bx b7 (aa (ac (fe (ns0:=["pieces"]) TC.cl_Family TC.n_Family_pieces (i:=0) (by decide +kernel) (ak (i:=0)))) ae))) ae)) (au (i:=2) rfl)) (ax (hX (c0:="Family") (ns0:=["pieces"]) (i:=0) TC.cl_Family TC.n_Family_kept (by decide +kernel) (bx cu (aa (ac (a4 (ix:=[none,some 0]) rfl (bM (ao (i:=2))) (fun fs hc=>(aw (i:=0) (gI hc (by decide)))) (vf (a6 (c:=bK) (aa (ac (fe (ns0:=["pieces"]) TC.cl_Family TC.n_Family_pieces (i:=0) (by decide +kernel) (ak (i:=1)))) (aa (ac (ao (i:=0))) ae)))) (ao (i:=0)))) ae))) (ax (hX (c0:="Family") (ns0:=["pieces","kept"]) (i:=0) TC.cl_Family TC.n_Family_words (by decide +kernel) (bx cu (aa (ac (a4 (ix:=[none,some 0]) rfl (bM (fe (ns0:=["pieces","kept"]) TC.cl_Family TC.n_Family_kept (i:=1) (by decide +kernel) (ak (i:=0)))) (fun fs hc=>(aw (i:=0) (gI hc (by decide)))) cB (am cj (ac (fe (ns0:=["pieces","kept"]) TC.cl_Family TC.n_Family_pieces (i:=0) (by decide +kernel) (ak (i:=1)))) (ak (i:=0))))) ae))) (ax (hX (c0:="Family") (ns0:=["pieces","kept","words"]) (i:=0) TC.cl_Family TC.n_Family_left (by decide +kernel) (bx cu (aa (ac (a4 (ix:=[none,some 0]) rfl (bM (ao (i:=2))) (fun fs hc=>(aw (i:=0) (gI hc (by decide)))) (gC (am jx (ak (i:=0)) (ac (fe (ns0:=["pieces","kept","words"]) TC.cl_Family TC.n_Family_kept (i:=1) (by decide +kernel) (ak (i:=1)))))) (a6 (c:=bw) (aa (ac (fe (ns0:=["pieces","kept","words"]) TC.cl_Family TC.n_Family_pieces (i:=0) (by decide +kernel) (ak (i:=1)))) (aa (ac (fe (ns0:=["pieces","kept","words"]) TC.cl_Family TC.n_Family_kept (i:=1) (by decide +kernel) (ak (i:=1)))) (aa (ac (ao (i:=0))) ae)))))) ae))) (ax (hX (c0:="Family") (ns0:=["pieces","kept","words","left"]) (i:=0) TC.cl_Family TC.n_Family_laps (by decide +kernel) (a6 (c:=bE) (aa (ac (fe (ns0:=["pieces","kept","words","left"]) TC.cl_Family TC.n_Family_words (i:=2) (by decide +kernel) (ak (i:=0)))) ae))) (hX (c0:="Family") (ns0:=["pieces","kept","words","left","laps"]) (i:=0) TC.cl_Family TC.n_Family_total (by decide +kernel) (bx nY (aa (ac (a4 (ix:=[none]) rfl (bM (fe (ns0:=["pieces","kept","words","left","laps"]) TC.cl_Family TC.n_Family_words (i:=2) (by decide +kernel) (ak (i:=0)))) (fun fs hc=>(aw (i:=0) (gI hc (by decide)))) cB (bx b7 (aa (ak (i:=0)) ae)))) ae)))))))))) (fun p ds Q h=>Nat.le_trans (le_of_eq (fY p ds Q h)) (by decide)) ka h⟩
theorem fZ:∀ds Q,aX ds Q->ds.length=1:=fun ds Q h=>by unfold aX at h;split at h;(first|rfl|exact h.elim);(first|rfl|exact h.elim)
theorem kh(D:pF K (aQ K "Family") "many" "Family.many" bV)(T:Txt mg)(TC:TxC K)(TX:TxX K mg):Cb P w K mg base 1 (aQ K "Family") "many" ["self"] (spP K aX):=by
 refine D.ok j7 (fun _ _ _ _ _ _ us hl=>match us,hl with|[_],_=>rfl) (fun vs H Q E h=>?_) (fun f cdv A outer s H vs Q E hr h=>?_)
 .exact jX fZ h
 .have hu:=hr.units;exact⟨_,(aq (a9 (ay (df K rfl) rfl T.b_len PySem.boot_len (paC (de K rfl (pv 0) rfl) af)))),fnP (K:=K) (c:=aX) (ps:=cQ) (N:=["self"]) (bb (bx b7 (aa (ac (fe (ns0:=["pieces","kept","words","left","laps","total"]) TC.cl_Family TC.n_Family_words (i:=2) (by decide +kernel) (ak (i:=0)))) ae))) (fun ds Q h=>Nat.le_trans (le_of_eq (fZ ds Q h)) (by decide)) kc h⟩
theorem iL:∀ds Q,bp ds Q->ds.length=2:=fun ds Q h=>by unfold bp at h;split at h;(first|rfl|exact h.elim);(first|rfl|exact h.elim)
theorem ng(D:b9 K mg "_law_mixed" gi)(T:Txt mg)(TC:TxC K)(TX:TxX K mg):Cal P w K mg base 1 "_law_mixed" ["_law_cell","_law_k"] (spP K bp):=by
 refine D.ok cU (fun _ _ _ _ _ _ us hl=>match us,hl with|[_,_],_=>rfl) (fun vs H Q E h=>?_) (fun f cdv A outer s H vs Q E hr h=>?_)
 .exact jX iL h
 .have hu:=hr.units;exact⟨_,(ag (aL (i:=2) cU.nd rfl (by walk_at "o") (aD (bA K rfl) (aD (bA K rfl) (aD (bA K rfl) (aD cG (pv 0) ap) (aD gD (aD gD (pv 1) (pv 1)) ap)) (aD gD (pv 1) ap)) ap)) (ag (aL (i:=2) cU.nd rfl (by walk_at "o") (aD cG (pv 2) ap)) (ag (aL (i:=2) cU.nd rfl (by walk_at "o") (aD cG (aD gD (pv 2) (pv 2)) ap)) (ag (aL (i:=2) cU.nd rfl (by walk_at "o") (aD cG (aD gD (aD (bA K rfl) (aD (bA K rfl) (pv 2) (aD gD (pv 1) ap)) ap) ap) ap)) (aq (a9 (aD mB (aD cG (aD gD (pv 2) (pv 2)) ap) ap))))))),fnP (K:=K) (c:=bp) (ps:=dD) (N:=["_law_cell","_law_k","_law_number"]) (ax (aE (am aT (ac (am aT (ac (am aT (ac (am bC (ak (i:=0)) (ac le_int))) (ac (am dO (ac (am dO (ak (i:=1)) (ak (i:=1)))) (ac le_int))))) (ac (am dO (ak (i:=1)) (ac le_int))))) (ac le_int)) (au (i:=2) rfl)) (ax (aE (am bC (ak (i:=2)) (ac le_int)) (au (i:=2) rfl)) (ax (aE (am bC (ac (am dO (ak (i:=2)) (ak (i:=2)))) (ac le_int)) (au (i:=2) rfl)) (ax (aE (am bC (ac (am dO (ac (am aT (ac (am aT (ak (i:=2)) (ac (am dO (ak (i:=1)) (ac le_int))))) (ac le_int))) (ac le_int))) (ac le_int)) (au (i:=2) rfl)) (bb (am jq (ac (am bC (ac (am dO (ak (i:=2)) (ak (i:=2)))) (ac le_int))) (ac le_int))))))) (fun ds Q h=>Nat.le_trans (le_of_eq (iL ds Q h)) (by decide)) mW h⟩
theorem jU:∀ds Q,bF ds Q->ds.length=2:=fun ds Q h=>by unfold bF at h;split at h;(first|rfl|exact h.elim);(first|rfl|exact h.elim)
theorem oY(D:b9 K mg "_law_deck" ij)(T:Txt mg)(TC:TxC K)(TX:TxX K mg)(C_law_mixed:Cal P w K mg base 1 "_law_mixed" ["_law_cell","_law_k"] (spP K bp)):Cal P w K mg base 2 "_law_deck" ["_law_script","_law_many"] (spP K bF):=by
 refine D.ok bW (fun _ _ _ _ _ _ us hl=>match us,hl with|[_,_],_=>rfl) (fun vs H Q E h=>?_) (fun f cdv A outer s H vs Q E hr h=>?_)
 .exact jX jU h
 .have hu:=hr.units;exact⟨_,(ag (aL (i:=2) bW.nd rfl (by walk_at "o") (aD (bA K rfl) (bi (A9 K rfl) rfl T.b_list boot_list (paC (pv 0) af)) (cL (paC (ay (df K rfl) rfl T.b_len PySem.boot_len (paC (pv 0) af)) af)))) (ag (aL (i:=3) bW.nd rfl (by walk_at "o") (cL af)) (ag (aL (i:=4) bW.nd rfl (by walk_at "o") ap) (ag (kT PassesOwn.never (bc Cf (ay (df K rfl) rfl T.b_len PySem.boot_len (paC (pv 3) af)) (pv 1) (b6 _)) (ag (dr PassesOwn.never rfl (bY K rfl (pv 2)) (aF (i:=5) bW.nd rfl (by walk_at "o")) (ag (aL (i:=6) bW.nd rfl (by walk_at "o") (pv 5)) (ag (k7 (eV (PW.pt (xt (bc yw (pv 4) ap (b6 _)) (rE (bc Cf (pv 5) (aD Di ap ap) (b6 _))))) (ag (c8 (e8 K rfl PySem.F.plainAttrs_list PySem.F.slot_list_append PySem.F.type_list_append cS (pv 3) (paC (aD cG (aG C_law_mixed (hr.mono (by decide)) (paC (pv 5) (paC (aD (bA K rfl) (ay (df K rfl) rfl T.b_len PySem.boot_len (paC (pv 3) af)) ap) af))) ap) af))) (aq (aL (i:=6) bW.nd rfl (by walk_at "o") ap))) b2)) (aq (kT PassesOwn.never (PW.pt (rF (bc yw (pv 6) ap (b6 _)) (nB (bc Cf (ay (df K rfl) rfl T.b_len PySem.boot_len (paC (pv 3) af)) (pv 1) (b6 _))))) (ag (c8 (e8 K rfl PySem.F.plainAttrs_list PySem.F.slot_list_append PySem.F.type_list_append cS (pv 3) (paC (aD cG (pv 6) ap) af))) (aq (aL (i:=6) bW.nd rfl (by walk_at "o") (aD mB (pv 6) ap))))))))) (aq (aL (i:=4) bW.nd rfl (by walk_at "o") (aD (bA K rfl) (pv 4) ap))))) (aq (a9 (nZ K rfl rfl (cY (vm K rfl) (pv 3) e5 (dJ (pv 1))) rfl T.b_list rfl T.b_reversed))))))),fnP (K:=K) (c:=bF) (ps:=eI) (N:=["_law_script","_law_many","_law_cells","_law_found","_law_turn","_law_cell","_law_rest"]) (ax (aE (am aT (ac (bx yp (aa (ak (i:=0)) ae))) (ac (cA (aa (ac (bx b7 (aa (ak (i:=0)) ae))) ae)))) (au (i:=2) rfl)) (ax (aE (cA ae) (au (i:=3) rfl)) (ax (aE le_int (au (i:=4) rfl)) (ax (pJ (gC (am vh (ac (bx b7 (aa (ak (i:=3)) ae))) (ak (i:=1)))) (ax (dQ (bM (ao (i:=2))) (aw (i:=5) rfl) (ax (aE (ao (i:=5)) (au (i:=6) rfl)) (ax (li (eX (x6 (gC (am nR (ak (i:=4)) (ac le_int))) (gC (am vh (ak (i:=5)) (ac (am AT (ac le_int) (ac le_int)))))) (ax (dg (iB (i:=3) (am bC (ac (a6 (c:=bp) (aa (ac (ao (i:=5))) (aa (ac (am aT (ac (bx b7 (aa (ak (i:=3)) ae))) (ac le_int))) ae)))) (ac le_int)))) (aE le_int (au (i:=6) rfl))) bS)) (pJ (sR (gC (am nR (ak (i:=6)) (ac le_int))) (gC (am vh (ac (bx b7 (aa (ak (i:=3)) ae))) (ak (i:=1))))) (ax (dg (iB (i:=3) (am bC (ak (i:=6)) (ac le_int)))) (aE (am jq (ak (i:=6)) (ac le_int)) (au (i:=6) rfl))))))) (aE (am aT (ak (i:=4)) (ac le_int)) (au (i:=4) rfl)))) (bb (qJ (ac (cZ (ak (i:=3)) dw (cN (ao (i:=1))))))))))) (fun ds Q h=>Nat.le_trans (le_of_eq (jU ds Q h)) (by decide)) oP h⟩
theorem jV:∀p ds Q,az p ds Q->ds.length+1=1:=fun p ds Q h=>by unfold az at h;split at h;(first|rfl|exact h.elim);(first|rfl|exact h.elim)
theorem oZ(D:b9 K mg "_law_next" ik)(T:Txt mg)(TC:TxC K)(TX:TxX K mg):Cal P w K mg base 1 "_law_next" ["_law_deck_here"] (spR K az):=by
 refine D.ok oz (fun _ _ _ _ _ _ us hl=>match us,hl with|[_],_=>rfl) (fun vs H Q E h=>?_) (fun f cdv A outer s H vs Q E hr h=>?_)
 .exact zI jV h
 .have hu:=hr.units;exact⟨_,(aq (a9 (wA PySem.F.plainAttrs_list PySem.F.slot_list_pop PySem.F.type_list_pop At (pv 0)))),fnR (K:=K) (c:=az) (ps:=eJ) (N:=["_law_deck_here"]) (bb (A0 (i:=0))) (fun p ds Q h=>Nat.le_trans (le_of_eq (jV p ds Q h)) (by decide)) oQ h⟩
theorem iM:∀p ds Q,bq p ds Q->ds.length+1=3:=fun p ds Q h=>by unfold bq at h;split at h;(first|rfl|exact h.elim);(first|rfl|exact h.elim)
theorem nh(D:b9 K mg "_law_signs" gj)(T:Txt mg)(TC:TxC K)(TX:TxX K mg)(C_law_next:Cal P w K mg base 1 "_law_next" ["_law_deck_here"] (spR K az)):Cal P w K mg base 2 "_law_signs" ["_law_deck_here","_law_letters","_law_many"] (spR K bq):=by
 refine D.ok dB (fun _ _ _ _ _ _ us hl=>match us,hl with|[_,_,_],_=>rfl) (fun vs H Q E h=>?_) (fun f cdv A outer s H vs Q E hr h=>?_)
 .exact zI iM h
 .have hu:=hr.units;exact⟨_,(ag (aL (i:=3) dB.nd rfl (by walk_at "o") (f8 (l:=[]) (by decide +kernel))) (ag (dr PassesOwn.never rfl (bI rfl T.b_range (paC (pv 2) af)) (aF (i:=4) dB.nd rfl (by walk_at "o")) (aq (aL (i:=3) dB.nd rfl (by walk_at "o") (aD (bA K rfl) (pv 3) (cz (gb K rfl) (pv 1) (aD cG (aG C_law_next (hr.mono (by decide)) (paC (pv 0) af)) (ay (df K rfl) rfl T.b_len PySem.boot_len (paC (pv 1) af))) (fun _ _=>rfl)))))) (aq (a9 (pv 3))))),fnR (K:=K) (c:=bq) (ps:=dE) (N:=["_law_deck_here","_law_letters","_law_many","_law_found","_law_k"]) (ax (aE (le_str (l:=[])) (au (i:=3) rfl)) (ax (dQ (gF (aa (ac (ao (i:=2))) ae)) (aw (i:=4) rfl) (aE (am aT (ak (i:=3)) (ac (am cj (ak (i:=1)) (ac (am bC (ac (bh (i:=0) ae)) (ac (bx b7 (aa (ak (i:=1)) ae)))))))) (au (i:=3) rfl))) (bb (ao (i:=3))))) (fun p ds Q h=>Nat.le_trans (le_of_eq (iM p ds Q h)) (by decide)) mZ h⟩
theorem gU:∀p ds Q,bn p ds Q->ds.length+1=2:=fun p ds Q h=>by unfold bn at h;split at h;(first|rfl|exact h.elim);(first|rfl|exact h.elim)
theorem lL(D:b9 K mg "_law_pieces" fk)(T:Txt mg)(TC:TxC K)(TX:TxX K mg)(C_law_next:Cal P w K mg base 1 "_law_next" ["_law_deck_here"] (spR K az))(C_law_signs:Cal P w K mg base 2 "_law_signs" ["_law_deck_here","_law_letters","_law_many"] (spR K bq)):Cal P w K mg base 3 "_law_pieces" ["_law_deck_here","_law_most"] (spR K bn):=by
 refine D.ok aR (fun _ _ _ _ _ _ us hl=>match us,hl with|[_,_],_=>rfl) (fun vs H Q E h=>?_) (fun f cdv A outer s H vs Q E hr h=>?_)
 .exact zI gU h
 .have hu:=hr.units;exact⟨_,(ag (aL (i:=2) aR.nd rfl (by walk_at "o") (aD cG (aG C_law_next (hr.mono (by decide)) (paC (pv 0) af)) ap)) (ag (aL (i:=3) aR.nd rfl (by walk_at "o") (cz (gb K rfl) (cL (paC ap (paC ap (paC ap (paC ap af))))) (aD cG (aG C_law_next (hr.mono (by decide)) (paC (pv 0) af)) ap) (fun _ _=>rfl))) (ag (e7 (wi:=(jd (ba (aV 3) dN))) (g:=(b3 0)) (tts:=i7) (te:=(tOp (nv K) (tC (V.str (S [97,98,99,100,101,102,103,104,105,106,107,108,109,110,111,112,113,114,115,116,117,118,119,120,121,122]))) (tOp vy (tOp (j5 K) (aV 1) (tOp qG (tC (V.int 7)) (aV 0))) (tC (V.int 26))))) (i:=4) ["_law_k","_law_first"] [none,some 2] aR.nd rfl (Or.inl rfl) rfl (bI rfl T.b_range (paC (pv 3) af)) (fun _ _ _ _=>⟨(aF (i:=0) (by show List.Nodup (["_law_k","_law_first"]:List Str);decide +kernel) rfl (by walk_at "o")),bR,(cz (gb K rfl) (f8 (l:=[97,98,99,100,101,102,103,104,105,106,107,108,109,110,111,112,113,114,115,116,117,118,119,120,121,122]) (by decide +kernel)) (aD cG (aD (bA K rfl) (pv 1) (aD gD ap (pv 0))) ap) (fun _ _=>rfl))⟩) (by kernel_rfl)) (ag (aL (i:=5) aR.nd rfl (by walk_at "o") (aD cG (aG C_law_next (hr.mono (by decide)) (paC (pv 0) af)) ap)) (ag (aL (i:=6) aR.nd rfl (by walk_at "o") (aD (bA K rfl) ap (aD cG (aG C_law_next (hr.mono (by decide)) (paC (pv 0) af)) ap))) (ag (aL (i:=7) aR.nd rfl (by walk_at "o") (aD gD (aG C_law_signs (hr.mono (by decide)) (paC (pv 0) (paC (pv 4) (paC (aD (bA K rfl) ap (aD cG (aG C_law_next (hr.mono (by decide)) (paC (pv 0) af)) ap)) af)))) ap)) (ag (aL (i:=8) aR.nd rfl (by walk_at "o") (cL af)) (ag (dr PassesOwn.never rfl (bI rfl T.b_range (paC (aD cG (aG C_law_next (hr.mono (by decide)) (paC (pv 0) af)) (aD (bA K rfl) (pv 1) ap)) af)) (aF (i:=9) aR.nd rfl (by walk_at "o")) (ag (aL (i:=10) aR.nd rfl (by walk_at "o") (aG C_law_next (hr.mono (by decide)) (paC (pv 0) af))) (ag (aL (i:=11) aR.nd rfl (by walk_at "o") (cY (vm K rfl) (pv 7) (dJ (aD cG (pv 10) ap)) (dJ (aD (bA K rfl) (aD (bA K rfl) (aD cG (pv 10) ap) (pv 6)) (aD mB (aD cG (aD mB (pv 10) ap) ap) ap))))) (ag (k7 (eV (bc (qL K rfl hu) (pv 5) ap (b6 _)) (aq (aL (i:=11) aR.nd rfl (by walk_at "o") (aG C_law_signs (hr.mono (by decide)) (paC (pv 0) (paC (pv 4) (paC (aD (bA K rfl) ap (aD cG (pv 10) ap)) af)))))) b2)) (ag (k7 (eV (bc (qL K rfl hu) (pv 5) ap (b6 _)) (aq (aL (i:=11) aR.nd rfl (by walk_at "o") (aD (bA K rfl) (aD (bA K rfl) (aD gD (cz (gb K rfl) (pv 4) ap (fun _ _=>rfl)) (aD cG (pv 10) ap)) (cz (gb K rfl) (pv 4) ap (fun _ _=>rfl))) (aD gD (cz (gb K rfl) (pv 4) ap (fun _ _=>rfl)) (aD cG (aD mB (pv 10) ap) ap))))) b2)) (aq (c8 (e8 K rfl PySem.F.plainAttrs_list PySem.F.slot_list_append PySem.F.type_list_append cS (pv 8) (paC (pv 11) af))))))))) (aq (a9 (pv 8))))))))))),fnR (K:=K) (c:=bn) (ps:=c7) (N:=["_law_deck_here","_law_most","_law_first","_law_many","_law_letters","_law_sort","_law_long","_law_text","_law_pieces_here","_law_k","_law_at","_law_piece"]) (ax (aE (am bC (ac (bh (i:=0) ae)) (ac le_int)) (au (i:=2) rfl)) (ax (aE (am cj (ac (cA (aa (ac le_int) (aa (ac le_int) (aa (ac le_int) (aa (ac le_int) ae)))))) (ac (am bC (ac (bh (i:=0) ae)) (ac le_int)))) (au (i:=3) rfl)) (ax (aE (a4 (ix:=[none,some 2]) rfl (gF (aa (ac (ao (i:=3))) ae)) (fun fs hc=>(aw (i:=0) (gI hc (by decide)))) cB (am cj (ac (le_str (l:=[97,98,99,100,101,102,103,104,105,106,107,108,109,110,111,112,113,114,115,116,117,118,119,120,121,122]))) (ac (am bC (ac (am aT (ak (i:=1)) (ac (am dO (ac le_int) (ak (i:=0)))))) (ac le_int))))) (au (i:=4) rfl)) (ax (aE (am bC (ac (bh (i:=0) ae)) (ac le_int)) (au (i:=5) rfl)) (ax (aE (am aT (ac le_int) (ac (am bC (ac (bh (i:=0) ae)) (ac le_int)))) (au (i:=6) rfl)) (ax (aE (am dO (ac (bh (i:=0) (aa (ac (ao (i:=4))) (aa (ac (am aT (ac le_int) (ac (am bC (ac (bh (i:=0) ae)) (ac le_int))))) ae)))) (ac le_int)) (au (i:=7) rfl)) (ax (aE (cA ae) (au (i:=8) rfl)) (ax (dQ (gF (aa (ac (am bC (ac (bh (i:=0) ae)) (ac (am aT (ak (i:=1)) (ac le_int))))) ae)) (aw (i:=9) rfl) (ax (aE (bh (i:=0) ae) (au (i:=10) rfl)) (ax (aE (cZ (ak (i:=7)) (cN (am bC (ak (i:=10)) (ac le_int))) (cN (am aT (ac (am aT (ac (am bC (ak (i:=10)) (ac le_int))) (ak (i:=6)))) (ac (am jq (ac (am bC (ac (am jq (ak (i:=10)) (ac le_int))) (ac le_int))) (ac le_int)))))) (au (i:=11) rfl)) (ax (li (eX (gC (am kA (ak (i:=5)) (ac le_int))) (aE (bh (i:=0) (aa (ac (ao (i:=4))) (aa (ac (am aT (ac le_int) (ac (am bC (ak (i:=10)) (ac le_int))))) ae))) (au (i:=11) rfl)) bS)) (ax (li (eX (gC (am kA (ak (i:=5)) (ac le_int))) (aE (am aT (ac (am aT (ac (am dO (ac (am cj (ak (i:=4)) (ac le_int))) (ac (am bC (ak (i:=10)) (ac le_int))))) (ac (am cj (ak (i:=4)) (ac le_int))))) (ac (am dO (ac (am cj (ak (i:=4)) (ac le_int))) (ac (am bC (ac (am jq (ak (i:=10)) (ac le_int))) (ac le_int)))))) (au (i:=11) rfl)) bS)) (dg (iB (i:=8) (ao (i:=11))))))))) (bb (ao (i:=8))))))))))) (fun p ds Q h=>Nat.le_trans (le_of_eq (gU p ds Q h)) (by decide)) lF h⟩
theorem iN:∀ds Q,br ds Q->ds.length=1:=fun ds Q h=>by unfold br at h;split at h;(first|rfl|exact h.elim);(first|rfl|exact h.elim)
theorem nj(D:b9 K mg "_law_words" gk)(T:Txt mg)(TC:TxC K)(TX:TxX K mg):Cal P w K mg base 1 "_law_words" ["_law_pieces_here"] (spP K br):=by
 refine D.ok cV (fun _ _ _ _ _ _ us hl=>match us,hl with|[_],_=>rfl) (fun vs H Q E h=>?_) (fun f cdv A outer s H vs Q E hr h=>?_)
 .exact jX iN h
 .have hu:=hr.units;exact⟨_,(ag (aL (i:=1) cV.nd rfl (by walk_at "o") (cL af)) (ag (dr PassesOwn.never rfl (pM K rfl rfl T.b_enumerate (paC (pv 0) af)) (tH K rfl (n:=2) rfl (fq (aF (i:=2) cV.nd rfl (by walk_at "o")) (fq (aF (i:=3) cV.nd rfl (by walk_at "o")) nC))) (ag (e7 (wi:=(iU K (aV 0))) (g:=(b3 0)) (tts:=(Cj (kU (tOp Dh (tCB (nS K) (ba (aV 0) dN)) (tCB (nS K) (ba (aV 1) dN)))) (kU (tOp (BE K false) (aV 1) (aV 0))))) (te:=(aV 0)) (i:=4) ["_law_other","_law_piece"] [none,some 3] cV.nd rfl (Or.inl rfl) rfl (bY K rfl (pv 0)) (fun _ _ _ _=>⟨(aF (i:=0) (by show List.Nodup (["_law_other","_law_piece"]:List Str);decide +kernel) rfl (by walk_at "o")),(ei (PW.pt (rF (bc yw (ay (df K rfl) rfl T.b_len PySem.boot_len (paC (pv 0) af)) (ay (df K rfl) rfl T.b_len PySem.boot_len (paC (pv 1) af)) (b6 _)) (nB (bc (Dy K rfl) (pv 1) (pv 0) (by with_unfolding_all rfl)))))),(pv 0)⟩) (by kernel_rfl)) (aq (eV (PW.pt (rF (bc (qL K rfl hu) (pv 4) (cL af) (b6 _)) (nB (bc (gM K rfl) (pv 3) (cY (vm K rfl) (pv 0) e5 (dJ (pv 2))) (by with_unfolding_all rfl))))) (aq (c8 (e8 K rfl PySem.F.plainAttrs_list PySem.F.slot_list_append PySem.F.type_list_append cS (pv 1) (paC (pv 3) af)))) b2)))) (aq (a9 (pv 1))))),fnP (K:=K) (c:=br) (ps:=dF) (N:=["_law_pieces_here","_law_found","_law_k","_law_piece","_law_longer"]) (ax (aE (cA ae) (au (i:=1) rfl)) (ax (dQ (sX (aa (ac (ao (i:=0))) ae)) (n8 (fB (aw (i:=2) rfl) (fB (aw (i:=3) rfl) nU))) (ax (aE (a4 (ix:=[none,some 3]) rfl (bM (ao (i:=0))) (fun fs hc=>(aw (i:=0) (gI hc (by decide)))) (sR (gC (am nR (ac (bx b7 (aa (ak (i:=0)) ae))) (ac (bx b7 (aa (ak (i:=1)) ae))))) (gC (am jx (ak (i:=1)) (ak (i:=0))))) (ao (i:=0))) (au (i:=4) rfl)) (eX (sR (gC (am kA (ak (i:=4)) (ac (cA ae)))) (gC (am jx (ak (i:=3)) (ac (cZ (ak (i:=0)) dw (cN (ao (i:=2)))))))) (dg (iB (i:=1) (ao (i:=3)))) bS))) (bb (ao (i:=1))))) (fun ds Q h=>Nat.le_trans (le_of_eq (iN ds Q h)) (by decide)) m4 h⟩
theorem kP:∀ds Q,bB ds Q->ds.length=2:=fun ds Q h=>by unfold bB at h;split at h;(first|rfl|exact h.elim);(first|rfl|exact h.elim)
theorem rj(D:b9 K mg "_law_lap" jB)(T:Txt mg)(TC:TxC K)(TX:TxX K mg):Cal P w K mg base 1 "_law_lap" ["_law_one","_law_other"] (spP K bB):=by
 refine D.ok kG (fun _ _ _ _ _ _ us hl=>match us,hl with|[_,_],_=>rfl) (fun vs H Q E h=>?_) (fun f cdv A outer s H vs Q E hr h=>?_)
 .exact jX kP h
 .have hu:=hr.units;exact⟨_,(ag (dr PassesOwn.never rfl (l7 rfl T.b_range (paC (aD tu (ay (wH rfl) rfl T.b_min boot_min (paC (ay (df K rfl) rfl T.b_len PySem.boot_len (paC (pv 0) af)) (paC (ay (df K rfl) rfl T.b_len PySem.boot_len (paC (pv 1) af)) af))) ap) (paC ap (paC (lP iy ap) af)))) (aF (i:=2) kG.nd rfl (by walk_at "o")) (aq (eV (bc (qL K rfl hu) (cY (vm K rfl) (pv 0) (dJ (aD tu (ay (df K rfl) rfl T.b_len PySem.boot_len (paC (pv 0) af)) (pv 2))) e5) (cY (vm K rfl) (pv 1) e5 (dJ (pv 2))) (b6 _)) (aq (a9 (pv 2))) b2))) (aq (a9 ap))),fnP (K:=K) (c:=bB) (ps:=fK) (N:=["_law_one","_law_other","_law_k"]) (ax (dQ (AZ (aa (ac (am mw (ac (bx sY (aa (ac (bx b7 (aa (ak (i:=0)) ae))) (aa (ac (bx b7 (aa (ak (i:=1)) ae))) ae)))) (ac le_int))) (aa (ac le_int) (aa (ac (mq iC (ac le_int))) ae)))) (aw (i:=2) rfl) (eX (gC (am kA (ac (cZ (ak (i:=0)) (cN (am mw (ac (bx b7 (aa (ak (i:=0)) ae))) (ak (i:=2)))) dw)) (ac (cZ (ak (i:=1)) dw (cN (ao (i:=2))))))) (bb (ao (i:=2))) bS)) (bb le_int)) (fun ds Q h=>Nat.le_trans (le_of_eq (kP ds Q h)) (by decide)) rc h⟩
theorem jW:∀ds Q,bG ds Q->ds.length=1:=fun ds Q h=>by unfold bG at h;split at h;(first|rfl|exact h.elim);(first|rfl|exact h.elim)
theorem o0(D:b9 K mg "_law_laps" il)(T:Txt mg)(TC:TxC K)(TX:TxX K mg)(C_law_lap:Cal P w K mg base 1 "_law_lap" ["_law_one","_law_other"] (spP K bB)):Cal P w K mg base 2 "_law_laps" ["_law_words_here"] (spP K bG):=by
 refine D.ok oA (fun _ _ _ _ _ _ us hl=>match us,hl with|[_],_=>rfl) (fun vs H Q E h=>?_) (fun f cdv A outer s H vs Q E hr h=>?_)
 .exact jX jW h
 .have hu:=hr.units;exact⟨_,(aq (a9 (bJ (wi:=(iU K (aV 0))) (g:=(b3 0)) (tts:=i7) (te:=(nL [none,some 0] (iU K (aV 1)) (b3 0) i7 (dY (spP K bB) [] E0 (ba (aV 1) (ba (aV 0) dN))))) ["_law_one","_law_words_here"] [none,some 0] rfl (bY K rfl (pv 0)) (fun _ _ _ _=>⟨(aF (i:=0) (by show List.Nodup (["_law_one","_law_words_here"]:List Str);decide +kernel) rfl (by walk_at "o")),bR,(bJ (wi:=(iU K (aV 1))) (g:=(b3 0)) (tts:=i7) (te:=(dY (spP K bB) [] E0 (ba (aV 1) (ba (aV 0) dN)))) ["_law_other","_law_one"] [none,some 0] rfl (bY K rfl (pv 1)) (fun _ _ _ _=>⟨(aF (i:=0) (by show List.Nodup (["_law_other","_law_one"]:List Str);decide +kernel) rfl (by walk_at "o")),bR,(aG C_law_lap (hr.mono (by decide)) (paC (pv 1) (paC (pv 0) af)))⟩) (by kernel_rfl))⟩) (by kernel_rfl)))),fnP (K:=K) (c:=bG) (ps:=eM) (N:=["_law_words_here"]) (bb (wS (a4 (ix:=[none,some 0]) rfl (bM (ao (i:=0))) (fun fs hc=>(aw (i:=0) (gI hc (by decide)))) cB (a4 (ix:=[none,some 0]) rfl (bM (ao (i:=1))) (fun fs hc=>(aw (i:=0) (gI hc (by decide)))) cB (a6 (c:=bB) (aa (ac (ao (i:=1))) (aa (ac (ao (i:=0))) ae))))))) (fun ds Q h=>Nat.le_trans (le_of_eq (jW ds Q h)) (by decide)) oS h⟩
theorem eU:∀ds Q,aP ds Q->ds.length=1:=fun ds Q h=>by unfold aP at h;split at h;(first|rfl|exact h.elim);(first|rfl|exact h.elim)
theorem i6(D:b9 K mg "_law_by_orders" dn)(T:Txt mg)(TC:TxC K)(TX:TxX K mg):Cal P w K mg base 1 "_law_by_orders" ["_law_laps_here"] (spP K aP):=by
 refine D.ok aO (fun _ _ _ _ _ _ us hl=>match us,hl with|[_],_=>rfl) (fun vs H Q E h=>?_) (fun f cdv A outer s H vs Q E hr h=>?_)
 .exact jX eU h
 .have hu:=hr.units;exact⟨_,(ag (aL (i:=1) aO.nd rfl (by walk_at "o") (ay (df K rfl) rfl T.b_len PySem.boot_len (paC (pv 0) af))) (ag (e7 (wi:=(jd (ba (tOp Bk (tC (V.int 1)) (aV 1)) dN))) (g:=(b3 0)) (tts:=i7) (te:=(tOp qG (Al (ba (tUn yv (tC (V.int 1))) dN)) (aV 1))) (i:=2) ["_law_mark","_law_many"] [none,some 1] aO.nd rfl (Or.inl rfl) rfl (bI rfl T.b_range (paC (aD qM ap (pv 1)) af)) (fun _ _ _ _=>⟨(aF (i:=0) (by show List.Nodup (["_law_mark","_law_many"]:List Str);decide +kernel) rfl (by walk_at "o")),bR,(aD gD (cL (paC (lP iy ap) af)) (pv 1))⟩) (by kernel_rfl)) (ag (e7 (wi:=(jd (ba (aV 1) dN))) (g:=(b3 0)) (tts:=i7) (te:=(CA (ba (Al (ba (aV 0) dN)) (ba (tC (V.int 0)) dN)))) (i:=3) ["_law_i"] [none] aO.nd rfl (Or.inl rfl) rfl (bI rfl T.b_range (paC (pv 1) af)) (fun _ _ _ _=>⟨(aF (i:=0) (by show List.Nodup (["_law_i"]:List Str);decide +kernel) rfl (by walk_at "o")),bR,(rX (paC (cL (paC (pv 0) af)) (paC ap af)))⟩) (by kernel_rfl)) (ag (kT PassesOwn.never (bc (tE K rfl hu) (pv 3) (cL af) (b6 _)) (ag (aL (i:=4) aO.nd rfl (by walk_at "o") (cL af)) (ag (dr PassesOwn.never rfl (bY K rfl (pv 3)) (tH K rfl (n:=2) rfl (fq (aF (i:=5) aO.nd rfl (by walk_at "o")) (fq (aF (i:=6) aO.nd rfl (by walk_at "o")) nC))) (ag (aL (i:=7) aO.nd rfl (by walk_at "o") (ay (wI K rfl rfl) rfl T.b_sum boot_sum (paC (bJ (wi:=(iU K (aV 5))) (g:=(b3 0)) (tts:=i7) (te:=(tOp Bk (tC (V.int 1)) (aV 0))) ["_law_i"] [none] rfl (bY K rfl (pv 5)) (fun _ _ _ _=>⟨(aF (i:=0) (by show List.Nodup (["_law_i"]:List Str);decide +kernel) rfl (by walk_at "o")),bR,(aD qM ap (pv 0))⟩) (by kernel_rfl)) af))) (ag (uc (ay (A3 rfl) rfl T.b_max boot_max (paC (cz (gb K rfl) (cz (gb K rfl) (pv 2) (pv 7) (fun _ _=>rfl)) (cz (gb K rfl) (pv 5) (lP iy ap) (fun _ _=>rfl)) (fun _ _=>rfl)) (paC (pv 6) af))) (wu (cz (gb K rfl) (pv 2) (pv 7) (fun _ _=>rfl)) (cz (gb K rfl) (pv 5) (lP iy ap) (fun _ _=>rfl)) o9)) (aq (dr PassesOwn.never rfl (bI rfl T.b_range (paC (pv 1) af)) (aF (i:=8) aO.nd rfl (by walk_at "o")) (aq (eV (bc (gM K rfl) (pv 8) (pv 5) (by with_unfolding_all rfl)) (aq (c8 (e8 K rfl PySem.F.plainAttrs_list PySem.F.slot_list_append PySem.F.type_list_append cS (pv 4) (paC (rX (paC (aD (bA K rfl) (pv 5) (cL (paC (pv 8) af))) (paC (aD (bA K rfl) (pv 6) (cz (gb K rfl) (cz (gb K rfl) (pv 0) (cz (gb K rfl) (pv 5) (lP iy ap) (fun _ _=>rfl)) (fun _ _=>rfl)) (pv 8) (fun _ _=>rfl))) af))) af)))) b2))))))) (aq (aL (i:=3) aO.nd rfl (by walk_at "o") (pv 4)))))) (aq (a9 (bi (cW K rfl) rfl T.b_tuple boot_tuple (paC (bJ (wi:=(iU K (aV 2))) (g:=(b3 0)) (tts:=i7) (te:=(tCB (sZ K) (ba (aV 0) dN))) ["_law_row"] [none] rfl (bY K rfl (pv 2)) (fun _ _ _ _=>⟨(aF (i:=0) (by show List.Nodup (["_law_row"]:List Str);decide +kernel) rfl (by walk_at "o")),bR,(bi (cW K rfl) rfl T.b_tuple boot_tuple (paC (pv 0) af))⟩) (by kernel_rfl)) af)))))))),fnP (K:=K) (c:=aP) (ps:=cw) (N:=["_law_laps_here","_law_many","_law_table","_law_rows","_law_longer","_law_row","_law_found","_law_mark","_law_i"]) (ax (aE (bx b7 (aa (ak (i:=0)) ae)) (au (i:=1) rfl)) (BM (x:=2) rfl vY (ib (mM (aE (a4 (ix:=[none]) rfl (gF (aa (ac (ao (i:=1))) ae)) (fun fs hc=>(aw (i:=0) (gI hc (by decide)))) cB (mr (aa (ac (cA (aa (ac (ao (i:=0))) ae))) (aa (ac le_int) ae)))) (au (i:=3) rfl)) (aE (a4 (ix:=[none]) rfl (gF (aa (ac (ao (i:=1))) ae)) (fun fs hc=>(aw (i:=0) (gI hc (by decide)))) cB (mr (aa (ac (cA (aa (ac (ao (i:=0))) ae))) (aa (ac le_int) ae)))) (au (i:=3) rfl))) (ib (uh (gC (am mC (ak (i:=3)) (ac (cA ae)))) (ib (mM (aE (cA ae) (au (i:=4) rfl)) (aE (cA ae) (au (i:=4) rfl))) (ib (zd (bM (ao (i:=3))) (n8 (fB (aw (i:=5) rfl) (fB (aw (i:=6) rfl) nU))) (ib (mM (aE (bx nY (aa (ac (a4 (ix:=[none]) rfl (bM (ao (i:=5))) (fun fs hc=>(aw (i:=0) (gI hc (by decide)))) cB (am kB (ac le_int) (ak (i:=0))))) ae)) (au (i:=7) rfl)) (aE (bx nY (aa (ac (a4 (ix:=[none]) rfl (bM (ao (i:=5))) (fun fs hc=>(aw (i:=0) (gI hc (by decide)))) cB (am kB (ac le_int) (ak (i:=0))))) ae)) (au (i:=7) rfl))) (ib (vW (bx yl (aa (ac (am cj (ac (am cj (ak (i:=2)) (ak (i:=7)))) (ac (am cj (ak (i:=5)) (ac (mq iC (ac le_int))))))) (aa (ak (i:=6)) ae))) (ao (i:=7)) (am cj (ak (i:=5)) (ac (mq iC (ac le_int))))) (mM (dQ (gF (aa (ac (ao (i:=1))) ae)) (aw (i:=8) rfl) (eX (gC (am jx (ak (i:=8)) (ak (i:=5)))) (dg (iB (i:=4) (mr (aa (ac (am aT (ak (i:=5)) (ac (cA (aa (ac (ao (i:=8))) ae))))) (aa (ac (am aT (ak (i:=6)) (ac (am cj (ac (am cj (ak (i:=0)) (ac (am cj (ak (i:=5)) (ac (mq iC (ac le_int))))))) (ak (i:=8)))))) ae))))) bS)) (dQ (gF (aa (ac (ao (i:=1))) ae)) (aw (i:=8) rfl) (eX (gC (am jx (ak (i:=8)) (ak (i:=5)))) (dg (iB (i:=4) (mr (aa (ac (am aT (ak (i:=5)) (ac (cA (aa (ac (ao (i:=8))) ae))))) (aa (ac (am aT (ak (i:=6)) (ac (am cj (ac (am cj (ak (i:=0)) (ac (am cj (ak (i:=5)) (ac (mq iC (ac le_int))))))) (ak (i:=8)))))) ae))))) bS)))))) (mM (aE (ao (i:=4)) (au (i:=3) rfl)) (aE (ao (i:=4)) (au (i:=3) rfl)))))) (BK (x:=2) (bb (bx cu (aa (ac (a4 (ix:=[none]) rfl (bM (ao (i:=2))) (fun fs hc=>(aw (i:=0) (gI hc (by decide)))) cB (bx cu (aa (ak (i:=0)) ae)))) ae)))))))) (fun ds Q h=>Nat.le_trans (le_of_eq (eU ds Q h)) (by decide)) i3 h⟩
theorem f7:∀ds Q,aY ds Q->ds.length=1:=fun ds Q h=>by unfold aY at h;split at h;(first|rfl|exact h.elim);(first|rfl|exact h.elim)
theorem ki(D:b9 K mg "_law_by_rows" eB)(T:Txt mg)(TC:TxC K)(TX:TxX K mg):Cal P w K mg base 1 "_law_by_rows" ["_law_laps_here"] (spP K aY):=by
 refine D.ok bo (fun _ _ _ _ _ _ us hl=>match us,hl with|[_],_=>rfl) (fun vs H Q E h=>?_) (fun f cdv A outer s H vs Q E hr h=>?_)
 .exact jX f7 h
 .have hu:=hr.units;exact⟨_,(ag (aL (i:=1) bo.nd rfl (by walk_at "o") (ay (df K rfl) rfl T.b_len PySem.boot_len (paC (pv 0) af))) (ag (aL (i:=2) bo.nd rfl (by walk_at "o") (cL af)) (ag (dr PassesOwn.never rfl (bI rfl T.b_range (paC (aD qM ap (pv 1)) af)) (aF (i:=3) bo.nd rfl (by walk_at "o")) (ag (aL (i:=4) bo.nd rfl (by walk_at "o") (aD gD (cL (paC (lP iy ap) af)) (pv 1))) (ag (e7 (wi:=(jd (ba (aV 1) dN))) (g:=(b3 0)) (tts:=(kU (tOp (qK K false) (tOp vH (tOp Ch (aV 1) (aV 0)) (tC (V.int 1))) (tC (V.int 1))))) (te:=(aV 0)) (i:=5) ["_law_i","_law_mark"] [none,some 3] bo.nd rfl (Or.inl rfl) rfl (bI rfl T.b_range (paC (pv 1) af)) (fun _ _ _ _=>⟨(aF (i:=0) (by show List.Nodup (["_law_i","_law_mark"]:List Str);decide +kernel) rfl (by walk_at "o")),(ei (bc (qL K rfl hu) (aD wO (aD Bl (pv 1) (pv 0)) ap) ap (b6 _))),(pv 0)⟩) (by kernel_rfl)) (ag (dr PassesOwn.never rfl (bY K rfl (pv 5)) (aF (i:=6) bo.nd rfl (by walk_at "o")) (ag (aL (i:=7) bo.nd rfl (by walk_at "o") (uH (bc yw (ay (df K rfl) rfl T.b_len PySem.boot_len (paC (pv 5) af)) ap (b6 _)) (cz (gb K rfl) (pv 2) (aD tu (pv 3) (aD qM ap (pv 6))) (fun _ _=>rfl)) (cL af))) (aq (uc (ay (Bj K rfl rfl) rfl T.b_max boot_max (paC (aD (bA K rfl) (cL (paC ap af)) (bJ (wi:=(iU K (aV 5))) (g:=(b3 0)) (tts:=(kU (tOp (qK K true) (aV 0) (aV 2)))) (te:=(tOp (j5 K) (tOp (nv K) (aV 1) (aV 0)) (tOp (nv K) (tOp (nv K) (aV 3) (aV 0)) (aV 2)))) ["_law_j","_law_below","_law_i","_law_laps_here"] [none,some 7,some 6,some 0] rfl (bY K rfl (pv 5)) (fun _ _ _ _=>⟨(aF (i:=0) (by show List.Nodup (["_law_j","_law_below","_law_i","_law_laps_here"]:List Str);decide +kernel) rfl (by walk_at "o")),(ei (bc (tE K rfl hu) (pv 0) (pv 2) (b6 _))),(aD (bA K rfl) (cz (gb K rfl) (pv 1) (pv 0) (fun _ _=>rfl)) (cz (gb K rfl) (cz (gb K rfl) (pv 3) (pv 0) (fun _ _=>rfl)) (pv 2) (fun _ _=>rfl)))⟩) (by kernel_rfl))) af)) (wu (pv 4) (pv 6) o9))))) (aq (c8 (e8 K rfl PySem.F.plainAttrs_list PySem.F.slot_list_append PySem.F.type_list_append cS (pv 2) (paC (pv 4) af)))))))) (aq (a9 (bi (cW K rfl) rfl T.b_tuple boot_tuple (paC (bJ (wi:=(iU K (aV 2))) (g:=(b3 0)) (tts:=i7) (te:=(tCB (sZ K) (ba (aV 0) dN))) ["_law_row"] [none] rfl (bY K rfl (pv 2)) (fun _ _ _ _=>⟨(aF (i:=0) (by show List.Nodup (["_law_row"]:List Str);decide +kernel) rfl (by walk_at "o")),bR,(bi (cW K rfl) rfl T.b_tuple boot_tuple (paC (pv 0) af))⟩) (by kernel_rfl)) af))))))),fnP (K:=K) (c:=aY) (ps:=cR) (N:=["_law_laps_here","_law_many","_law_table","_law_mark","_law_row","_law_inside","_law_i","_law_below"]) (ax (aE (bx b7 (aa (ak (i:=0)) ae)) (au (i:=1) rfl)) (ax (aE (cA ae) (au (i:=2) rfl)) (ax (dQ (gF (aa (ac (am kB (ac le_int) (ak (i:=1)))) ae)) (aw (i:=3) rfl) (ax (aE (am dO (ac (cA (aa (ac (mq iC (ac le_int))) ae))) (ak (i:=1))) (au (i:=4) rfl)) (ax (aE (a4 (ix:=[none,some 3]) rfl (gF (aa (ac (ao (i:=1))) ae)) (fun fs hc=>(aw (i:=0) (gI hc (by decide)))) (gC (am kA (ac (am tG (ac (am wN (ak (i:=1)) (ak (i:=0)))) (ac le_int))) (ac le_int))) (ao (i:=0))) (au (i:=5) rfl)) (ax (dQ (bM (ao (i:=5))) (aw (i:=6) rfl) (ax (aE (CS (gC (am nR (ac (bx b7 (aa (ak (i:=5)) ae))) (ac le_int))) (am cj (ak (i:=2)) (ac (am mw (ak (i:=3)) (ac (am kB (ac le_int) (ak (i:=6))))))) (cA ae)) (au (i:=7) rfl)) (yi (i:=4) (bx yC (aa (ac (am aT (ac (cA (aa (ac le_int) ae))) (ac (a4 (ix:=[none,some 7,some 6,some 0]) rfl (bM (ao (i:=5))) (fun fs hc=>(aw (i:=0) (gI hc (by decide)))) (gC (am mC (ak (i:=0)) (ak (i:=2)))) (am aT (ac (am cj (ak (i:=1)) (ak (i:=0)))) (ac (am cj (ac (am cj (ak (i:=3)) (ak (i:=0)))) (ak (i:=2))))))))) ae)) (ao (i:=6))))) (dg (iB (i:=2) (ao (i:=4)))))))) (bb (bx cu (aa (ac (a4 (ix:=[none]) rfl (bM (ao (i:=2))) (fun fs hc=>(aw (i:=0) (gI hc (by decide)))) cB (bx cu (aa (ak (i:=0)) ae)))) ae)))))) (fun ds Q h=>Nat.le_trans (le_of_eq (f7 ds Q h)) (by decide)) ke h⟩
theorem kQ:∀ds Q,bZ ds Q->ds.length=1:=fun ds Q h=>by unfold bZ at h;split at h;(first|rfl|exact h.elim);(first|rfl|exact h.elim)
theorem rk(D:b9 K mg "_law_due" jC)(T:Txt mg)(TC:TxC K)(TX:TxX K mg)(C_law_by_orders:Cal P w K mg base 1 "_law_by_orders" ["_law_laps_here"] (spP K aP))(C_law_by_rows:Cal P w K mg base 1 "_law_by_rows" ["_law_laps_here"] (spP K aY)):Cal P w K mg base 2 "_law_due" ["_law_laps_here"] (spP K bZ):=by
 refine D.ok qR (fun _ _ _ _ _ _ us hl=>match us,hl with|[_],_=>rfl) (fun vs H Q E h=>?_) (fun f cdv A outer s H vs Q E hr h=>?_)
 .exact jX kQ h
 .have hu:=hr.units;exact⟨_,(ag (eV (bc Cf (ay (df K rfl) rfl T.b_len PySem.boot_len (paC (pv 0) af)) ap (b6 _)) (aq (a9 (aG C_law_by_orders (hr.mono (by decide)) (paC (pv 0) af)))) b2) (aq (a9 (aG C_law_by_rows (hr.mono (by decide)) (paC (pv 0) af))))),fnP (K:=K) (c:=bZ) (ps:=fL) (N:=["_law_laps_here"]) (ax (eX (gC (am vh (ac (bx b7 (aa (ak (i:=0)) ae))) (ac le_int))) (bb (a6 (c:=aP) (aa (ac (ao (i:=0))) ae))) bS) (bb (a6 (c:=aY) (aa (ac (ao (i:=0))) ae)))) (fun ds Q h=>Nat.le_trans (le_of_eq (kQ ds Q h)) (by decide)) re h⟩
theorem iO:∀p ds Q,bD p ds Q->ds.length+1=1:=fun p ds Q h=>by unfold bD at h;split at h;(first|rfl|exact h.elim);(first|rfl|exact h.elim)
theorem nq(D:b9 K mg "_law_eight" gm)(T:Txt mg)(TC:TxC K)(TX:TxX K mg)(C_law_next:Cal P w K mg base 1 "_law_next" ["_law_deck_here"] (spR K az)):Cal P w K mg base 2 "_law_eight" ["_law_deck_here"] (spR K bD):=by
 refine D.ok cD (fun _ _ _ _ _ _ us hl=>match us,hl with|[_],_=>rfl) (fun vs H Q E h=>?_) (fun f cdv A outer s H vs Q E hr h=>?_)
 .exact zI iO h
 .have hu:=hr.units;exact⟨_,(ag (aL (i:=1) cD.nd rfl (by walk_at "o") (aD cG (aG C_law_next (hr.mono (by decide)) (paC (pv 0) af)) ap)) (ag (e7 (wi:=(jd (ba (tC (V.int 3)) dN))) (g:=(b3 0)) (tts:=i7) (te:=(tOp (nv K) (tC (V.str (S [97,98,99,100,101,102,103,104,105,106,107,108,109,110,111,112,113,114,115,116,117,118,119,120,121,122]))) (tOp vy (tOp (j5 K) (aV 1) (tOp qG (tC (V.int 5)) (aV 0))) (tC (V.int 26))))) (i:=2) ["_law_k","_law_first"] [none,some 1] cD.nd rfl (Or.inl rfl) rfl (bI rfl T.b_range (paC ap af)) (fun _ _ _ _=>⟨(aF (i:=0) (by show List.Nodup (["_law_k","_law_first"]:List Str);decide +kernel) rfl (by walk_at "o")),bR,(cz (gb K rfl) (f8 (l:=[97,98,99,100,101,102,103,104,105,106,107,108,109,110,111,112,113,114,115,116,117,118,119,120,121,122]) (by decide +kernel)) (aD cG (aD (bA K rfl) (pv 1) (aD gD ap (pv 0))) ap) (fun _ _=>rfl))⟩) (by kernel_rfl)) (ag (aL (i:=3) cD.nd rfl (by walk_at "o") (cL af)) (ag (dr PassesOwn.never rfl (bY K rfl (pv 2)) (aF (i:=4) cD.nd rfl (by walk_at "o")) (aq (c8 (e8 K rfl PySem.F.plainAttrs_list PySem.F.slot_list_extend PySem.F.type_list_extend sf (pv 3) (paC (bJ (wi:=(iU K (aV 2))) (g:=(b3 0)) (tts:=i7) (te:=(tOp (j5 K) (aV 1) (aV 0))) ["_law_other","_law_one"] [none,some 4] rfl (bY K rfl (pv 2)) (fun _ _ _ _=>⟨(aF (i:=0) (by show List.Nodup (["_law_other","_law_one"]:List Str);decide +kernel) rfl (by walk_at "o")),bR,(aD (bA K rfl) (pv 1) (pv 0))⟩) (by kernel_rfl)) af))))) (ag (c8 (e8 K rfl PySem.F.plainAttrs_list PySem.F.slot_list_pop PySem.F.type_list_pop uS (pv 3) (paC (aD cG (aG C_law_next (hr.mono (by decide)) (paC (pv 0) af)) ap) af))) (ag (aL (i:=5) cD.nd rfl (by walk_at "o") (aD cG (aG C_law_next (hr.mono (by decide)) (paC (pv 0) af)) ap)) (aq (a9 (aD (bA K rfl) (cY (vm K rfl) (pv 3) (dJ (pv 5)) e5) (cY (vm K rfl) (pv 3) e5 (dJ (pv 5)))))))))))),fnR (K:=K) (c:=bD) (ps:=dG) (N:=["_law_deck_here","_law_first","_law_letters","_law_words_here","_law_one","_law_turn"]) (ax (aE (am bC (ac (bh (i:=0) ae)) (ac le_int)) (au (i:=1) rfl)) (ax (aE (a4 (ix:=[none,some 1]) rfl (gF (aa (ac le_int) ae)) (fun fs hc=>(aw (i:=0) (gI hc (by decide)))) cB (am cj (ac (le_str (l:=[97,98,99,100,101,102,103,104,105,106,107,108,109,110,111,112,113,114,115,116,117,118,119,120,121,122]))) (ac (am bC (ac (am aT (ak (i:=1)) (ac (am dO (ac le_int) (ak (i:=0)))))) (ac le_int))))) (au (i:=2) rfl)) (ax (aE (cA ae) (au (i:=3) rfl)) (ax (dQ (bM (ao (i:=2))) (aw (i:=4) rfl) (dg (BJ (i:=3) (a4 (ix:=[none,some 4]) rfl (bM (ao (i:=2))) (fun fs hc=>(aw (i:=0) (gI hc (by decide)))) cB (am aT (ak (i:=1)) (ak (i:=0))))))) (ax (dg (vG (i:=3) (am bC (ac (bh (i:=0) ae)) (ac le_int)))) (ax (aE (am bC (ac (bh (i:=0) ae)) (ac le_int)) (au (i:=5) rfl)) (bb (wS (am aT (ac (cZ (ak (i:=3)) (cN (ao (i:=5))) dw)) (ac (cZ (ak (i:=3)) dw (cN (ao (i:=5)))))))))))))) (fun p ds Q h=>Nat.le_trans (le_of_eq (iO p ds Q h)) (by decide)) m7 h⟩
theorem iP:∀ds Q,bg ds Q->ds.length=1:=fun ds Q h=>by unfold bg at h;split at h;(first|rfl|exact h.elim);(first|rfl|exact h.elim)
theorem nr(D:b9 K mg "_law_whole" gn)(T:Txt mg)(TC:TxC K)(TX:TxX K mg):Cal P w K mg base 1 "_law_whole" ["_law_thing"] (spP K bg):=by
 refine D.ok mO (fun _ _ _ _ _ _ us hl=>match us,hl with|[_],_=>rfl) (fun vs H Q E h=>?_) (fun f cdv A outer s H vs Q E hr h=>?_)
 .exact jX iP h
 .have hu:=hr.units;exact⟨_,(aq (a9 (wp (ay (sU K rfl) rfl T.b_isinstance boot_isinstance (paC (pv 0) (paC (jc (v:=.ty "int") rfl T.b_int boot_int rfl) af))) (wo (wq (ay (sU K rfl) rfl T.b_isinstance boot_isinstance (paC (pv 0) (paC (jc (v:=.ty "bool") rfl T.b_bool boot_bool rfl) af)))))))),fnP (K:=K) (c:=bg) (ps:=dH) (N:=["_law_thing"]) (bb (wD (my .int (ak (i:=0))) (wE (my .bool (ak (i:=0)))))) (fun ds Q h=>Nat.le_trans (le_of_eq (iP ds Q h)) (by decide)) m8 h⟩
theorem iQ:∀ds Q,a8 ds Q->ds.length=2:=fun ds Q h=>by unfold a8 at h;split at h;(first|rfl|exact h.elim);(first|rfl|exact h.elim)
theorem nu(D:b9 K mg "_law_right" gp)(T:Txt mg)(TC:TxC K)(TX:TxX K mg)(C_law_whole:Cal P w K mg base 1 "_law_whole" ["_law_thing"] (spP K bg))(C_table_of:Bu P w K mg base 3 "table_of" ["family"] (spX K bd)):Cal P w K mg base 4 "_law_right" ["_law_family","_law_table"] (spP K a8):=by
 refine D.ok dC (fun _ _ _ _ _ _ us hl=>match us,hl with|[_,_],_=>rfl) (fun vs H Q E h=>?_) (fun f cdv A outer s H vs Q E hr h=>?_)
 .exact jX iQ h
 .have hu:=hr.units;exact⟨_,(ag (aL (i:=2) dC.nd rfl (by walk_at "o") (tU C_table_of (hr.mono (by decide)) px0 (paC (pv 0) af))) (ag (eV (bc (tE K rfl hu) (pv 2) (pv 1) (b6 _)) (aq (a9 qf)) b2) (ag (dr PassesOwn.never rfl (bY K rfl (pv 2)) (aF (i:=3) dC.nd rfl (by walk_at "o")) (ag (e7 (wi:=(iU K (aV 3))) (g:=(b3 0)) (tts:=(Ck (tB (dY (spP K bg) [] E0 (ba (aV 0) dN))))) (te:=(aV 0)) (i:=4) ["_law_number"] [none] dC.nd rfl (Or.inl rfl) rfl (bY K rfl (pv 3)) (fun _ _ _ _=>⟨(aF (i:=0) (by show List.Nodup (["_law_number"]:List Str);decide +kernel) rfl (by walk_at "o")),(ei (kj (fh (aG C_law_whole (hr.mono (by decide)) (paC (pv 0) af))))),(pv 0)⟩) (by kernel_rfl)) (aq (eV (PW.pt (xt (kj (fh (ay (sU K rfl) rfl T.b_isinstance boot_isinstance (paC (pv 3) (paC (jc (v:=.ty "tuple") rfl T.b_tuple boot_tuple rfl) af))))) (rE (bc (tE K rfl hu) (pv 4) (cL af) (b6 _))))) (aq (a9 qf)) b2)))) (aq (a9 (ay (sU K rfl) rfl T.b_isinstance boot_isinstance (paC (pv 2) (paC (jc (v:=.ty "tuple") rfl T.b_tuple boot_tuple rfl) af)))))))),fnP (K:=K) (c:=a8) (ps:=dI) (N:=["_law_family","_law_table","_law_found","_law_row","_law_bad"]) (ax (aE (vT (c:=bd) (aa (ac (ao (i:=0))) ae)) (au (i:=2) rfl)) (ax (eX (gC (am mC (ak (i:=2)) (ak (i:=1)))) (bb qF) bS) (ax (dQ (bM (ao (i:=2))) (aw (i:=3) rfl) (ax (aE (a4 (ix:=[none]) rfl (bM (ao (i:=3))) (fun fs hc=>(aw (i:=0) (gI hc (by decide)))) (kt (vf (a6 (c:=bg) (aa (ac (ao (i:=0))) ae)))) (ao (i:=0))) (au (i:=4) rfl)) (eX (x6 (kt (vf (my .tuple (ak (i:=3))))) (gC (am mC (ak (i:=4)) (ac (cA ae))))) (bb qF) bS))) (bb (my .tuple (ak (i:=2))))))) (fun ds Q h=>Nat.le_trans (le_of_eq (iQ ds Q h)) (by decide)) m9 h⟩
theorem dW:∀p ds Q,aS p ds Q->ds.length+1=2:=fun p ds Q h=>by unfold aS at h;split at h;(first|rfl|exact h.elim);(first|rfl|exact h.elim)
theorem iw(D:b9 K mg "_law_many_words" cX)(T:Txt mg)(TC:TxC K)(TX:TxX K mg)(C_law_next:Cal P w K mg base 1 "_law_next" ["_law_deck_here"] (spR K az)):Cal P w K mg base 2 "_law_many_words" ["_law_deck_here","_law_many"] (spR K aS):=by
 refine D.ok ca (fun _ _ _ _ _ _ us hl=>match us,hl with|[_,_],_=>rfl) (fun vs H Q E h=>?_) (fun f cdv A outer s H vs Q E hr h=>?_)
 .exact zI dW h
 .have hu:=hr.units;exact⟨_,(ag (aL (i:=2) ca.nd rfl (by walk_at "o") (aG C_law_next (hr.mono (by decide)) (paC (pv 0) af))) (ag (aL (i:=3) ca.nd rfl (by walk_at "o") (cz (gb K rfl) (f8 (l:=[97,98,99,100,101,102,103,104,105,106,107,108,109,110,111,112,113,114,115,116,117,118,119,120,121,122]) (by decide +kernel)) (aD cG (aG C_law_next (hr.mono (by decide)) (paC (pv 0) af)) ap) (fun _ _=>rfl))) (ag (aL (i:=4) ca.nd rfl (by walk_at "o") (f8 (l:=[97,98,99,100,101,102,103,104,105,106,107,108,109,110,111,112,113,114,115,116,117,118,119,120,121,122]) (by decide +kernel))) (aq (a9 (bJ (wi:=(jd (ba (aV 1) dN))) (g:=(b3 0)) (tts:=i7) (te:=(tOp (j5 K) (tOp (j5 K) (aV 1) (tOp (nv K) (aV 2) (tOp vy (tOp (j5 K) (aV 3) (aV 0)) (tC (V.int 26))))) (aV 1))) ["_law_k","_law_alike","_law_signs_here","_law_first"] [none,some 3,some 4,some 2] rfl (bI rfl T.b_range (paC (pv 1) af)) (fun _ _ _ _=>⟨(aF (i:=0) (by show List.Nodup (["_law_k","_law_alike","_law_signs_here","_law_first"]:List Str);decide +kernel) rfl (by walk_at "o")),bR,(aD (bA K rfl) (aD (bA K rfl) (pv 1) (cz (gb K rfl) (pv 2) (aD cG (aD (bA K rfl) (pv 3) (pv 0)) ap) (fun _ _=>rfl))) (pv 1))⟩) (by kernel_rfl))))))),fnR (K:=K) (c:=aS) (ps:=cg) (N:=["_law_deck_here","_law_many","_law_first","_law_alike","_law_signs_here"]) (ax (aE (bh (i:=0) ae) (au (i:=2) rfl)) (ax (aE (am cj (ac (le_str (l:=[97,98,99,100,101,102,103,104,105,106,107,108,109,110,111,112,113,114,115,116,117,118,119,120,121,122]))) (ac (am bC (ac (bh (i:=0) ae)) (ac le_int)))) (au (i:=3) rfl)) (ax (aE (le_str (l:=[97,98,99,100,101,102,103,104,105,106,107,108,109,110,111,112,113,114,115,116,117,118,119,120,121,122])) (au (i:=4) rfl)) (bb (a4 (ix:=[none,some 3,some 4,some 2]) rfl (gF (aa (ac (ao (i:=1))) ae)) (fun fs hc=>(aw (i:=0) (gI hc (by decide)))) cB (am aT (ac (am aT (ak (i:=1)) (ac (am cj (ak (i:=2)) (ac (am bC (ac (am aT (ak (i:=3)) (ak (i:=0)))) (ac le_int))))))) (ak (i:=1)))))))) (fun p ds Q h=>Nat.le_trans (le_of_eq (dW p ds Q h)) (by decide)) iu h⟩
theorem xn:∀ds Q,p8 ds Q->ds.length=1:=fun ds Q h=>by obtain⟨_,rfl,_⟩:=h;rfl
theorem B6(D:b9 K mg "law" vZ)(T:Txt mg)(TC:TxC K)(TX:TxX K mg)(C_Family_init:AO P w K mg base 4 (aQ K "Family") "Family" ["self","pieces"] (spR K aW))(C_law_deck:Cal P w K mg base 2 "_law_deck" ["_law_script","_law_many"] (spP K bF))(C_law_due:Cal P w K mg base 2 "_law_due" ["_law_laps_here"] (spP K bZ))(C_law_eight:Cal P w K mg base 2 "_law_eight" ["_law_deck_here"] (spR K bD))(C_law_laps:Cal P w K mg base 2 "_law_laps" ["_law_words_here"] (spP K bG))(C_law_many_words:Cal P w K mg base 2 "_law_many_words" ["_law_deck_here","_law_many"] (spR K aS))(C_law_next:Cal P w K mg base 1 "_law_next" ["_law_deck_here"] (spR K az))(C_law_pieces:Cal P w K mg base 3 "_law_pieces" ["_law_deck_here","_law_most"] (spR K bn))(C_law_right:Cal P w K mg base 4 "_law_right" ["_law_family","_law_table"] (spP K a8))(C_law_words:Cal P w K mg base 1 "_law_words" ["_law_pieces_here"] (spP K br))(C_table_of:Bu P w K mg base 3 "table_of" ["family"] (spX K bd)):Cal P w K mg base 6 "law" ["_law_script"] (spP K p8):=by
 refine D.ok iD (fun _ _ _ _ _ _ us hl=>match us,hl with|[_],_=>rfl) (fun vs H Q E h=>?_) (fun f cdv A outer s H vs Q E hr h=>?_)
 .exact jX xn h
 .have hu:=hr.units;exact⟨_,(ag (aL (i:=1) iD.nd rfl (by walk_at "o") (aG C_law_deck (hr.mono (by decide)) (paC (pv 0) (paC ap af)))) (ag (aL (i:=2) iD.nd rfl (by walk_at "o") (aG C_law_pieces (hr.mono (by decide)) (paC (pv 1) (paC ap af)))) (ag (k7 (eV (bc (qL K rfl hu) (aD cG (aG C_law_next (hr.mono (by decide)) (paC (pv 1) af)) ap) ap (b6 _)) (aq (aL (i:=2) iD.nd rfl (by walk_at "o") (aG C_law_eight (hr.mono (by decide)) (paC (pv 1) af)))) b2)) (ag (aL (i:=3) iD.nd rfl (by walk_at "o") (pP C_Family_init (hr.mono (by decide)) (paC (pv 2) af))) (ag (aL (i:=4) iD.nd rfl (by walk_at "o") (aG C_law_due (hr.mono (by decide)) (paC (aG C_law_laps (hr.mono (by decide)) (paC (aG C_law_words (hr.mono (by decide)) (paC (pv 2) af)) af)) af))) (ag (aL (i:=5) iD.nd rfl (by walk_at "o") (pP C_Family_init (hr.mono (by decide)) (paC (aG C_law_many_words (hr.mono (by decide)) (paC (pv 1) (paC (aD (bA K rfl) ap (aD cG (aG C_law_next (hr.mono (by decide)) (paC (pv 1) af)) ap)) af))) af))) (ag (eV (kj (fh (aG C_law_right (hr.mono (by decide)) (paC (pv 3) (paC (pv 4) af))))) (aq (a9 qf)) b2) (ag (Bw rfl rfl (fun J pn E px=>ag (c8 (tU C_table_of (hr.mono (by decide)) px (paC (pv 5) af))) (aq (a9 qf))) (BA 6 K rfl TX.d_TooGreat TX.m_TooGreat iD.nd rfl rfl (fun _=>(aq (eV (bc (tE K rfl hu) (vQ K rfl (pv 6) rfl) ap (b6 _)) (aq (a9 qf)) b2))) Bv)) (aq (a9 (aG C_law_right (hr.mono (by decide)) (paC (pv 3) (paC (pv 4) af))))))))))))),fnP (K:=K) (c:=p8) (ps:=qb) (N:=["_law_script","_law_deck_here","_law_pieces_here","_law_family","_law_table","_law_other","error"]) (ax (aE (a6 (c:=bF) (aa (ac (ao (i:=0))) (aa (ac le_int) ae))) (au (i:=1) rfl)) (ax (aE (bh (i:=1) (aa (ac le_int) ae)) (au (i:=2) rfl)) (ax (li (eX (gC (am kA (ac (am bC (ac (bh (i:=1) ae)) (ac le_int))) (ac le_int))) (aE (bh (i:=1) ae) (au (i:=2) rfl)) bS)) (ax (aE (tq (aa (ac (ao (i:=2))) ae)) (au (i:=3) rfl)) (ax (aE (a6 (c:=bZ) (aa (ac (a6 (c:=bG) (aa (ac (a6 (c:=br) (aa (ac (ao (i:=2))) ae))) ae))) ae)) (au (i:=4) rfl)) (ax (aE (tq (aa (ac (bh (i:=1) (aa (ac (am aT (ac le_int) (ac (am bC (ac (bh (i:=1) ae)) (ac le_int))))) ae))) ae)) (au (i:=5) rfl)) (ax (eX (kt (vf (a6 (c:=a8) (aa (ac (ao (i:=3))) (aa (ac (ao (i:=4))) ae))))) (bb qF) bS) (ax (ze (c:=bd) (aa (ac (ao (i:=5))) ae) (bb qF) (Dr (c0:="TooGreat") TX.all (by first|exact Or.inr rfl|exact Or.inl (contains_iff_mem.mp (by decide +kernel))) rfl (eX (gC (am mC (ac (yP TX.all TX.at_ (ak (i:=6)))) (ac le_int))) (bb qF) bS) Bz)) (bb (a6 (c:=a8) (aa (ac (ao (i:=3))) (aa (ac (ao (i:=4))) ae)))))))))))) (fun ds Q h=>Nat.le_trans (le_of_eq (xn ds Q h)) (by decide)) B4 h⟩
end
theorem B7{l:PySem.W.OpenLaw}{w:World}{K:PySem.W.Frag}{h:Heap}{mg:Str->Option Value}{fa:Addr}(X:K.In h)(G:h.Ns mainGlobals mg)(hfa:mg "law"=some (.ref fa))
  {C_Family:Addr} (aC_Family:PySem.W.nsIn K mainGlobals "Family"=some (some (.ref C_Family))) (pg_Family:PySem.W.plainGet K C_Family Str.empty=true) (hd_Family:PySem.W.hasDictIn K C_Family=true) (po_Family:PySem.W.plainOver K C_Family=true) (sa_Family:PySem.W.findIn K (.ref C_Family) "__setattr__"=some (some (.builtin "object.__setattr__"))) (mk_Family:PySem.W.makesIn K C_Family=true) (kc_Family:PySem.W.keepIn K (.ref C_Family)=true)
  (n_Family_pieces:PySem.W.findIn K (.ref C_Family) "pieces"=some none)
  (n_Family_kept:PySem.W.findIn K (.ref C_Family) "kept"=some none)
  (n_Family_words:PySem.W.findIn K (.ref C_Family) "words"=some none)
  (n_Family_left:PySem.W.findIn K (.ref C_Family) "left"=some none)
  (n_Family_laps:PySem.W.findIn K (.ref C_Family) "laps"=some none)
  (n_Family_total:PySem.W.findIn K (.ref C_Family) "total"=some none)
  {C_GlueError:Addr} (aC_GlueError:PySem.W.nsIn K mainGlobals "GlueError"=some (some (.ref C_GlueError))) {q_GlueError:Str}{N_GlueError:Addr}{bs_GlueError sub_GlueError:List Value}{sn_GlueError:List Str}{ab_GlueError:Bool}{col_GlueError:Option Bool}{k0_GlueError k1_GlueError k2_GlueError k3_GlueError k5_GlueError:Option Value} (lC_GlueError:K.lookup C_GlueError=some (excClassObj "GlueError" q_GlueError C_GlueError N_GlueError bs_GlueError [.type "ValueError",.type "Exception",.type "BaseException",.type "object"] true sn_GlueError sub_GlueError ab_GlueError col_GlueError none k0_GlueError k1_GlueError k2_GlueError k3_GlueError k5_GlueError "ValueError.__new__")) (xq_GlueError:PySem.W.excIn K C_GlueError [.type "ValueError",.type "Exception",.type "BaseException",.type "object"] "ValueError.__new__"=true)
  {C_TooGreat:Addr} (aC_TooGreat:PySem.W.nsIn K mainGlobals "TooGreat"=some (some (.ref C_TooGreat))) {q_TooGreat:Str}{N_TooGreat:Addr}{bs_TooGreat sub_TooGreat:List Value}{sn_TooGreat:List Str}{ab_TooGreat:Bool}{col_TooGreat:Option Bool}{k0_TooGreat k1_TooGreat k2_TooGreat k3_TooGreat k5_TooGreat:Option Value} (lC_TooGreat:K.lookup C_TooGreat=some (excClassObj "TooGreat" q_TooGreat C_TooGreat N_TooGreat bs_TooGreat (.ref C_GlueError::[.type "ValueError",.type "Exception",.type "BaseException",.type "object"]) true sn_TooGreat sub_TooGreat ab_TooGreat col_TooGreat none k0_TooGreat k1_TooGreat k2_TooGreat k3_TooGreat k5_TooGreat "ValueError.__new__")) (ga_TooGreat:PySem.W.findIn K (.ref C_TooGreat) "__getattribute__"=some (some (.builtin "BaseException.__getattribute__"))) (gh_TooGreat:PySem.W.findIn K (.ref C_TooGreat) "__getattr__"=some none) (sa_TooGreat:PySem.W.findIn K (.ref C_TooGreat) "__setattr__"=some (some (.builtin "object.__setattr__"))) (cl_TooGreat:PySem.W.findIn K (.ref C_TooGreat) "__class__"=some (some (.builtin "object.__class__"))) (kc_TooGreat:PySem.W.keepIn K (.ref C_TooGreat)=true)
  {fx_TooGreat:Addr}{xoc_TooGreat xkV_TooGreat xdc_TooGreat xpm_TooGreat xcd_TooGreat xct_TooGreat:Value}{xod_TooGreat xan_TooGreat:Option Addr}{xsl_TooGreat:Array (Option Value)} (xi_TooGreat:PySem.W.findIn K (.ref C_TooGreat) "__init__"=some (some (.ref fx_TooGreat))) (xt_TooGreat:PySem.W.typeIn K (.ref fx_TooGreat)=some (.type "function")) (xl_TooGreat:K.lookup fx_TooGreat=some ⟨xoc_TooGreat,xod_TooGreat,.func (PySem.W.fnOf "__init__" "TooGreat.__init__" (bQ b8) (bf b8) (ai b8) .none xkV_TooGreat xdc_TooGreat xpm_TooGreat xan_TooGreat xcd_TooGreat xct_TooGreat),xsl_TooGreat⟩) (xc0_TooGreat:PySem.W.codeIn K xcd_TooGreat "TooGreat.__init__"=true) (xk_TooGreat:PySem.W.keepIn K (.ref fx_TooGreat)=true) (xn_TooGreat:PySem.W.findIn K (.ref C_TooGreat) "most"=some none)
  (d1:gW K "members" jz)
  (d2:gW K "lap" zf)
  {f3:Addr}{oc3 kV3 dc3 pm3 cd3 ct3:Value}{od3 an3 dd3:Option Addr}{sl3 st3:Array (Option Value)}{dT3:Addr}{n3:Nat}{u3_0 u3_1:Tok} (a3:PySem.W.nsIn K mainGlobals "is_text"=some (some (.ref f3))) (l3:K.lookup f3=some ⟨oc3,od3,.func (PySem.W.fnOf "is_text" "is_text" (bQ dR) (bf dR) (ai dR) (.ref dT3) kV3 dc3 pm3 an3 cd3 ct3),sl3⟩) (c3:PySem.W.codeIn K cd3 "is_text"=true) (k3:PySem.W.keepIn K (.ref f3)=true) (t3:K.lookup dT3=some ⟨.type "tuple",dd3,.seq [.int 0 u3_0,.int 4000 u3_1].toArray n3,st3⟩)
  (d4:gW K "first_place" eA)
  {f5:Addr}{oc5 kV5 dc5 pm5 cd5 ct5:Value}{od5 an5:Option Addr}{sl5:Array (Option Value)} (a5:PySem.W.findIn K (.ref C_Family) "many"=some (some (.ref f5))) (i5:PySem.W.isFn K (.ref f5)=true) (l5:K.lookup f5=some ⟨oc5,od5,.func (PySem.W.fnOf "many" "Family.many" (bQ bV) (bf bV) (ai bV) .none kV5 dc5 pm5 an5 cd5 ct5),sl5⟩) (c5:PySem.W.codeIn K cd5 "Family.many"=true) (k5:PySem.W.keepIn K (.ref f5)=true)
  (d6:gW K "_law_mixed" gi)
  (d7:gW K "_law_next" ik)
  (d8:gW K "_law_words" gk)
  (d9:gW K "_law_lap" jB)
  (d10:gW K "_law_by_orders" dn)
  (d11:gW K "_law_by_rows" eB)
  (d12:gW K "_law_whole" gn)
  (d13:gW K "most_saved" fj)
  (d14:gW K "all_laps" ig)
  (d15:gW K "check_pieces" dM)
  (d16:gW K "stands_within" dk)
  (d17:gW K "_law_deck" ij)
  (d18:gW K "_law_signs" gj)
  (d19:gW K "_law_laps" il)
  (d20:gW K "_law_due" jC)
  (d21:gW K "_law_eight" gm)
  (d22:gW K "_law_many_words" cX)
  (d23:gW K "table_of" ie)
  (d24:gW K "is_kept" jA)
  (d25:gW K "left_row" ii)
  (d26:gW K "_law_pieces" fk)
  {f27:Addr}{oc27 kV27 dc27 pm27 cd27 ct27:Value}{od27 an27:Option Addr}{sl27:Array (Option Value)} (a27:PySem.W.findIn K (.ref C_Family) "__init__"=some (some (.ref f27))) (i27:PySem.W.isFn K (.ref f27)=true) (l27:K.lookup f27=some ⟨oc27,od27,.func (PySem.W.fnOf "__init__" "Family.__init__" (bQ bU) (bf bU) (ai bU) .none kV27 dc27 pm27 an27 cd27 ct27),sl27⟩) (c27:PySem.W.codeIn K cd27 "Family.__init__"=true) (k27:PySem.W.keepIn K (.ref f27)=true)
  (d28:gW K "_law_right" gp)
  (d29:gW K "law" vZ)
  (z1:PySem.W.nsIn K mainGlobals "all"=some none)
  (z2:PySem.W.nsIn K mainGlobals "any"=some none)
  (z3:PySem.W.nsIn K mainGlobals "bool"=some none)
  (z4:PySem.W.nsIn K mainGlobals "enumerate"=some none)
  (z5:PySem.W.nsIn K mainGlobals "int"=some none)
  (z6:PySem.W.nsIn K mainGlobals "isinstance"=some none)
  (z7:PySem.W.nsIn K mainGlobals "len"=some none)
  (z8:PySem.W.nsIn K mainGlobals "list"=some none)
  (z9:PySem.W.nsIn K mainGlobals "max"=some none)
  (z10:PySem.W.nsIn K mainGlobals "min"=some none)
  (z11:PySem.W.nsIn K mainGlobals "range"=some none)
  (z12:PySem.W.nsIn K mainGlobals "reversed"=some none)
  (z13:PySem.W.nsIn K mainGlobals "str"=some none)
  (z14:PySem.W.nsIn K mainGlobals "sum"=some none)
  (z15:PySem.W.nsIn K mainGlobals "tuple"=some none)
  {ty1:Tok} (y1:PySem.W.nsIn K mainGlobals "MOST_PIECES"=some (some (.int 40 ty1)))
  {ty2:Tok} (y2:PySem.W.nsIn K mainGlobals "MOST_SIGNS"=some (some (.int 60 ty2)))
  {ty3:Tok} (y3:PySem.W.nsIn K mainGlobals "MOST_TABLE_WORDS"=some (some (.int 8 ty3))) :
  ∃fd:FuncData,(∀(s:Shared) (v:Value),BindsTo s fd ⟨[v],[]⟩ [("_law_script",v)])/\∀base:Heap,K.In base->base.Ns mainGlobals mg->jY l.prog w K mg base CX0 6 fa fd ["_law_script"] (qx K):=by
 have eC_Family:=lg aC_Family;have TC:TxC K:=⟨by rw [eC_Family];exact⟨pg_Family,hd_Family,po_Family,sa_Family⟩,by show PySem.W.findIn K (.ref (aQ K "Family")) "pieces"=some none;rw [eC_Family];exact n_Family_pieces,by show PySem.W.findIn K (.ref (aQ K "Family")) "kept"=some none;rw [eC_Family];exact n_Family_kept,by show PySem.W.findIn K (.ref (aQ K "Family")) "words"=some none;rw [eC_Family];exact n_Family_words,by show PySem.W.findIn K (.ref (aQ K "Family")) "left"=some none;rw [eC_Family];exact n_Family_left,by show PySem.W.findIn K (.ref (aQ K "Family")) "laps"=some none;rw [eC_Family];exact n_Family_laps,by show PySem.W.findIn K (.ref (aQ K "Family")) "total"=some none;rw [eC_Family];exact n_Family_total⟩
 have eC_GlueError:=lg aC_GlueError;have tl_:=yO xq_GlueError ⟨_,_,_,_,_,_,_,_,_,_,_,_,_,lC_GlueError⟩;have eC_TooGreat:=lg aC_TooGreat;have xc_TooGreat:XC K C_TooGreat C_GlueError:=⟨⟨_,_,_,_,_,_,_,_,_,_,_,_,_,lC_TooGreat⟩,ga_TooGreat,gh_TooGreat,sa_TooGreat,cl_TooGreat⟩
 have TX:TxX K mg:=⟨⟨by rw [XCl,eC_GlueError];exact⟨_,_,_,lC_GlueError,rfl⟩,fun c hc=>by
  simp only [xcs,mem_cons,not_mem_nil,or_false] at hc
  rcases hc with rfl
  .rw [XCl,eC_TooGreat];exact⟨_,_,_,lC_TooGreat,rfl⟩,fun c hc=>by
  simp only [xcs,mem_cons,not_mem_nil,or_false] at hc
  rcases hc with rfl
  .rw [eC_TooGreat,eC_GlueError];exact xc_TooGreat⟩,fun c g hc=>by
  simp only [DB,mem_cons,not_mem_nil,or_false,Prod.mk.injEq] at hc
  rcases hc with ⟨rfl,rfl⟩
  .rw [eC_TooGreat];exact xn_TooGreat,by rw [eC_TooGreat];exact PySem.W.mg_of X G aC_TooGreat,by rw [eC_GlueError];exact PySem.W.mg_of X G aC_GlueError,by rw [eC_TooGreat];exact⟨_,_,_,_,_,_,_,_,_,_,_,_,_,_,_,_,_,lC_TooGreat,rfl⟩,by rw [eC_GlueError];exact⟨_,_,_,_,_,_,_,_,_,_,_,_,_,_,_,_,_,lC_GlueError,rfl⟩⟩
 have D_members:=bN d1 X G;have D_lap:=bN d2 X G;have D_is_text:pE K mg "is_text" dR [.int 0,.int 4000]:=⟨⟨f3,dT3,oc3,od3,an3,dd3,kV3,dc3,pm3,cd3,ct3,sl3,st3,[.int 0 u3_0,.int 4000 u3_1],n3,l3,c3,k3,PySem.W.mg_of X G a3,t3,(.cons ⟨_,rfl⟩ (.cons ⟨_,rfl⟩ .nil))⟩⟩
 have D_first_place:=bN d4 X G;have D_Family_many:pF K (aQ K "Family") "many" "Family.many" bV:=by rw [eC_Family];exact⟨⟨f5,_,pq (st:=bV) l5 c5 k5,⟨a5,i5,k5⟩⟩⟩
 have D_law_mixed:=bN d6 X G;have D_law_next:=bN d7 X G;have D_law_words:=bN d8 X G;have D_law_lap:=bN d9 X G;have D_law_by_orders:=bN d10 X G;have D_law_by_rows:=bN d11 X G;have D_law_whole:=bN d12 X G;have D_most_saved:=bN d13 X G;have D_all_laps:=bN d14 X G;have D_check_pieces:=bN d15 X G;have D_stands_within:=bN d16 X G;have D_law_deck:=bN d17 X G;have D_law_signs:=bN d18 X G;have D_law_laps:=bN d19 X G
 have D_law_due:=bN d20 X G;have D_law_eight:=bN d21 X G;have D_law_many_words:=bN d22 X G;have D_table_of:=bN d23 X G;have D_is_kept:=bN d24 X G;have D_left_row:=bN d25 X G;have D_law_pieces:=bN d26 X G;have D_Family_init:pG K mg (aQ K "Family") "Family" "Family.__init__" bU:=by rw [eC_Family];exact⟨⟨f27,_,pq (st:=bU) l27 c27 k27,⟨mk_Family,a27,i27,kc_Family⟩,PySem.W.mg_of X G aC_Family⟩⟩
 have D_law_right:=bN d28 X G;have D_law:=bN d29 X G;have T:Txt mg:=⟨PySem.W.mg_none_of X G z1,PySem.W.mg_none_of X G z2,PySem.W.mg_none_of X G z3,PySem.W.mg_none_of X G z4,PySem.W.mg_none_of X G z5,PySem.W.mg_none_of X G z6,PySem.W.mg_none_of X G z7,PySem.W.mg_none_of X G z8,PySem.W.mg_none_of X G z9,PySem.W.mg_none_of X G z10,PySem.W.mg_none_of X G z11,PySem.W.mg_none_of X G z12,PySem.W.mg_none_of X G z13,PySem.W.mg_none_of X G z14,PySem.W.mg_none_of X G z15,⟨_,PySem.W.mg_of X G y1⟩,⟨_,PySem.W.mg_of X G y2⟩,⟨_,PySem.W.mg_of X G y3⟩⟩
 refine AJ (st:=vZ) hfa D_law (fun _ _ _ _ _ _ s v=>.of_eq rfl) fun base=>?_
 have C_TooGreat_init:Bo l.prog w K mg base 1 (aQ K "TooGreat") "TooGreat" "most":=by
  rw [eC_TooGreat];exact yQ (pq (st:=b8) xl_TooGreat xc0_TooGreat xk_TooGreat) iX rfl (fun _ _ _ _ _ _ us hl=>match us,hl with|[_,_],_=>rfl) (fun cdv A outer s H E=>aq (vR K rfl (pv 0) (pv 1) rfl)) ⟨xc_TooGreat,tl_,xi_TooGreat,xt_TooGreat,kc_TooGreat⟩ xn_TooGreat (PySem.W.mg_of X G aC_TooGreat)
 have C_members:=rf (P:=l.prog) (w:=w) (base:=base) D_members T TC TX;have C_lap:=B5 (P:=l.prog) (w:=w) (base:=base) D_lap T TC TX;have C_is_text:=rg (P:=l.prog) (w:=w) (base:=base) D_is_text T TC TX;have C_first_place:=kf (P:=l.prog) (w:=w) (base:=base) D_first_place T TC TX;have C_Family_many:=kh (P:=l.prog) (w:=w) (base:=base) D_Family_many T TC TX;have C_law_mixed:=ng (P:=l.prog) (w:=w) (base:=base) D_law_mixed T TC TX
 have C_law_next:=oZ (P:=l.prog) (w:=w) (base:=base) D_law_next T TC TX;have C_law_words:=nj (P:=l.prog) (w:=w) (base:=base) D_law_words T TC TX;have C_law_lap:=rj (P:=l.prog) (w:=w) (base:=base) D_law_lap T TC TX;have C_law_by_orders:=i6 (P:=l.prog) (w:=w) (base:=base) D_law_by_orders T TC TX;have C_law_by_rows:=ki (P:=l.prog) (w:=w) (base:=base) D_law_by_rows T TC TX;have C_law_whole:=nr (P:=l.prog) (w:=w) (base:=base) D_law_whole T TC TX
 have C_most_saved:=lK (P:=l.prog) (w:=w) (base:=base) D_most_saved T TC TX C_members;have C_all_laps:=oW (P:=l.prog) (w:=w) (base:=base) D_all_laps T TC TX C_lap;have C_check_pieces:=jS (P:=l.prog) (w:=w) (base:=base) D_check_pieces T TC TX C_is_text;have C_stands_within:=i4 (P:=l.prog) (w:=w) (base:=base) D_stands_within T TC TX C_first_place;have C_law_deck:=oY (P:=l.prog) (w:=w) (base:=base) D_law_deck T TC TX C_law_mixed
 have C_law_signs:=nh (P:=l.prog) (w:=w) (base:=base) D_law_signs T TC TX C_law_next;have C_law_laps:=o0 (P:=l.prog) (w:=w) (base:=base) D_law_laps T TC TX C_law_lap;have C_law_due:=rk (P:=l.prog) (w:=w) (base:=base) D_law_due T TC TX C_law_by_orders C_law_by_rows;have C_law_eight:=nq (P:=l.prog) (w:=w) (base:=base) D_law_eight T TC TX C_law_next;have C_law_many_words:=iw (P:=l.prog) (w:=w) (base:=base) D_law_many_words T TC TX C_law_next
 have C_table_of:=oV (P:=l.prog) (w:=w) (base:=base) D_table_of T TC TX C_Family_many C_TooGreat_init C_most_saved;have C_is_kept:=rh (P:=l.prog) (w:=w) (base:=base) D_is_kept T TC TX C_stands_within;have C_left_row:=oX (P:=l.prog) (w:=w) (base:=base) D_left_row T TC TX C_first_place C_stands_within;have C_law_pieces:=lL (P:=l.prog) (w:=w) (base:=base) D_law_pieces T TC TX C_law_next C_law_signs;have C_Family_init:=kg (P:=l.prog) (w:=w) (base:=base) D_Family_init T TC TX C_all_laps C_check_pieces C_is_kept C_left_row
 have C_law_right:=nu (P:=l.prog) (w:=w) (base:=base) D_law_right T TC TX C_law_whole C_table_of;exact (B6 (P:=l.prog) (w:=w) (base:=base) D_law T TC TX C_Family_init C_law_deck C_law_due C_law_eight C_law_laps C_law_many_words C_law_next C_law_pieces C_law_right C_law_words C_table_of).imp fun _ _ _ _ h=>yj h
end K34

open PySem PySem.W PyProof.Rows
local macro_rules | `(tactic| walk_at "fn") => `(tactic| (refine' L2.BF ?a ?l ?c ?k; (case a => k_is); (case l => k_is); (case c => k_is); (case k => k_is)))
set_option maxRecDepth 100000 in
set_option maxHeartbeats 0 in
theorem PySem.Challenge.cw_shortglue_k34_table_cells_holds : PySem.Challenge.rw_shortglue_k34_table_cells.Holds := by
  refine topHd ?_
  k_fill
  refine L2.AK (l := PySem.Challenge.rw_shortglue_k34_table_cells) (k := 6) (x := "_law_script") rfl rfl ⟨rfl, by decide, by decide⟩ (fun w h Y => PySem.W.kIn_of Y) ?F
  case F =>
    intro w mg fa h KX G hmg
    refine' K34.B7 KX G hmg ?aC_Family ?pg_Family ?hd_Family ?po_Family ?sa_Family ?mk_Family ?kc_Family ?n_Family_pieces ?n_Family_kept ?n_Family_words ?n_Family_left ?n_Family_laps ?n_Family_total ?aC_GlueError ?lC_GlueError ?xq_GlueError ?aC_TooGreat ?lC_TooGreat ?ga_TooGreat ?gh_TooGreat ?sa_TooGreat ?cl_TooGreat ?kc_TooGreat ?xi_TooGreat ?xt_TooGreat ?xl_TooGreat ?xc0_TooGreat ?xk_TooGreat ?xn_TooGreat ?d1 ?d2 ?a3 ?l3 ?c3 ?k3 ?t3 ?d4 ?a5 ?i5 ?l5 ?c5 ?k5 ?d6 ?d7 ?d8 ?d9 ?d10 ?d11 ?d12 ?d13 ?d14 ?d15 ?d16 ?d17 ?d18 ?d19 ?d20 ?d21 ?d22 ?d23 ?d24 ?d25 ?d26 ?a27 ?i27 ?l27 ?c27 ?k27 ?d28 ?d29 ?z1 ?z2 ?z3 ?z4 ?z5 ?z6 ?z7 ?z8 ?z9 ?z10 ?z11 ?z12 ?z13 ?z14 ?z15 ?y1 ?y2 ?y3
    (case aC_Family => k_is)
    (case pg_Family => k_is)
    (case hd_Family => k_is)
    (case po_Family => k_is)
    (case sa_Family => k_is)
    (case mk_Family => k_is)
    (case kc_Family => k_is)
    (case n_Family_pieces => k_is)
    (case n_Family_kept => k_is)
    (case n_Family_words => k_is)
    (case n_Family_left => k_is)
    (case n_Family_laps => k_is)
    (case n_Family_total => k_is)
    (case aC_GlueError => k_is)
    (case lC_GlueError => k_is)
    (case xq_GlueError => k_exc)
    (case aC_TooGreat => k_is)
    (case lC_TooGreat => k_is)
    (case ga_TooGreat => k_is)
    (case gh_TooGreat => k_is)
    (case sa_TooGreat => k_is)
    (case cl_TooGreat => k_is)
    (case kc_TooGreat => k_is)
    (case xi_TooGreat => k_is)
    (case xt_TooGreat => k_is)
    (case xl_TooGreat => k_is)
    (case xc0_TooGreat => k_is)
    (case xk_TooGreat => k_is)
    (case xn_TooGreat => k_is)
    (case d1 => walk_at "fn")
    (case d2 => walk_at "fn")
    (case a3 => k_is)
    (case l3 => k_is)
    (case c3 => k_is)
    (case k3 => k_is)
    (case t3 => k_is)
    (case d4 => walk_at "fn")
    (case a5 => k_is)
    (case i5 => k_is)
    (case l5 => k_is)
    (case c5 => k_is)
    (case k5 => k_is)
    (case d6 => walk_at "fn")
    (case d7 => walk_at "fn")
    (case d8 => walk_at "fn")
    (case d9 => walk_at "fn")
    (case d10 => walk_at "fn")
    (case d11 => walk_at "fn")
    (case d12 => walk_at "fn")
    (case d13 => walk_at "fn")
    (case d14 => walk_at "fn")
    (case d15 => walk_at "fn")
    (case d16 => walk_at "fn")
    (case d17 => walk_at "fn")
    (case d18 => walk_at "fn")
    (case d19 => walk_at "fn")
    (case d20 => walk_at "fn")
    (case d21 => walk_at "fn")
    (case d22 => walk_at "fn")
    (case d23 => walk_at "fn")
    (case d24 => walk_at "fn")
    (case d25 => walk_at "fn")
    (case d26 => walk_at "fn")
    (case a27 => k_is)
    (case i27 => k_is)
    (case l27 => k_is)
    (case c27 => k_is)
    (case k27 => k_is)
    (case d28 => walk_at "fn")
    (case d29 => walk_at "fn")
    (case z1 => k_is)
    (case z2 => k_is)
    (case z3 => k_is)
    (case z4 => k_is)
    (case z5 => k_is)
    (case z6 => k_is)
    (case z7 => k_is)
    (case z8 => k_is)
    (case z9 => k_is)
    (case z10 => k_is)
    (case z11 => k_is)
    (case z12 => k_is)
    (case z13 => k_is)
    (case z14 => k_is)
    (case z15 => k_is)
    (case y1 => k_is)
    (case y2 => k_is)
    (case y3 => k_is)
