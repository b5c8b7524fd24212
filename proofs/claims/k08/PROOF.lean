import PyProof.Rows.All
import Wide.All
import OpenK.AllK
import Wide.FinOn
import Lean
import PyProof.EqAt
import PyProof.EqKinds
import PyProof.TupleCall
import KE.KSortTup
import PyProof.FString
import PyProof.StrBlock
import KE.KRevSl
import PyProof.StrLawsReplace
import PyProof.StrCalls6
import PyProof.MinMaxWalk
import PyProof.WalkInts
import PyProof.NeKinds
import KE.KEqDict
import PyProof.Rows.SumAny
import KE.KMinKey
import PyProof.Rows.CallKwBuiltin
import PySem.Challenge.RW_shortglue_k08_glued
set_option Elab.async false
set_option linter.all false
set_option maxRecDepth 100000
open List (all_cons all_eq_true any_eq_false append_assoc append_nil append_toArray contains_cons contains_iff_mem countP_map dropLast_concat dropLast_concat_getLast dropLast_eq_take drop_eq_getElem_cons drop_eq_nil_of_le drop_zero eq_of_mem_replicate eraseIdxIfInBounds_toArray eraseIdx_cons_succ ext_getElem? extract_eq_take_drop extract_toArray filterMap_append filterMap_cons filterMap_eq_map filterMap_map flatten_cons foldl_cons forIn_cons forIn_nil getD_eq_getElem?_getD getElem?_append_left getElem?_append_right getElem?_cons_succ getElem?_drop getElem?_eq_getElem getElem?_eq_none getElem?_map getElem?_replicate getElem?_reverse getElem?_set_ne getElem?_set_self getElem?_take_of_lt getElem?_zip_eq_some getElem_cons_drop getElem_inj getElem_mem getElem_of_mem length_append length_cons length_drop length_dropLast length_eq_zero_iff length_flatten length_map length_nil length_pos_iff length_range length_replicate length_reverse length_set length_singleton length_take lookup_append lookup_cons map_append map_congr_left map_cons map_drop map_map map_nil map_replicate map_reverse map_take mem_append mem_append_left mem_append_right mem_cons mem_cons_of_mem mem_cons_self mem_filter mem_filterMap mem_flatten mem_map mem_map_of_mem mem_of_getElem? mem_of_mem_drop mem_of_mem_take mem_range mem_replicate mem_reverse mem_singleton ne_nil_of_length_pos nil_append nil_suffix nodup_cons not_mem_nil of_mem_zip range_succ range_succ_eq_map replicate_succ reverse_cons set_cons_succ set_cons_zero singleton_inj size_toArray suffix_iff_eq_drop sum_replicate_nat tail_cons take_add_one take_append_drop take_length take_of_length_le take_sublist take_succ take_succ_cons take_zero)
open Nat (add_comm le_antisymm le_of_ble_eq_true le_of_eq le_of_lt le_of_not_lt le_of_succ_le le_refl le_succ le_trans lt_irrefl lt_of_le_of_lt lt_of_lt_of_le lt_succ_of_lt lt_succ_self min_eq_left min_eq_right min_le_right mod_lt mul_comm mul_le_mul mul_le_mul_left mul_le_mul_right ne_of_gt ne_of_lt not_lt not_lt_zero not_succ_le_self sub_self sub_zero succ_mul zero_le)
open Int (ediv_nonneg ediv_one emod_lt_of_pos emod_nonneg fdiv_eq_ediv_of_nonneg fmod_eq_emod_of_nonneg le_ediv_of_mul_le mul_le_mul_of_nonneg_left natCast_add natCast_emod natCast_mul toNat_natCast)
open Bool (and_eq_false_imp and_eq_true and_eq_true_iff beq_eq_decide_eq eq_false_iff false_eq_true not_eq_true or_eq_true)
local macro_rules | `(tactic| walk_at "o")=>`(tactic| first | exact Or.inl rfl | exact Or.inr rfl | exact Or.inr (Or.inl rfl) | exact Or.inr (Or.inr rfl))
set_option maxHeartbeats 4000000
noncomputable section
namespace L2
open PySem PySem.W
def fg(tb:String->Option Builtin)(p:Program)(w:World)(n₀:Nat)(ann:Option Value):Nat->SharedT->Thread->Option SharedT
 | 0,_,_=>none
 | n+1,s,t=>match through t with
  | true=>some s
  | false=>match stepOk n₀ ann t with
   | false=>none
   | true=>match stepT (denote tb) p w s t with
    | some (s',t')=>fg tb p w n₀ ann n s' t'
    | none=>none
theorem fh{tb:String->Option Builtin}{p:Program}{w:World}{n₀:Nat}{ann:Option Value}:∀{n:Nat}{s s':SharedT}{t:Thread},fg tb p w n₀ ann n s t=some s'->topRun tb p w n₀ ann n s.abs t=some s'.abs
 | 0,_,_,_,h=>by cases h
 | n+1,s,s',t,h=>by
  unfold fg at h;unfold topRun
  cases he:through t with
  | true=>rw [he] at h;cases h;rfl
  | false =>
   rw [he] at h
   cases hk:stepOk n₀ ann t with
   | false=>rw [hk] at h;cases h
   | true =>
    rw [hk] at h
    cases hs:stepT (denote tb) p w s t with
    | none=>rw [hs] at h;cases h
    | some r=>obtain⟨s₂,t₂⟩:=r;rw [hs] at h;rw [stepT_spec hs];exact fh h
def ju:List Obj->Nat->BT->BT
 | [],_,t=>t
 | o::r,i,t=>ju r (i+1) (t.ins i o)
def nN(P:Params):BT:=ju (boot_heap P).objs.toList 0 .nil
theorem lZ:∀P,absHeap (nN P) (boot_heap P).objs.size (boot_heap P).life=boot_heap P:=fun P=>by kernel_rfl
theorem uc{p q:Program}{loose:List Str}{Xt:Shared->Bool}{α:Type}{Yf:Shared->α}{Ya:World->α}{N:Nat}{g0:Bool}{m₀:Nat}{ann:Option Value}
  (e:opening p=plainProg p.main.scope.names) (hN:Nat.ble 600 N=true) (f:∀s,fenceModules? p s=some s)
  (size:∀w:World,((boot_heap w.params).isNs mainGlobals && (Array.mk []:Array GenState).size == 0,(boot_heap w.params).objs.size,(boot_heap w.params).nsMap mainGlobals "__annotations__")=(true,m₀,ann))
  (run:∀(w:World) (os:OsState),(fg treeTable p w m₀ ann N ⟨nN w.params,m₀,(boot_heap w.params).life,Array.mk [],boot_drawn,boot_toks,os⟩ (topStub p)).map (fun sT=>((staticsOk (importedModules p.main.body) (boot_heap w.params) sT.abs.heap && namesBound p sT.abs.heap && gensDone sT.abs && laidKept (boot_heap w.params) sT.abs.heap),openSeen q loose (importedModules p.main.body) Xt g0 sT.abs,Yf sT.abs))=some (true,openGood q loose,Ya w)):LeftO p q loose Xt Yf Ya N g0:=fun w=>by
 obtain⟨⟨h,gs,d,k,os⟩,e,e'⟩:=Option.map_eq_some_iff.mp (boot_open e hN f w);obtain⟨rfl,rfl,rfl,rfl⟩:h=boot_heap w.params/\gs=Array.mk []/\d=boot_drawn/\k=boot_toks:=by simpa using e'
 obtain⟨z1,z2,z3⟩:_/\_/\_:=by simpa only [Prod.mk.injEq] using size w
 obtain⟨sT,r,l⟩:=Option.map_eq_some_iff.mp (run w os);obtain⟨l1,l2,l3⟩:_/\_/\_:=by simpa only [Prod.mk.injEq] using l
 have r:=fh r
 rw [show SharedT.abs ⟨nN w.params,m₀,(boot_heap w.params).life,Array.mk [],boot_drawn,boot_toks,os⟩=⟨boot_heap w.params,Array.mk [],boot_drawn,boot_toks,os⟩ by
  unfold SharedT.abs;dsimp only;rw [<- z2,lZ]] at r
 have t:topFrom treeTable p w N ⟨boot_heap w.params,Array.mk [],boot_drawn,boot_toks,os⟩=some sT.abs:=by
  unfold topFrom;dsimp only;rw [z1,z2,z3,r];show (match staticsOk (importedModules p.main.body) (boot_heap w.params) sT.abs.heap && namesBound p sT.abs.heap && gensDone sT.abs && laidKept (boot_heap w.params) sT.abs.heap with|true=>_|false=>_)=_;rw [l1]
 unfold openEnds;rw [e];show (topFrom treeTable p w N _).map _=_;rw [t];exact congrArg some (Prod.ext l2 l3)
end L2
namespace L2
open PySem PySem.W
theorem nO{p q:Program}{loose:List Str}{Xt:Shared->Bool}{α:Type}{Yf:Shared->α}{Ya:World->α}{N:Nat}{g0:Bool}{m₀:Nat}{ann:Option Value}{l rest:List Stmt}{env:Env}{c:Code}{qp pa pb p1:Pos}{n0 nb n1 n2:Nat}{SA S1:World->OsState->SharedT}
  (e:opening p=plainProg p.main.scope.names) (hN:Nat.ble 600 N=true) (f:∀s,fenceModules? p s=some s)
  (size:∀w:World,((boot_heap w.params).isNs mainGlobals && (Array.mk []:Array GenState).size == 0,(boot_heap w.params).objs.size,(boot_heap w.params).nsMap mainGlobals "__annotations__")=(true,m₀,ann))
  (pre:∀(w:World) (os:OsState),topGo treeTable p w m₀ ann n0 ⟨boot_heap w.params,Array.mk [],boot_drawn,boot_toks,os⟩ (topStub p)=some ((SA w os).abs,⟨denote treeTable (.body (l++rest) env),c,pa,[topFrame qp]⟩))
  (blk:∀(w:World) (os:OsState),segRun treeTable p w m₀ ann 1 nb (SA w os).abs (blockOf (l++rest) env c pa [topFrame qp])=some (.next,(SA w os).abs,c,pb))
  (one:∀(w:World) (os:OsState),segRunT treeTable p w m₀ ann 1 n1 (SA w os) (piecesOf l env c pb [topFrame qp])=some (.next,S1 w os,c,p1))
  (hn:N=n0+(nb+(n1+n2)))
  (run:∀(w:World) (os:OsState),(fg treeTable p w m₀ ann n2 (S1 w os) (restOf rest env c p1 [topFrame qp])).map (fun sT=>((staticsOk (importedModules p.main.body) (boot_heap w.params) sT.abs.heap && namesBound p sT.abs.heap && gensDone sT.abs && laidKept (boot_heap w.params) sT.abs.heap),openSeen q loose (importedModules p.main.body) Xt g0 sT.abs,Yf sT.abs))=some (true,openGood q loose,Ya w)):LeftO p q loose Xt Yf Ya N g0:=fun w=>by
 obtain⟨⟨h,gs,d,k,os⟩,e,e'⟩:=Option.map_eq_some_iff.mp (boot_open e hN f w);obtain⟨rfl,rfl,rfl,rfl⟩:h=boot_heap w.params/\gs=Array.mk []/\d=boot_drawn/\k=boot_toks:=by simpa using e'
 obtain⟨z1,z2,z3⟩:_/\_/\_:=by simpa only [Prod.mk.injEq] using size w
 obtain⟨sT,r,l⟩:=Option.map_eq_some_iff.mp (run w os);obtain⟨l1,l2,l3⟩:_/\_/\_:=by simpa only [Prod.mk.injEq] using l
 have r:=go_top (pre w os) (piece_block (blk w os) (piece_app (segRun_of (one w os)) (fh r)));rw [<- hn] at r
 have t:topFrom treeTable p w N ⟨boot_heap w.params,Array.mk [],boot_drawn,boot_toks,os⟩=some sT.abs:=by
  unfold topFrom;dsimp only;rw [z1,z2,z3,r];show (match staticsOk (importedModules p.main.body) (boot_heap w.params) sT.abs.heap && namesBound p sT.abs.heap && gensDone sT.abs && laidKept (boot_heap w.params) sT.abs.heap with|true=>_|false=>_)=_;rw [l1]
 unfold openEnds;rw [e];show (topFrom treeTable p w N _).map _=_;rw [t];exact congrArg some (Prod.ext l2 l3)
def zhE(P:Params)(x:Str)(t:Nat)(v:Value):DictEntry:=⟨PyData.keyHash P x,.str x t,v⟩
def zhT(xs:List Value):Obj:=⟨.type "tuple",none,.seq xs.toArray 0,#[]⟩
def zhF(xs:List Value):Obj:=⟨.none,none,.fields xs.toArray,#[]⟩
def zhD(es:List DictEntry)(n:Nat):Obj:=⟨.type "dict",none,.dict es.toArray n,#[]⟩
def zhG(c:Str)(xs:List Value):Obj:=⟨.type c.toString,none,.fields xs.toArray,#[]⟩
def zhK(x q:Str)(t l:Nat)(a b c d e m:Value)(g h i j k r u v:Value):Obj:=⟨.type "code",none,.fields #[.str x t,.str q (t+1),.str "/claim/cut.py" (t+2),.int l 0,a,b,c,d,e,m,g,h,i,j,k,r,u,v,.str "/claim/cut.py" (t+4)],#[]⟩
def qa(xs:List Obj):List (Nat×Obj)->List Obj
 | []=>xs
 | p::r=>qa (xs.set p.1 p.2) r
def zhM(p:Program)(i j:Nat):Stmt:=match p.main.body.getD i (.Pass ⟨0,0,0,0⟩) with
 | .ClassDef _ _ _ body _ _ _ _ _ _ _=>body.getD j (.Pass ⟨0,0,0,0⟩)
 | s=>s
def zhN(k:Value)(s:Stmt)(x q:Str)(g:Addr)(m c:Value):Obj:=match s with
 | .FunctionDef _ a b _ _ _ sc _ _ _=>⟨k,none,.func { name:=x,qualname:=q,params:=a,body:=.stmts b,scope:=sc,globals:=g,closure:=[],defaults:=.none,kwdefaults:=.none,pyModule:=m,code:=c },#[]⟩
 | _=>default
end L2
section
open PySem PySem.W PyProof.Rows L2
def zzA(P:Params):BT:=ju ((boot_heap P).objs.toList++[zhT [],
  zhF [],
  ⟨(.type "code"),none,(.fields #[(.str "<module>" 182),(.str "<module>" 183),(.str "/claim/cut.py" 184),(.int (1) 0),(.int (0) 0),(.int (0) 0),(.int (0) 0),(.int (0) 0),(.ref 11),(.bool false),(.int (181) 0),(.ref 12),.none,.none,.none,.none,(.int (185) 0),(.int (1) 0),(.str "/claim/cut.py" 186)]),#[]⟩,
  ⟨(.type "frame"),none,.plain,#[(some (.ref 13)),(some (.ref 3)),(some (.ref 3)),none,(some (.str "__main__" 164)),none,(some (.ref 0))]⟩]) 0 .nil
def zz1(P:Params):BT:=ju (qa (boot_heap P).objs.toList [(3,zhD [zhE P "__name__" 165 (.str "shortglue.errors" 187),zhE P "__doc__" 166 .none,zhE P "__package__" 167 .none,zhE P "__loader__" 168 (.builtin "__main__.__loader__#opaque"),zhE P "__spec__" 169 .none,zhE P "__annotations__" 170 (.ref 6),zhE P "__builtins__" 171 (.ref 4),zhE P "__file__" 173 (.str "/claim/cut.py" 172),zhE P "__cached__" 174 .none,zhE P "GlueError" 206 (.ref 24),zhE P "TooMany" 231 (.ref 44),zhE P "NoPiece" 256 (.ref 63),zhE P "NoLap" 281 (.ref 82),zhE P "NoOrder" 297 (.ref 94),zhE P "NotHeld" 322 (.ref 113),zhE P "NoTable" 338 (.ref 125)] 16)]++[zhT [],
  zhF [(.int (2) 0),(.int (0) 0),(.ref 20),(.int (4) 0),(.int (0) 0),(.ref 33),(.int (8) 0),(.int (0) 0),(.ref 52),(.int (12) 0),(.int (0) 0),(.ref 71),(.int (16) 0),(.int (0) 0),(.ref 90),(.int (18) 0),(.int (0) 0),(.ref 102),(.int (22) 0),(.int (0) 0),(.ref 121)],
  ⟨(.type "code"),none,(.fields #[(.str "<module>" 182),(.str "<module>" 183),(.str "/claim/cut.py" 184),(.int (1) 0),(.int (0) 0),(.int (0) 0),(.int (0) 0),(.int (0) 0),(.ref 11),(.bool false),(.int (181) 0),(.ref 12),.none,.none,.none,.none,(.int (185) 0),(.int (1) 0),(.str "/claim/cut.py" 186)]),#[]⟩,
  ⟨(.type "frame"),none,.plain,#[(some (.ref 13)),(some (.ref 3)),(some (.ref 3)),none,(some (.str "__main__" 164)),none,(some (.ref 0))]⟩,
  zhT [(.type "ValueError")],
  zhG "builtin_function_or_method" [(.builtin "type.__prepare__"),(.type "type")],
  zhD [zhE P "__module__" 196 (.str "shortglue.errors" 187),zhE P "__qualname__" 198 (.str "GlueError" 197),zhE P "__firstlineno__" 200 (.int (2) 199),zhE P "__static_attributes__" 201 (.ref 22)] 4,
  zhT [],
  zhF [],
  ⟨(.type "code"),none,(.fields #[(.str "GlueError" 191),(.str "GlueError" 192),(.str "/claim/cut.py" 193),(.int (2) 0),(.int (0) 0),(.int (0) 0),(.int (0) 0),(.int (0) 0),(.ref 18),(.bool false),(.int (181) 0),(.ref 19),.none,.none,.none,.none,(.int (194) 0),(.int (2) 0),(.str "/claim/cut.py" 195)]),#[]⟩,
  ⟨(.type "frame"),none,.plain,#[(some (.ref 20)),(some (.ref 3)),(some (.ref 17)),none,(some (.str "shortglue.errors" 187)),none,(some (.ref 0))]⟩,
  zhT [],
  zhD [zhE P "__module__" 196 (.str "shortglue.errors" 187),zhE P "__firstlineno__" 200 (.int (2) 199),zhE P "__static_attributes__" 201 (.ref 22),zhE P "__weakref__" 203 (.ref 25),zhE P "__doc__" 204 .none] 3,
  ⟨(.type "type"),none,(.cls { name:="GlueError",bases:=[(.type "ValueError")],mro:=[(.ref 24),(.type "ValueError"),(.type "Exception"),(.type "BaseException"),(.type "object")],ns:=23,qualname:="GlueError",hasDict:=true,slotNames:=[],subclasses:=[(.ref 44),(.ref 63),(.ref 82),(.ref 94),(.ref 113),(.ref 125)],abstract:=false,collection:=none,hasDel:=false }),#[(some (.ref 15)),none,(some (.str "GlueError" 189)),(some (.str "GlueError" 197)),(some (.builtin "ValueError.__new__")),(some (.bool true))]⟩,
  ⟨(.type "getset_descriptor"),none,(.fields #[(.str "__weakref__" 202),(.ref 24),(.builtin "ExceptionGroup.__weakref__"),.none]),#[]⟩,
  zhG "super" [(.ref 24),(.ref 24),(.ref 24)],
  zhG "builtin_function_or_method" [(.builtin "object.__init_subclass__"),(.ref 24)],
  zhT [(.ref 24)],
  zhG "builtin_function_or_method" [(.builtin "type.__prepare__"),(.type "type")],
  zhD [zhE P "__module__" 214 (.str "shortglue.errors" 187),zhE P "__qualname__" 216 (.str "TooMany" 215),zhE P "__firstlineno__" 218 (.int (4) 217),zhE P "__init__" 226 (.ref 41),zhE P "__static_attributes__" 228 (.ref 42)] 5,
  zhT [],
  zhF [(.int (6) 0),(.int (4) 0),(.ref 40)],
  ⟨(.type "code"),none,(.fields #[(.str "TooMany" 209),(.str "TooMany" 210),(.str "/claim/cut.py" 211),(.int (4) 0),(.int (0) 0),(.int (0) 0),(.int (0) 0),(.int (0) 0),(.ref 31),(.bool false),(.int (181) 0),(.ref 32),.none,.none,.none,.none,(.int (212) 0),(.int (4) 0),(.str "/claim/cut.py" 213)]),#[]⟩,
  ⟨(.type "frame"),none,.plain,#[(some (.ref 33)),(some (.ref 3)),(some (.ref 30)),none,(some (.str "shortglue.errors" 187)),none,(some (.ref 0))]⟩,
  zhT [],
  zhF [],
  zhT [(.str "self" 222),(.str "most" 223)],
  zhT [],
  zhN .none (zhM PySem.Challenge.pw_shortglue_k08_glued 2 0) "__init__" "TooMany.__init__" 0 .none .none,
  ⟨(.type "code"),none,(.fields #[(.str "__init__" 219),(.str "TooMany.__init__" 220),(.str "/claim/cut.py" 221),(.int (6) 0),(.int (2) 0),(.int (0) 0),(.int (0) 0),(.int (3) 0),(.ref 35),(.bool true),(.int (181) 0),(.ref 36),.none,(.ref 37),(.ref 38),(.ref 39),(.int (224) 0),(.int (6) 0),(.str "/claim/cut.py" 225)]),#[]⟩,
  zhN (.type "function") (zhM PySem.Challenge.pw_shortglue_k08_glued 2 0) "__init__" "TooMany.__init__" 3 (.str "shortglue.errors" 187) (.ref 40),
  zhT [(.str "most" 227)],
  zhD [zhE P "__module__" 214 (.str "shortglue.errors" 187),zhE P "__firstlineno__" 218 (.int (4) 217),zhE P "__init__" 226 (.ref 41),zhE P "__static_attributes__" 228 (.ref 42),zhE P "__doc__" 229 .none] 2,
  ⟨(.type "type"),none,(.cls { name:="TooMany",bases:=[(.ref 24)],mro:=[(.ref 44),(.ref 24),(.type "ValueError"),(.type "Exception"),(.type "BaseException"),(.type "object")],ns:=43,qualname:="TooMany",hasDict:=true,slotNames:=[],subclasses:=[],abstract:=false,collection:=none,hasDel:=false }),#[(some (.ref 28)),none,(some (.str "TooMany" 207)),(some (.str "TooMany" 215)),(some (.builtin "ValueError.__new__")),(some (.bool true))]⟩,
  zhG "super" [(.ref 44),(.ref 44),(.ref 44)],
  zhG "builtin_function_or_method" [(.builtin "object.__init_subclass__"),(.ref 44)],
  zhT [(.ref 24)],
  zhG "builtin_function_or_method" [(.builtin "type.__prepare__"),(.type "type")],
  zhD [zhE P "__module__" 239 (.str "shortglue.errors" 187),zhE P "__qualname__" 241 (.str "NoPiece" 240),zhE P "__firstlineno__" 243 (.int (8) 242),zhE P "__init__" 251 (.ref 60),zhE P "__static_attributes__" 253 (.ref 61)] 5,
  zhT [],
  zhF [(.int (10) 0),(.int (4) 0),(.ref 59)],
  ⟨(.type "code"),none,(.fields #[(.str "NoPiece" 234),(.str "NoPiece" 235),(.str "/claim/cut.py" 236),(.int (8) 0),(.int (0) 0),(.int (0) 0),(.int (0) 0),(.int (0) 0),(.ref 50),(.bool false),(.int (181) 0),(.ref 51),.none,.none,.none,.none,(.int (237) 0),(.int (8) 0),(.str "/claim/cut.py" 238)]),#[]⟩,
  ⟨(.type "frame"),none,.plain,#[(some (.ref 52)),(some (.ref 3)),(some (.ref 49)),none,(some (.str "shortglue.errors" 187)),none,(some (.ref 0))]⟩,
  zhT [],
  zhF [],
  zhT [(.str "self" 247),(.str "at" 248)],
  zhT [],
  zhN .none (zhM PySem.Challenge.pw_shortglue_k08_glued 3 0) "__init__" "NoPiece.__init__" 0 .none .none,
  ⟨(.type "code"),none,(.fields #[(.str "__init__" 244),(.str "NoPiece.__init__" 245),(.str "/claim/cut.py" 246),(.int (10) 0),(.int (2) 0),(.int (0) 0),(.int (0) 0),(.int (3) 0),(.ref 54),(.bool true),(.int (181) 0),(.ref 55),.none,(.ref 56),(.ref 57),(.ref 58),(.int (249) 0),(.int (10) 0),(.str "/claim/cut.py" 250)]),#[]⟩,
  zhN (.type "function") (zhM PySem.Challenge.pw_shortglue_k08_glued 3 0) "__init__" "NoPiece.__init__" 3 (.str "shortglue.errors" 187) (.ref 59),
  zhT [(.str "at" 252)],
  zhD [zhE P "__module__" 239 (.str "shortglue.errors" 187),zhE P "__firstlineno__" 243 (.int (8) 242),zhE P "__init__" 251 (.ref 60),zhE P "__static_attributes__" 253 (.ref 61),zhE P "__doc__" 254 .none] 2,
  ⟨(.type "type"),none,(.cls { name:="NoPiece",bases:=[(.ref 24)],mro:=[(.ref 63),(.ref 24),(.type "ValueError"),(.type "Exception"),(.type "BaseException"),(.type "object")],ns:=62,qualname:="NoPiece",hasDict:=true,slotNames:=[],subclasses:=[],abstract:=false,collection:=none,hasDel:=false }),#[(some (.ref 47)),none,(some (.str "NoPiece" 232)),(some (.str "NoPiece" 240)),(some (.builtin "ValueError.__new__")),(some (.bool true))]⟩,
  zhG "super" [(.ref 63),(.ref 63),(.ref 63)],
  zhG "builtin_function_or_method" [(.builtin "object.__init_subclass__"),(.ref 63)],
  zhT [(.ref 24)],
  zhG "builtin_function_or_method" [(.builtin "type.__prepare__"),(.type "type")],
  zhD [zhE P "__module__" 264 (.str "shortglue.errors" 187),zhE P "__qualname__" 266 (.str "NoLap" 265),zhE P "__firstlineno__" 268 (.int (12) 267),zhE P "__init__" 276 (.ref 79),zhE P "__static_attributes__" 278 (.ref 80)] 5,
  zhT [],
  zhF [(.int (14) 0),(.int (4) 0),(.ref 78)],
  ⟨(.type "code"),none,(.fields #[(.str "NoLap" 259),(.str "NoLap" 260),(.str "/claim/cut.py" 261),(.int (12) 0),(.int (0) 0),(.int (0) 0),(.int (0) 0),(.int (0) 0),(.ref 69),(.bool false),(.int (181) 0),(.ref 70),.none,.none,.none,.none,(.int (262) 0),(.int (12) 0),(.str "/claim/cut.py" 263)]),#[]⟩,
  ⟨(.type "frame"),none,.plain,#[(some (.ref 71)),(some (.ref 3)),(some (.ref 68)),none,(some (.str "shortglue.errors" 187)),none,(some (.ref 0))]⟩,
  zhT [],
  zhF [],
  zhT [(.str "self" 272),(.str "k" 273)],
  zhT [],
  zhN .none (zhM PySem.Challenge.pw_shortglue_k08_glued 4 0) "__init__" "NoLap.__init__" 0 .none .none,
  ⟨(.type "code"),none,(.fields #[(.str "__init__" 269),(.str "NoLap.__init__" 270),(.str "/claim/cut.py" 271),(.int (14) 0),(.int (2) 0),(.int (0) 0),(.int (0) 0),(.int (3) 0),(.ref 73),(.bool true),(.int (181) 0),(.ref 74),.none,(.ref 75),(.ref 76),(.ref 77),(.int (274) 0),(.int (14) 0),(.str "/claim/cut.py" 275)]),#[]⟩,
  zhN (.type "function") (zhM PySem.Challenge.pw_shortglue_k08_glued 4 0) "__init__" "NoLap.__init__" 3 (.str "shortglue.errors" 187) (.ref 78),
  zhT [(.str "k" 277)],
  zhD [zhE P "__module__" 264 (.str "shortglue.errors" 187),zhE P "__firstlineno__" 268 (.int (12) 267),zhE P "__init__" 276 (.ref 79),zhE P "__static_attributes__" 278 (.ref 80),zhE P "__doc__" 279 .none] 2,
  ⟨(.type "type"),none,(.cls { name:="NoLap",bases:=[(.ref 24)],mro:=[(.ref 82),(.ref 24),(.type "ValueError"),(.type "Exception"),(.type "BaseException"),(.type "object")],ns:=81,qualname:="NoLap",hasDict:=true,slotNames:=[],subclasses:=[],abstract:=false,collection:=none,hasDel:=false }),#[(some (.ref 66)),none,(some (.str "NoLap" 257)),(some (.str "NoLap" 265)),(some (.builtin "ValueError.__new__")),(some (.bool true))]⟩,
  zhG "super" [(.ref 82),(.ref 82),(.ref 82)],
  zhG "builtin_function_or_method" [(.builtin "object.__init_subclass__"),(.ref 82)],
  zhT [(.ref 24)],
  zhG "builtin_function_or_method" [(.builtin "type.__prepare__"),(.type "type")],
  zhD [zhE P "__module__" 289 (.str "shortglue.errors" 187),zhE P "__qualname__" 291 (.str "NoOrder" 290),zhE P "__firstlineno__" 293 (.int (16) 292),zhE P "__static_attributes__" 294 (.ref 92)] 4,
  zhT [],
  zhF [],
  ⟨(.type "code"),none,(.fields #[(.str "NoOrder" 284),(.str "NoOrder" 285),(.str "/claim/cut.py" 286),(.int (16) 0),(.int (0) 0),(.int (0) 0),(.int (0) 0),(.int (0) 0),(.ref 88),(.bool false),(.int (181) 0),(.ref 89),.none,.none,.none,.none,(.int (287) 0),(.int (16) 0),(.str "/claim/cut.py" 288)]),#[]⟩,
  ⟨(.type "frame"),none,.plain,#[(some (.ref 90)),(some (.ref 3)),(some (.ref 87)),none,(some (.str "shortglue.errors" 187)),none,(some (.ref 0))]⟩,
  zhT [],
  zhD [zhE P "__module__" 289 (.str "shortglue.errors" 187),zhE P "__firstlineno__" 293 (.int (16) 292),zhE P "__static_attributes__" 294 (.ref 92),zhE P "__doc__" 295 .none] 2,
  ⟨(.type "type"),none,(.cls { name:="NoOrder",bases:=[(.ref 24)],mro:=[(.ref 94),(.ref 24),(.type "ValueError"),(.type "Exception"),(.type "BaseException"),(.type "object")],ns:=93,qualname:="NoOrder",hasDict:=true,slotNames:=[],subclasses:=[],abstract:=false,collection:=none,hasDel:=false }),#[(some (.ref 85)),none,(some (.str "NoOrder" 282)),(some (.str "NoOrder" 290)),(some (.builtin "ValueError.__new__")),(some (.bool true))]⟩,
  zhG "super" [(.ref 94),(.ref 94),(.ref 94)],
  zhG "builtin_function_or_method" [(.builtin "object.__init_subclass__"),(.ref 94)],
  zhT [(.ref 24)],
  zhG "builtin_function_or_method" [(.builtin "type.__prepare__"),(.type "type")],
  zhD [zhE P "__module__" 305 (.str "shortglue.errors" 187),zhE P "__qualname__" 307 (.str "NotHeld" 306),zhE P "__firstlineno__" 309 (.int (18) 308),zhE P "__init__" 317 (.ref 110),zhE P "__static_attributes__" 319 (.ref 111)] 5,
  zhT [],
  zhF [(.int (20) 0),(.int (4) 0),(.ref 109)],
  ⟨(.type "code"),none,(.fields #[(.str "NotHeld" 300),(.str "NotHeld" 301),(.str "/claim/cut.py" 302),(.int (18) 0),(.int (0) 0),(.int (0) 0),(.int (0) 0),(.int (0) 0),(.ref 100),(.bool false),(.int (181) 0),(.ref 101),.none,.none,.none,.none,(.int (303) 0),(.int (18) 0),(.str "/claim/cut.py" 304)]),#[]⟩,
  ⟨(.type "frame"),none,.plain,#[(some (.ref 102)),(some (.ref 3)),(some (.ref 99)),none,(some (.str "shortglue.errors" 187)),none,(some (.ref 0))]⟩,
  zhT [],
  zhF [],
  zhT [(.str "self" 313),(.str "at" 314)],
  zhT [],
  zhN .none (zhM PySem.Challenge.pw_shortglue_k08_glued 6 0) "__init__" "NotHeld.__init__" 0 .none .none,
  ⟨(.type "code"),none,(.fields #[(.str "__init__" 310),(.str "NotHeld.__init__" 311),(.str "/claim/cut.py" 312),(.int (20) 0),(.int (2) 0),(.int (0) 0),(.int (0) 0),(.int (3) 0),(.ref 104),(.bool true),(.int (181) 0),(.ref 105),.none,(.ref 106),(.ref 107),(.ref 108),(.int (315) 0),(.int (20) 0),(.str "/claim/cut.py" 316)]),#[]⟩,
  zhN (.type "function") (zhM PySem.Challenge.pw_shortglue_k08_glued 6 0) "__init__" "NotHeld.__init__" 3 (.str "shortglue.errors" 187) (.ref 109),
  zhT [(.str "at" 318)],
  zhD [zhE P "__module__" 305 (.str "shortglue.errors" 187),zhE P "__firstlineno__" 309 (.int (18) 308),zhE P "__init__" 317 (.ref 110),zhE P "__static_attributes__" 319 (.ref 111),zhE P "__doc__" 320 .none] 2,
  ⟨(.type "type"),none,(.cls { name:="NotHeld",bases:=[(.ref 24)],mro:=[(.ref 113),(.ref 24),(.type "ValueError"),(.type "Exception"),(.type "BaseException"),(.type "object")],ns:=112,qualname:="NotHeld",hasDict:=true,slotNames:=[],subclasses:=[],abstract:=false,collection:=none,hasDel:=false }),#[(some (.ref 97)),none,(some (.str "NotHeld" 298)),(some (.str "NotHeld" 306)),(some (.builtin "ValueError.__new__")),(some (.bool true))]⟩,
  zhG "super" [(.ref 113),(.ref 113),(.ref 113)],
  zhG "builtin_function_or_method" [(.builtin "object.__init_subclass__"),(.ref 113)],
  zhT [(.ref 24)],
  zhG "builtin_function_or_method" [(.builtin "type.__prepare__"),(.type "type")],
  zhD [zhE P "__module__" 330 (.str "shortglue.errors" 187),zhE P "__qualname__" 332 (.str "NoTable" 331),zhE P "__firstlineno__" 334 (.int (22) 333),zhE P "__static_attributes__" 335 (.ref 123)] 4,
  zhT [],
  zhF [],
  ⟨(.type "code"),none,(.fields #[(.str "NoTable" 325),(.str "NoTable" 326),(.str "/claim/cut.py" 327),(.int (22) 0),(.int (0) 0),(.int (0) 0),(.int (0) 0),(.int (0) 0),(.ref 119),(.bool false),(.int (181) 0),(.ref 120),.none,.none,.none,.none,(.int (328) 0),(.int (22) 0),(.str "/claim/cut.py" 329)]),#[]⟩,
  ⟨(.type "frame"),none,.plain,#[(some (.ref 121)),(some (.ref 3)),(some (.ref 118)),none,(some (.str "shortglue.errors" 187)),none,(some (.ref 0))]⟩,
  zhT [],
  zhD [zhE P "__module__" 330 (.str "shortglue.errors" 187),zhE P "__firstlineno__" 334 (.int (22) 333),zhE P "__static_attributes__" 335 (.ref 123),zhE P "__doc__" 336 .none] 2,
  ⟨(.type "type"),none,(.cls { name:="NoTable",bases:=[(.ref 24)],mro:=[(.ref 125),(.ref 24),(.type "ValueError"),(.type "Exception"),(.type "BaseException"),(.type "object")],ns:=124,qualname:="NoTable",hasDict:=true,slotNames:=[],subclasses:=[],abstract:=false,collection:=none,hasDel:=false }),#[(some (.ref 116)),none,(some (.str "NoTable" 323)),(some (.str "NoTable" 331)),(some (.builtin "ValueError.__new__")),(some (.bool true))]⟩,
  zhG "super" [(.ref 125),(.ref 125),(.ref 125)],
  zhG "builtin_function_or_method" [(.builtin "object.__init_subclass__"),(.ref 125)]]) 0 .nil
def zzV:Env:={ scope:=(PySem.Challenge.pw_shortglue_k08_glued).main.scope,locals:=mainNs,globals:=mainNs,cells:=[],code:=(.ref 13),frame:=some 14 }
abbrev zzC:Code:=.body ((behindTheImports PySem.Challenge.pw_shortglue_k08_glued).take 8++(behindTheImports PySem.Challenge.pw_shortglue_k08_glued).drop 8) zzV
abbrev qb(w:World)(os:OsState):SharedT:=⟨zzA w.params,15,(boot_heap w.params).life,Array.mk [],boot_drawn,187,os⟩
abbrev ud(w:World)(os:OsState):SharedT:=⟨zz1 w.params,128,(boot_heap w.params).life,Array.mk [],boot_drawn,339,os⟩
theorem qc:∀(w:World) (os:OsState),topGo treeTable PySem.Challenge.pw_shortglue_k08_glued w 11 (some (.ref 6)) 12 ⟨boot_heap w.params,Array.mk [],boot_drawn,boot_toks,os⟩ (topStub PySem.Challenge.pw_shortglue_k08_glued)=some ((qb w os).abs,⟨denote treeTable zzC,zzC,⟨0,0,0,0⟩,[topFrame ⟨0,0,0,0⟩]⟩):=by intro w os;kernel_rfl
theorem qe:∀(w:World) (os:OsState),segRun treeTable PySem.Challenge.pw_shortglue_k08_glued w 11 (some (.ref 6)) 1 1 (qb w os).abs (blockOf ((behindTheImports PySem.Challenge.pw_shortglue_k08_glued).take 8++(behindTheImports PySem.Challenge.pw_shortglue_k08_glued).drop 8) zzV zzC ⟨0,0,0,0⟩ [topFrame ⟨0,0,0,0⟩])=some (.next,(qb w os).abs,zzC,⟨0,0,0,0⟩):=by intro w os;kernel_rfl
theorem qf:∀(w:World) (os:OsState),segRunT treeTable PySem.Challenge.pw_shortglue_k08_glued w 11 (some (.ref 6)) 1 1602 (qb w os) (piecesOf ((behindTheImports PySem.Challenge.pw_shortglue_k08_glued).take 8) zzV zzC ⟨0,0,0,0⟩ [topFrame ⟨0,0,0,0⟩])=some (.next,ud w os,zzC,⟨22,0,23,8⟩):=by intro w os;kernel_rfl
end
section
open PySem PySem.W PyProof.Rows
def nP:Program:=PySem.W.view PySem.Challenge.pw_shortglue_k08_glued [1,2,3,4,5,6,7,8,9,10,11,12,13,14,15,16,18,20,21,22,23,24,25,26,27,28,29,30,31,32,33,34]
local macro_rules | `(tactic| o_head $H)=>`(tactic| (refine holds_open (q:=nP) (loose:=[]) (Xt:=fun s=>xlAt nP [] s && recOk (RowW.records (OpenRow.toRowW (OpenLaw.row PySem.Challenge.rw_shortglue_k08_glued))) s) (XP:=XL nP []) (Yf:=Hook.obs $H) (Ya:=Hook.val $H) (YP:=Hook.says $H) (N:=4261) ?hl (Hook.of $H) (Hook.keeps $H) (fun s e=>xl_of s (and_eq_true_iff.mp e).1) XL.keeps (by rfl) (by rfl) (by rfl) (fun s e=>recFacts_of (and_eq_true_iff.mp e).2) (by rfl) (by first | assumption | decide +kernel) (by decide +kernel) ⟨rfl,rfl,rfl,rfl,rfl,by decide +kernel⟩ ?hw ?hc;(case hl=>(refine L2.nO (m₀:=11) (ann:=some (.ref 6)) (SA:=qb) (S1:=ud) (n2:=2646) (by kernel_rfl) (by rfl) (fun s=>by kernel_rfl) (fun w=>by kernel_rfl) qc qe qf (by rfl) ?_;intro w os;kernel_rfl))))
set_option maxRecDepth 100000 in
set_option maxHeartbeats 0 in
open_top topHd for PySem.Challenge.rw_shortglue_k08_glued
end
-- CHANGE: your row's module here,as the last of these rows
namespace L2
open PySem PySem.Spec PyProof.Rows
abbrev Key:=Sum Int Str
def qg:Key->Value->Bool
 | .inl k,v=>Value.isInt k v
 | .inr x,v=>Value.isStrOf x v
def uN(w:World):Key->Int
 | .inl k=>hashInt k
 | .inr x=>hashStr w x
theorem bf:∀{k:Key}{v:Value},qg k v=true->(∃i t,k=Sum.inl i/\v=Value.int i t)\/(∃x t,k=Sum.inr x/\v=Value.str x t)
 | .inl i,v,h=>by
  obtain⟨t,e⟩:=Value.isInt_shape (k:=i) (v:=v) h;exact .inl ⟨i,t,rfl,e⟩
 | .inr x,v,h=>by
  obtain⟨t,e⟩:=Value.isStrOf_shape (x:=x) (v:=v) h;exact .inr ⟨x,t,rfl,e⟩
theorem qh(a b:Int):decide ((Sum.inl a:Key)=Sum.inl b)=(a == b):=by
 by_cases e:a=b
 .subst e;simp
 .have h:¬ (Sum.inl a:Key)=Sum.inl b:=fun q=>e (Sum.inl.inj q);rw [decide_eq_false h];exact (beq_eq_false_iff_ne.mpr e).symm
theorem qi(a b:Str):decide ((Sum.inr a:Key)=Sum.inr b)=decide (a=b):=by
 by_cases e:a=b
 .subst e;simp
 .have h:¬ (Sum.inr a:Key)=Sum.inr b:=fun q=>e (Sum.inr.inj q);rw [decide_eq_false h,decide_eq_false e]
theorem qj(a:Int)(b:Str):decide ((Sum.inl a:Key)=Sum.inr b)=false:=decide_eq_false (fun q=>nomatch q)
theorem qk(a:Str)(b:Int):decide ((Sum.inr a:Key)=Sum.inl b)=false:=decide_eq_false (fun q=>nomatch q)
def iS(prog:Program)(w:World):PySem.KeyKind prog w Key where
 is:=qg
 hash:=uN w
 inj:=fun v a b ha hb=>by
  rcases bf ha with ⟨i,t,rfl,rfl⟩|⟨x,t,rfl,rfl⟩
  .rcases bf hb with ⟨j,u,rfl,e⟩|⟨y,u,rfl,e⟩
   .injection e with e1 _;rw [e1]
   .exact nomatch e
  .rcases bf hb with ⟨j,u,rfl,e⟩|⟨y,u,rfl,e⟩
   .exact nomatch e
   .injection e with e1 _;rw [e1]
 byValue:=fun k v h=>by
  rcases bf h with ⟨i,t,rfl,rfl⟩|⟨x,t,rfl,rfl⟩ <;> rfl
 pyHash:=fun hv h=>by
  rcases bf hv with ⟨i,t,rfl,rfl⟩|⟨x,t,rfl,rfl⟩
  .exact wpAny_pyHash_int h
  .exact wpAny_pyHash_str h
 eqBool:=fun hu hv h=>by
  rcases bf hu with ⟨i,t,rfl,rfl⟩|⟨x,t,rfl,rfl⟩
  .rcases bf hv with ⟨j,u,rfl,rfl⟩|⟨y,u,rfl,rfl⟩
   .rw [qh] at h;exact wpAny_eqBool_int h
   .rw [qj] at h;exact SeqAt.EqAt.int_str i t y u _ _ _ _ h
  .rcases bf hv with ⟨j,u,rfl,rfl⟩|⟨y,u,rfl,rfl⟩
   .rw [qk] at h;exact SeqAt.EqAt.str_int x t j u _ _ _ _ h
   .rw [qi] at h;exact wpAny_eqBool_str h
 «strs»:=fun k x t v h=>by
  rcases bf h with ⟨i,u,rfl,e⟩|⟨y,u,rfl,e⟩
  .exact nomatch e
  .injection e with e1 _;subst e1;cases v <;> rfl
inductive V where
 | non|bl (b:Bool)|int (i:Int)|str (x:Str)|byt (b:Array UInt8)|flt (b:UInt64)|ref (a:Addr)|ty (n:String)
 deriving DecidableEq
def ck:V->Value->Prop
 | .non,u=>u=Value.none
 | .bl b,u=>u=Value.bool b
 | .int i,u=>∃t,u=Value.int i t
 | .str x,u=>∃t,u=Value.str x t
 | .byt b,u=>∃t,u=Value.bytes b t
 | .flt b,u=>∃t,u=Value.float b t
 | .ref a,u=>u=Value.ref a
 | .ty n,u=>u=Value.type n
abbrev bo:List V->List Value->Prop:=Paired ck
theorem bo.length{xs:List V}{us:List Value}(r:bo xs us):xs.length=us.length:=Paired.length r
theorem bo.get:∀{xs:List V}{us:List Value}{i:Nat}{x:V},bo xs us->xs[i]?=some x->∃u,us[i]?=some u/\ck x u
 | _,_,_,_,.nil,e=>by simp at e
 | _,_,0,_,.cons r _,e=>by simp at e;subst e;exact⟨_,rfl,r⟩
 | _,_,i+1,x,.cons _ t,e=>by
  obtain⟨u,h1,h2⟩:=bo.get (i:=i) (x:=x) t (by simpa using e);exact⟨u,by simpa using h1,h2⟩
theorem bo.append:∀{xs ys:List V}{us ws:List Value},bo xs us->bo ys ws->bo (xs++ys) (us++ws)
 | _,_,_,_,.nil,s=>s
 | _,_,_,_,.cons r t,s=>.cons r (bo.append t s)
theorem bo.take:∀{xs:List V}{us:List Value} (n:Nat),bo xs us->bo (xs.take n) (us.take n)
 | _,_,0,_=>.nil
 | _,_,_+1,.nil=>.nil
 | _,_,n+1,.cons r t=>.cons r (bo.take n t)
theorem bo.drop:∀{xs:List V}{us:List Value} (n:Nat),bo xs us->bo (xs.drop n) (us.drop n)
 | _,_,0,r=>r
 | _,_,_+1,.nil=>.nil
 | _,_,n+1,.cons _ t=>bo.drop n t
def mV:Option V->Option Value->Prop
 | some v,some u=>ck v u
 | none,none=>True
 | _,_=>False
def KV{κ:Type}:List (κ×V)->List (κ×Value)->Prop:=Paired fun (p:κ×V) (q:κ×Value)=>p.1=q.1/\ck p.2 q.2
def kV:Key->V
 | .inl i=>.int i
 | .inr x=>.str x
inductive HO where
 | lst (xs:List V)
 | tup (xs:List V)
 | dK (kvs:List (Key×V))|dT (kvs:List (List Key×V))
 | set (S:Int->Bool) (n:Nat)
 | ins (C dx:Addr) (fs:List (Str×V))
 | own (x:Addr)
 | xd (fs:List (Str×V))
 | met (f x:Addr)
 | rng (lo hi:Int)
 | frz (o:Obj) (u:HO)
 | tbl (ps:Array Value)
 | ext (φ:Heap->Prop)
abbrev Hp:=Addr->Option HO
def upd(H:Hp)(a:Addr)(o:HO):Hp:=fun b=>if b=a then some o else H b
theorem aF{H:Hp}{a:Addr}{o:HO}:upd H a o a=some o:=by unfold upd;rw [if_pos rfl]
theorem ao{H:Hp}{a b:Addr}{o:HO}(h:b≠a):upd H a o b=H b:=by unfold upd;rw [if_neg h]
theorem aQ{H:Hp}{a b:Addr}{o:HO}(h:H a=some o)(h':H b=none):a≠b:=by
 intro e;subst e;rw [h] at h';cases h'
section
variable (P:Program) (w:World)
def bc(H:Hp)(h:Heap)(a:Addr):HO->Prop
 | .lst xs=>xs.length<=sizeLine/\∃(its:List Value) (n:Nat),bo xs its/\h.get? a=some { cls:=.type "list",data:=.seq its.toArray n }
 | .tup xs=>xs.length<=sizeLine/\∃its:List Value,bo xs its/\IsTup h a its.toArray
 | .dK kvs=>kvs.length<=sizeLine/\(a == sysModules)=false/\∃vs,KV kvs vs/\h.DictOf (iS P w) a vs
 | .dT kvs=>kvs.length<=sizeLine/\(a == sysModules)=false/\∃xs:List (List Key×Addr×Value),
   Paired (fun (p:List Key×V) (q:List Key×Addr×Value)=>p.1=q.1/\H q.2.1=some (.tup (p.1.map kV))/\ck p.2 q.2.2) kvs xs /\
   ∃o es ep,h.get? a=some o/\o.ExactDict/\o.data=.dict es ep/\es.toList=xs.map (entryOfKey (tupleKind (iS P w)))/\(xs.map (·.1)).Nodup
 | .set S n=>h.SetOf (intKind P w) a S n
 | .ins C dx fs=>H dx=some (.own a)/\fs.length<=1000/\dx≠a/\h.get? a=some (PySem.W.instObj C dx) /\
   ∃mA,h.Ns1 dx mA/\(∀f,mV (fs.lookup f) (mA f))/\PySem.Within mA (fs.map (·.1))
 | .own _=>∃o,h.get? a=some o
 | .xd fs=>∃mA,h.Ns1 a mA/\∀f,mV (fs.lookup f) (mA f)
 | .rng lo hi=>∃t u v,h.get? a=some { cls:=.type "range",data:=.fields #[.int lo t,.int hi u,.int 1 v] }
 | .frz o u=>h.get? a=some o/\bc H h a u
 | .tbl ps=>h.get? a=some { cls:=.none,data:=.fields ps }
 | .met f x=>h.get? a=some (PySem.W.methodObj (.ref f) (.ref x))
 | .ext φ=>φ h/\(∃o,h.get? a=some o)/\∀h1 h2:Heap,φ h1->(∀o,h1.get? a=some o->h2.get? a=some o)->φ h2
def HOk(H:Hp)(h:Heap):Prop:=∀a o,H a=some o->bc P w H h a o
end
section
variable {P:Program}{w:World}{H H':Hp}{h h':Heap}{a:Addr}{o:HO}
theorem bc.lt(x:bc P w H h a o):a<h.objs.size:=by
 cases o with
 | lst xs=>obtain⟨_,_,_,_,e⟩:=x;exact Heap.lt_size e
 | tup xs=>obtain⟨_,_,_,p⟩:=x;exact p.lt
 | dK kvs=>obtain⟨_,_,_,_,o,_,_,e,_⟩:=x;exact Heap.lt_size e
 | dT kvs=>obtain⟨_,_,_,_,o,_,_,e,_⟩:=x;exact Heap.lt_size e
 | set S n=>obtain⟨o,_,_,_,e,_⟩:=x;exact Heap.lt_size e
 | ins C dx fs=>obtain⟨_,_,_,e,_⟩:=x;exact Heap.lt_size e
 | own y=>obtain⟨_,e⟩:=x;exact Heap.lt_size e
 | xd fs=>obtain⟨_,⟨_,_,_,e,_⟩,_⟩:=x;exact Heap.lt_size e
 | rng lo hi=>obtain⟨_,_,_,e⟩:=x;exact Heap.lt_size e
 | frz ob u=>obtain⟨e,_⟩:=x;exact Heap.lt_size e
 | tbl ps=>exact Heap.lt_size (show h.get? a=some _ from x)
 | met f y=>exact Heap.lt_size (show h.get? a=some _ from x)
 | ext φ=>obtain⟨_,⟨_,e⟩,_⟩:=x;exact Heap.lt_size e
theorem Paired.mapP{α β:Type}{F G:α->β->Prop}:∀{l₁:List α}{l₂:List β},Paired F l₁ l₂->(∀a b,F a b->G a b)->Paired G l₁ l₂
 | _,_,.nil,_=>.nil
 | _,_,.cons r t,f=>.cons (f _ _ r) (Paired.mapP t f)
theorem bc.stay(x:bc P w H h a o)(k:∀b u,(b=a\/H b=some (.own a))->h.get? b=some u->h'.get? b=some u)
  (ho:∀b,H b=some (.own a)->H' b=some (.own a)) (ht:∀b xs,H b=some (.tup xs)->H' b=some (.tup xs)):bc P w H' h' a o:=by
 induction o with
 | lst xs=>obtain⟨z,its,n,r,e⟩:=x;exact⟨z,its,n,r,k _ _ (.inl rfl) e⟩
 | tup xs=>obtain⟨z,its,r,ob,e,c⟩:=x;exact⟨z,its,r,ob,k _ _ (.inl rfl) e,c⟩
 | dK kvs=>obtain⟨z,y,vs,r,ob,es,ep,e,c⟩:=x;exact⟨z,y,vs,r,ob,es,ep,k _ _ (.inl rfl) e,c⟩
 | dT kvs =>
  obtain⟨z,y,xs,r,ob,es,ep,e,c⟩:=x;exact⟨z,y,xs,Paired.mapP r fun p q z=>⟨z.1,ht _ _ z.2.1,z.2.2⟩,ob,es,ep,k _ _ (.inl rfl) e,c⟩
 | set S n=>obtain⟨ob,es,ep,t,e,c⟩:=x;exact⟨ob,es,ep,t,k _ _ (.inl rfl) e,c⟩
 | ins C dx fs =>
  obtain⟨d,z,ne,e,mA,⟨od,es,ep,e2,c⟩,r⟩:=x;exact⟨ho _ d,z,ne,k _ _ (.inl rfl) e,mA,⟨od,es,ep,k _ _ (.inr d) e2,c⟩,r⟩
 | own y=>obtain⟨ob,e⟩:=x;exact⟨ob,k _ _ (.inl rfl) e⟩
 | xd fs=>obtain⟨mA,⟨od,es,ep,e,c⟩,r⟩:=x;exact⟨mA,⟨od,es,ep,k _ _ (.inl rfl) e,c⟩,r⟩
 | rng lo hi=>obtain⟨t,u,v,e⟩:=x;exact⟨t,u,v,k _ _ (.inl rfl) e⟩
 | frz ob u ih=>obtain⟨e,q⟩:=x;exact⟨k _ _ (.inl rfl) e,ih q⟩
 | tbl ps =>
  have e:h.get? a=some { cls:=.none,data:=.fields ps }:=x;show h'.get? a=some { cls:=.none,data:=.fields ps };exact k a _ (.inl rfl) e
 | met f y =>
  have e:h.get? a=some (PySem.W.methodObj (.ref f) (.ref y)):=x;show h'.get? a=some (PySem.W.methodObj (.ref f) (.ref y));exact k a _ (.inl rfl) e
 | ext φ=>obtain⟨p,⟨o,e⟩,st⟩:=x;exact⟨st _ _ p fun o q=>k _ _ (.inl rfl) q,⟨o,k _ _ (.inl rfl) e⟩,st⟩
theorem HOk.lt(x:HOk P w H h)(e:H a=some o):a<h.objs.size:=(x a o e).lt
theorem HOk.fresh(x:HOk P w H h)(e:h.objs.size<=a):H a=none:=by
 cases q:H a with
 | none=>rfl
 | some u=>exact absurd (lt_of_lt_of_le (x.lt q) e) (lt_irrefl _)
theorem HOk.kept(x:HOk P w H h)(k:∀b u,h.get? b=some u->h'.get? b=some u):HOk P w H h':=fun a o e =>
 (x a o e).stay (fun b u _ q=>k b u q) (fun _ q=>q) fun _ _ q=>q
theorem HOk.laid(x:HOk P w H h)(k:∀b u,h.get? b=some u->h'.get? b=some u)(hp:h.objs.size<=a)(new:bc P w (upd H a o) h' a o):HOk P w (upd H a o) h':=fun b u e=>by
 have hn:=x.fresh hp
 by_cases hb:b=a
 .subst hb;rw [aF] at e;cases e;exact new
 .rw [ao hb] at e;exact (x b u e).stay (fun c v _ q=>k c v q) (fun c q=>by rw [ao (aQ q hn)];exact q) fun c xs q=>by rw [ao (aQ q hn)];exact q
end
def Rd(H:Hp)(a:Addr)(u:HO):Prop:=H a=some u\/∃o,H a=some (.frz o u)
theorem Rd.ok{P:Program}{w:World}{H:Hp}{h:Heap}{a:Addr}{u:HO}(r:Rd H a u)(x:HOk P w H h):bc P w H h a u:=by
 rcases r with r|⟨o,r⟩
 .exact x a u r
 .obtain⟨_,q⟩:=x a _ r;exact q
def Mut:Option HO->Prop
 | some (.lst _)=>True
 | some (.dK _)=>True
 | some (.dT _)=>True
 | some (.set _ _)=>True
 | some (.ins _ _ _)=>True
 | some (.ext _)=>True
 | _=>False
section
variable {P:Program}{w:World}{H:Hp}{h h':Heap}{x e:Addr}{o':HO}
theorem HOk.write(ok:HOk P w H h)(mu:Mut (H x))(he:e=x\/H e=some (.own x))(k:∀b u,b≠e->h.get? b=some u->h'.get? b=some u)(heo:∃u,h'.get? e=some u)
  (new:bc P w (upd H x o') h' x o'):HOk P w (upd H x o') h':=fun b u q=>by
 have nown:∀c y,H c=some (.own y)->c≠x:=fun c y r z=>by subst z;rw [r] at mu;exact mu
 have ntup:∀c xs,H c=some (.tup xs)->c≠x:=fun c xs r z=>by subst z;rw [r] at mu;exact mu
 by_cases hb:b=x
 .subst hb;rw [aF] at q;cases q;exact new
 .rw [ao hb] at q
  by_cases hbe:b=e
  .have q':H b=some (.own x):=by
    rcases he with z|z
    .exact absurd (hbe.trans z) hb
    .rw [hbe];exact z
   rw [q] at q';cases q';obtain⟨v,hv⟩:=heo;exact⟨v,by rw [hbe];exact hv⟩
  .refine (ok b u q).stay (fun c v hc r=>k c v ?_ r) (fun c r=>by rw [ao (nown c b r)];exact r) fun c xs r=>by rw [ao (ntup c xs r)];exact r
   rcases hc with rfl|hc
   .exact hbe
   .rintro rfl
    rcases he with z|z
    .exact nown c b hc z
    .rw [hc] at z;cases z;exact hb rfl
end
structure Un (fs ex:List Addr) (H H':Hp) (h h':Heap):Prop where
 keep:∀b o,h.get? b=some o->H b=none->b∉fs->b∉ex->h'.get? b=some o
 slot:∀b o,h.get? b=some o->H b=none->b∈fs->b∉ex->∃sl,h'.get? b=some { o with slots:=sl }
 free:∀b o,h.get? b=some o->H b=none->b∉ex->H' b=none
 there:∀b o,h.get? b=some o->b∉ex->∃o',h'.get? b=some o'
 tups:∀b xs,H b=some (.tup xs)->H' b=some (.tup xs)
 frzs:∀b o u,H b=some (.frz o u)->H' b=some (.frz o u)
 tbls:∀b ps,H b=some (.tbl ps)->∃more,H' b=some (.tbl (ps++more))
section
variable {fs fs' ex ex':List Addr}{H H1 H2:Hp}{h h1 h2 h':Heap}{a x e:Addr}{o:HO}
theorem Un.any(u:Un fs ex H H1 h h1){b:Addr}{ob:Obj}(q:h.get? b=some ob)(n:H b=none)(hx:b∉ex):∃sl,h1.get? b=some { ob with slots:=sl }:=by
 by_cases hb:b∈fs
 .exact u.slot b ob q n hb hx
 .exact⟨ob.slots,u.keep b ob q n hb hx⟩
theorem Un.kept(k:∀b u,h.get? b=some u->h'.get? b=some u):Un fs ex H H h h' :=
 ⟨fun b ob q _ _ _=>k b ob q,fun b ob q _ _ _=>⟨ob.slots,k b ob q⟩,fun _ _ _ n _=>n,fun b ob q _=>⟨ob,k b ob q⟩,fun _ _ q=>q,fun _ _ _ q=>q,fun _ ps q=>⟨#[],by rw [q];simp⟩⟩
theorem Un.refl:Un fs ex H H h h:=Un.kept fun _ _ q=>q
theorem Un.laid(k:∀b u,h.get? b=some u->h'.get? b=some u)(hp:h.objs.size<=a)(hn:H a=none):Un fs ex H (upd H a o) h h' where
 keep:=fun b u q _ _ _=>k b u q
 slot:=fun b u q _ _ _=>⟨u.slots,k b u q⟩
 free:=fun b u q n _=>by rw [ao (ne_of_lt (lt_of_lt_of_le (Heap.lt_size q) hp))];exact n
 there:=fun b u q _=>⟨u,k b u q⟩
 tups:=fun b xs q=>by rw [ao (aQ q hn)];exact q
 frzs:=fun b u xs q=>by rw [ao (aQ q hn)];exact q
 tbls:=fun b ps q=>⟨#[],by rw [ao (aQ q hn),q];simp⟩
theorem Un.write(mu:Mut (H x))(he:e=x\/H e=some (.own x))(k:∀b u,b≠e->h.get? b=some u->h'.get? b=some u)(heo:∃u,h'.get? e=some u):Un fs ex H (upd H x o) h h':=by
 have hx:∀b,H b=none->b≠x:=fun b n z=>by subst z;rw [n] at mu;exact mu
 have hb:∀b,H b=none->b≠e:=fun b n z=>by
  subst z
  rcases he with r|r
  .exact hx b n r
  .rw [n] at r;cases r
 have hm:∀b u,H b=some u->¬ Mut (some u)->b≠x:=fun b u q nm z=>by subst z;rw [q] at mu;exact nm mu
 refine⟨fun b u q n _ _=>k b u (hb b n) q,fun b u q n _ _=>⟨u.slots,k b u (hb b n) q⟩,fun b u q n _=>by rw [ao (hx b n)];exact n,fun b u q _=>?_,
  fun b xs q=>by rw [ao (hm b _ q fun z=>z)];exact q,fun b u xs q=>by rw [ao (hm b _ q fun z=>z)];exact q,fun b ps q=>⟨#[],by rw [ao (hm b _ q fun z=>z),q];simp⟩⟩
 by_cases hbe:b=e
 .subst hbe;exact heo
 .exact⟨u,k b u hbe q⟩
end
def trk(h:Heap)(H:Hp):List Addr:=(List.range h.objs.size).filter fun a=>(H a).isSome
def l4(h:Heap)(H:Hp):Heap:=PySem.W.hideAll h (trk h H)
theorem kq(h:Heap)(H:Hp):(l4 h H).objs.size=h.objs.size:=PySem.W.hideAll_size _ _
theorem l5{h:Heap}{H:Hp}{b:Addr}{o:Obj}(e:h.get? b=some o)(n:H b=none):(l4 h H).get? b=some o :=
 PySem.W.hideAll_get _ e fun hm=>by
  have q:(H b).isSome=true:=(mem_filter.mp hm).2;rw [n] at q;simp at q
theorem nQ{h:Heap}{H:Hp}{b:Addr}{o:Obj}(e:(l4 h H).get? b=some o):h.get? b=some o/\H b=none:=by
 have e':h.get? b=some o:=PySem.W.of_hideAll (trk h H) e;refine⟨e',?_⟩
 cases q:H b with
 | none=>rfl
 | some x =>
  have hm:b∈trk h H:=mem_filter.mpr ⟨mem_range.mpr (Heap.lt_size e'),by simp [q]⟩;have z:(l4 h H).get? b=none:=PySem.W.hideAll_none (trk h H) hm;rw [z] at e;cases e
structure Mod (K:PySem.W.Frag) (mg:Str->Option Value) (base:Heap):Prop where
 kin:K.In base
 glob:base.Ns mainGlobals mg
 blt:∃mb,base.Ns builtinsNs mb/\∀x:Str,x≠"__name__"->mb x=bootBuiltins x
 nolimit:base.NoLimit
structure Cx where
 prog:Program
 w:World
 K:PySem.W.Frag
 mg:Str->Option Value
 base:Heap
 A:Around
 N:List Str
 s₀:Shared
 H₀:Hp
 env:Env
 outer:List Env
 stack:List Env
 ex:List Addr
 fn:Str->Bool
 calm:Bool
 pn:List (Addr×Obj)
 xe:Value->Shared->Prop
def frs(l:List Env):List Addr:=l.filterMap (·.frame)
abbrev Cx.fs(X:Cx):List Addr:=frs X.outer
def Vis(sc:Scope)(x:Str):Prop:=sc.names.lookup x=some .local\/sc.names.lookup x=some .cell\/sc.names.lookup x=some .free
def Loc(sc:Scope)(x:Str):Prop:=sc.names.lookup x=some .local\/sc.names.lookup x=some .cell
def uO(env:Env)(h:Heap)(m:Str->Option Value)(x:Str)(u:Value):Prop :=
 (env.kindOf x=some .local/\m x=some u)\/((env.kindOf x=some .cell\/env.kindOf x=some .free)/\∃c,env.cells.lookup x=some c/\h.IsCell c (some u))
structure Cx.Ok (X:Cx):Prop where
 mod:Mod X.K X.mg X.base
 kind:X.env.scope.kind=.function
 glob:X.env.globals=mainGlobals
 blt:X.env.builtins=builtinsNs
 above:X.s₀.heap.objs.size<=X.env.locals
 inj:∀x y c,X.env.cells.lookup x=some c->X.env.cells.lookup y=some c->x=y
 has:∀x,(X.env.kindOf x=some .cell\/X.env.kindOf x=some .free)->∃c,X.env.cells.lookup x=some c
 cab:∀x c,X.fn x=true->X.env.cells.lookup x=some c->X.s₀.heap.objs.size<=c
 hd:X.calm=true->X.A.handled=none
 frames:X.A.frames=some X.stack
 stk:X.stack=X.outer\/(X.stack=X.env::X.outer/\X.env.frame=some X.env.locals)
 exf:∀b∈X.ex,b≠X.env.locals/\∀x c,X.env.cells.lookup x=some c->c≠b
 bs:∀b o,X.base.get? b=some o->X.s₀.heap.get? b=some o/\X.H₀ b=none
 bsz:X.base.objs.size<=X.s₀.heap.objs.size
 noex:∀b o,X.base.get? b=some o->b∉X.ex
 exfs:∀b∈X.ex,b∉X.fs
 funs:X.s₀.heap.FunFrames X.base X.outer
 frf:∀b∈X.fs,X.H₀ b=none
structure Inv (X:Cx) (pins:List (Addr×Obj)) (σ:List (Option V)) (H:Hp) (s:Shared):Prop where
 ok:X.Ok
 os:s.os=X.s₀.os
 bare:AllBare s.gens
 base:Un X.fs X.ex X.H₀ H X.s₀.heap s.heap
 loc:∃m,s.heap.Ns X.env.locals m/\∀(i:Nat) (x:Str) (v:V),X.N[i]?=some x->σ[i]?=some (some v)->Vis X.env.scope x->∃u,ck v u/\uO X.env s.heap m x u
 cell:∀x c,X.env.cells.lookup x=some c->∃v,s.heap.IsCell c v
 free:H X.env.locals=none
 freeC:∀x c,X.env.cells.lookup x=some c->H c=none
 pin:∀p∈X.pn++pins,s.heap.get? p.1=some p.2/\H p.1=none/\p.1≠X.env.locals/\p.1∉X.fs/\∀v,p.2.data≠.cell v
 hok:HOk X.prog X.w H s.heap
 len:σ.length=X.N.length
section
variable {X:Cx}{pins:List (Addr×Obj)}{σ:List (Option V)}{H H':Hp}{s:Shared}{h':Heap}
theorem Cx.Ok.nofr(ok:X.Ok){b:Addr}{o:Obj}(e:X.base.get? b=some o):b∉X.fs:=fun hb=>by
 have:=(ok.funs.mem hb).1;rw [e] at this;cases this
theorem Inv.bs(I:Inv X pins σ H s):∀b o,X.base.get? b=some o->s.heap.get? b=some o/\H b=none:=fun b o e =>
 ⟨I.base.keep b o (I.ok.bs b o e).1 (I.ok.bs b o e).2 (I.ok.nofr e) (I.ok.noex b o e),I.base.free b o (I.ok.bs b o e).1 (I.ok.bs b o e).2 (I.ok.noex b o e)⟩
theorem Inv.bk(I:Inv X pins σ H s):∀b o,X.base.get? b=some o->s.heap.get? b=some o:=fun b o e=>(I.bs b o e).1
theorem Inv.mod(I:Inv X pins σ H s):Mod X.K X.mg X.base:=I.ok.mod
theorem Inv.kIn(I:Inv X pins σ H s):X.K.In s.heap:=I.ok.mod.kin.keeps I.bk
theorem Inv.lt(I:Inv X pins σ H s):X.env.locals<s.heap.objs.size:=let ⟨_,hn,_⟩:=I.loc;hn.lt
theorem Inv.sz(I:Inv X pins σ H s):X.s₀.heap.objs.size<=s.heap.objs.size:=le_trans I.ok.above (le_of_lt I.lt)
theorem Inv.nofs(I:Inv X pins σ H s){a:Addr}(h:s.heap.objs.size<=a):a∉X.fs:=fun hb=>by
 obtain⟨_,o,ho,_⟩:=I.ok.funs.mem hb;exact absurd (lt_of_lt_of_le (Heap.lt_size ho) (le_trans I.sz h)) (lt_irrefl _)
theorem Inv.cne(I:Inv X pins σ H s):∀x c,X.env.cells.lookup x=some c->c≠X.env.locals:=fun x c e z=>by
 obtain⟨v,o,ho,hd⟩:=I.cell x c e;obtain⟨m,⟨o',es,ep,ho',hd',_⟩,_⟩:=I.loc;rw [z,ho'] at ho;cases ho;rw [hd'] at hd;cases hd
theorem Inv.funs(I:Inv X pins σ H s):s.heap.FunFrames X.base X.outer:=by
 have all:∀(l:List Env),(∀b∈frs l,b∈X.fs)->X.s₀.heap.FunFrames X.base l->s.heap.FunFrames X.base l:=by
  intro l
  induction l with
  | nil=>intro _ _;trivial
  | cons env r ih =>
   intro hs hl;obtain⟨hk,⟨L,o,hf,hn,ho,hd⟩,hr⟩:=hl;have hL:L∈X.fs:=hs L (by unfold frs;rw [filterMap_cons,hf];exact mem_cons_self);obtain⟨sl,e⟩:=I.base.slot L o ho (I.ok.frf L hL) hL fun z=>I.ok.exfs L z hL;exact⟨hk,⟨L,_,hf,hn,e,hd⟩,ih (fun b hb=>hs b (by unfold frs;rw [filterMap_cons,hf];exact mem_cons_of_mem _ hb)) hr⟩
 exact all X.outer (fun _ hb=>hb) I.ok.funs
theorem Inv.stack(I:Inv X pins σ H s):s.heap.FunFrames X.base X.stack:=by
 rcases I.ok.stk with e|⟨e,hf⟩
 .rw [e];exact I.funs
 .rw [e];obtain⟨m,hn,_⟩:=I.loc;refine .cons (by rw [I.ok.kind];decide) hf hn ?_ I.funs;exact Heap.get?_none_of_le (le_trans I.ok.bsz I.ok.above)
theorem Inv.stkSub(I:Inv X pins σ H s):∀b∈frs X.stack,b∈X.env.locals::X.fs:=fun b hb=>by
 rcases I.ok.stk with e|⟨e,hf⟩
 .rw [e] at hb;exact mem_cons_of_mem _ hb
 .rw [e] at hb;unfold frs at hb;rw [filterMap_cons,hf] at hb;exact hb
theorem Inv.stkFree(I:Inv X pins σ H s):∀b∈frs X.stack,H b=none:=fun b hb=>by
 rcases mem_cons.mp (I.stkSub b hb) with e|hb
 .rw [e];exact I.free
 .obtain⟨_,o,ho,_⟩:=I.ok.funs.mem hb;exact I.base.free b o ho (I.ok.frf b hb) fun z=>I.ok.exfs b z hb
theorem Inv.step{g':Array GenState}{t':Nat}{d':Drawn}{ch:List Addr}(I:Inv X pins σ H s)
  (hch:∀b∈ch,(b∈X.ex\/X.s₀.heap.objs.size<=b)/\b≠X.env.locals/\(∀x c,X.env.cells.lookup x=some c->c≠b)/\∀p∈X.pn++pins,p.1≠b)
  (keep:∀b o,b≠X.env.locals->b∉X.fs->b∉ch->s.heap.get? b=some o->H b=none->h'.get? b=some o)
  (slot:∀b o,b≠X.env.locals->b∈X.fs->b∉ch->s.heap.get? b=some o->H b=none->∃sl,h'.get? b=some { o with slots:=sl }) (free:∀b o,b∉ch->s.heap.get? b=some o->H b=none->H' b=none)
  (there:∀b o,b∉ch->s.heap.get? b=some o->∃o',h'.get? b=some o')
  (tups:∀b xs,H b=some (.tup xs)->H' b=some (.tup xs)) (frzs:∀b o u,H b=some (.frz o u)->H' b=some (.frz o u)) (tbls:∀b ps,H b=some (.tbl ps)->∃more,H' b=some (.tbl (ps++more)))
  (ns:∀m,s.heap.Ns X.env.locals m->h'.Ns X.env.locals m) (hok:HOk X.prog X.w H' h') (hg:AllBare g') :
  Inv X pins σ H' { s with heap:=h',gens:=g',drawn:=d',toks:=t' }:=by
 have neL:∀b o,X.s₀.heap.get? b=some o->b≠X.env.locals:=fun b o e=>ne_of_lt (lt_of_lt_of_le (Heap.lt_size e) I.ok.above)
 have neC:∀b o,X.s₀.heap.get? b=some o->b∉X.ex->b∉ch:=fun b o e hx hb=>by
  rcases (hch b hb).1 with z|z
  .exact hx z
  .exact absurd (lt_of_lt_of_le (Heap.lt_size e) z) (lt_irrefl _)
 have cellK:∀x c,X.env.cells.lookup x=some c->∀v,s.heap.IsCell c v->h'.IsCell c v:=fun x c e v ⟨o,ho,hd⟩=>by
  have nch:c∉ch:=fun z=>(hch c z).2.2.1 x c e rfl
  by_cases hc:c∈X.fs
  .obtain⟨sl,q⟩:=slot c o (I.cne x c e) hc nch ho (I.freeC x c e);exact⟨_,q,hd⟩
  .exact⟨o,keep c o (I.cne x c e) hc nch ho (I.freeC x c e),hd⟩
 refine⟨I.ok,I.os,hg,⟨fun b o e n hb hx=>?_,fun b o e n hb hx=>?_,fun b o e n hx=>?_,fun b o e hx=>?_,fun b xs e=>tups b xs (I.base.tups b xs e),fun b o xs e=>frzs b o xs (I.base.frzs b o xs e),fun b ps e=>?_⟩,?_,fun x c e=>?_,?_,fun x c e=>?_,fun p hp=>?_,hok,I.len⟩
 .exact keep b o (neL b o e) hb (neC b o e hx) (I.base.keep b o e n hb hx) (I.base.free b o e n hx)
 .obtain⟨sl,e1⟩:=I.base.slot b o e n hb hx;obtain⟨sl',e2⟩:=slot b _ (neL b o e) hb (neC b o e hx) e1 (I.base.free b o e n hx);exact⟨sl',e2⟩
 .obtain⟨o',e1⟩:=I.base.there b o e hx;exact free b o' (neC b o e hx) e1 (I.base.free b o e n hx)
 .obtain⟨o',e1⟩:=I.base.there b o e hx;exact there b o' (neC b o e hx) e1
 .obtain⟨m1,e1⟩:=I.base.tbls b ps e;obtain⟨m2,e2⟩:=tbls b _ e1;exact⟨m1++m2,by rw [e2,Array.append_assoc]⟩
 .obtain⟨m,hn,hl⟩:=I.loc;refine⟨m,ns m hn,fun i x v e1 e2 e3=>?_⟩;obtain⟨u,r,l⟩:=hl i x v e1 e2 e3;refine⟨u,r,?_⟩
  rcases l with l|⟨k,c,e,z⟩
  .exact .inl l
  .exact .inr ⟨k,c,e,cellK x c e _ z⟩
 .obtain⟨v,z⟩:=I.cell x c e;exact⟨v,cellK x c e v z⟩
 .obtain⟨m,⟨o,_,_,ho,_⟩,_⟩:=I.loc;exact free _ o (fun z=>(hch _ z).2.1 rfl) ho I.free
 .obtain⟨v,o,ho,hd⟩:=I.cell x c e;exact free c o (fun z=>(hch c z).2.2.1 x c e rfl) ho (I.freeC x c e)
 .obtain⟨e,n,ne,nf,d⟩:=I.pin p hp;have nch:p.1∉ch:=fun z=>(hch p.1 z).2.2.2 p hp rfl;exact⟨keep p.1 p.2 ne nf nch e n,free p.1 p.2 nch e n,ne,nf,d⟩
theorem Inv.un{t':Nat}(I:Inv X pins σ H s)(u:Un X.fs [] H H' s.heap h')(hok:HOk X.prog X.w H' h'):Inv X pins σ H' { s with heap:=h',toks:=t' }:=by
 obtain⟨m,⟨o,es,ep,ho,r⟩,_⟩:=id I.loc;obtain⟨sl,hL⟩:=u.any ho I.free (by simp)
 exact I.step (g':=s.gens) (d':=s.drawn) (ch:=[]) (fun _ z=>nomatch z) (fun b o _ hb _ e n=>u.keep b o e n hb (by simp)) (fun b o _ hb _ e n=>u.slot b o e n hb (by simp)) (fun b o _ e n=>u.free b o e n (by simp)) (fun b o _ e=>u.there b o e (by simp)) u.tups u.frzs u.tbls (fun m' hm=>by
  obtain⟨o',es',ep',ho',r'⟩:=hm;rw [ho] at ho';cases ho';exact⟨_,es',ep',hL,r'⟩) hok I.bare
theorem Inv.call{g':Array GenState}{t':Nat}{d':Drawn}{ch:List Addr}(I:Inv X pins σ H s)(u:Un (frs X.stack) ch H H' s.heap h')(hok:HOk X.prog X.w H' h')(hg:AllBare g')
  (hch:∀b∈ch,(b∈X.ex\/X.s₀.heap.objs.size<=b)/\b≠X.env.locals/\(∀x c,X.env.cells.lookup x=some c->c≠b)/\∀p∈X.pn++pins,p.1≠b) :
  Inv X pins σ H' { s with heap:=h',gens:=g',drawn:=d',toks:=t' }:=by
 obtain⟨m,⟨o,es,ep,ho,r⟩,_⟩:=id I.loc;obtain⟨sl,hL⟩:=u.any ho I.free fun z=>(hch _ z).2.1 rfl
 exact I.step (ch:=ch) hch (fun b o hL hb hc e n=>u.keep b o e n (fun z=>(mem_cons.mp (I.stkSub b z)).elim hL hb) hc) (fun b o _ _ hc e n=>u.any e n hc) (fun b o hc e n=>u.free b o e n hc) (fun b o hc e=>u.there b o e hc) u.tups u.frzs u.tbls (fun m' hm=>by
  obtain⟨o',es',ep',ho',r'⟩:=hm;rw [ho] at ho';cases ho';exact⟨_,es',ep',hL,r'⟩) hok hg
theorem Inv.turned{t':Nat}{it:Addr}(I:Inv X pins σ H s)(k:∀b o,b≠it->s.heap.get? b=some o->h'.get? b=some o)(hn:H it=none)(hL:it≠X.env.locals)
  (h1:it∈X.ex\/X.s₀.heap.objs.size<=it) (h2:∀x c,X.env.cells.lookup x=some c->c≠it) (h3:∀p∈X.pn++pins,p.1≠it):Inv X pins σ H { s with heap:=h',toks:=t' }:=by
 have nit:∀b u,H b=some u->b≠it:=fun b u e z=>by rw [z,hn] at e;cases e
 refine I.step (g':=s.gens) (d':=s.drawn) (ch:=[it]) (fun b hb=>?_) (fun b o _ _ hc e _=>k b o (fun z=>hc (by simp [z])) e) (fun b o _ _ hc e _=>⟨o.slots,k b o (fun z=>hc (by simp [z])) e⟩) (fun _ _ _ _ n=>n)
  (fun b o hc e=>⟨o,k b o (fun z=>hc (by simp [z])) e⟩) (fun _ _ e=>e) (fun _ _ _ e=>e) (fun b ps e=>⟨#[],by rw [e];simp⟩) (fun m hm=>?_) (fun b u e=>?_) I.bare
 .have e:b=it:=by simpa using hb
  subst e;exact⟨h1,hL,h2,h3⟩
 .obtain⟨o,es,ep,ho,r⟩:=hm;exact⟨o,es,ep,k _ o (Ne.symm hL) ho,r⟩
 .refine (I.hok b u e).stay (fun c v hc q=>k c v ?_ q) (fun _ q=>q) fun _ _ q=>q
  rcases hc with z|z
  .rw [z];exact nit b u e
  .exact nit c _ z
theorem Inv.tok(I:Inv X pins σ H s)(t:Nat):Inv X pins σ H { s with toks:=t }:=I.un (h':=s.heap) (t':=t) Un.refl I.hok
theorem Inv.kept{t':Nat}(I:Inv X pins σ H s)(k:∀b u,s.heap.get? b=some u->h'.get? b=some u):Inv X pins σ H { s with heap:=h',toks:=t' }:=I.un (Un.kept k) (I.hok.kept k)
theorem Inv.laid{a:Addr}{o:HO}{t':Nat}(I:Inv X pins σ H s)(k:∀b u,s.heap.get? b=some u->h'.get? b=some u)(hp:s.heap.objs.size<=a)(new:bc X.prog X.w (upd H a o) h' a o) :
  Inv X pins σ (upd H a o) { s with heap:=h',toks:=t' }:=I.un (Un.laid k hp (I.hok.fresh hp)) (I.hok.laid k hp new)
theorem Inv.write{x e:Addr}{o:HO}{t':Nat}(I:Inv X pins σ H s)(mu:Mut (H x))(he:e=x\/H e=some (.own x))(k:∀b u,b≠e->s.heap.get? b=some u->h'.get? b=some u)(heo:∃u,h'.get? e=some u)
  (new:bc X.prog X.w (upd H x o) h' x o):Inv X pins σ (upd H x o) { s with heap:=h',toks:=t' }:=I.un (Un.write mu he k heo) (I.hok.write mu he k heo new)
theorem Inv.pins_of{pins':List (Addr×Obj)}(I:Inv X pins σ H s)(h:∀p∈pins',s.heap.get? p.1=some p.2/\H p.1=none/\p.1≠X.env.locals/\p.1∉X.fs/\∀v,p.2.data≠.cell v):Inv X pins' σ H s :=
 ⟨I.ok,I.os,I.bare,I.base,I.loc,I.cell,I.free,I.freeC,fun p hp=>(mem_append.mp hp).elim (fun z=>I.pin p (mem_append_left _ z)) (h p),I.hok,I.len⟩
theorem gA{N:List Str}(hN:N.Nodup){i j:Nat}{x:Str}(a:N[i]?=some x)(b:N[j]?=some x):i=j:=by
 obtain⟨h1,e1⟩:=List.getElem?_eq_some_iff.mp a;obtain⟨h2,e2⟩:=List.getElem?_eq_some_iff.mp b;exact (getElem_inj hN).mp (e1.trans e2.symm)
theorem kr{M:Model}{A:Around}{E:Value->Shared->Prop}{i:Nat}{x:Str}{v:V}{u:Value}{Q:Unit->Shared->Prop}(I:Inv X pins σ H s)(hN:X.N.Nodup)(hi:X.N[i]?=some x)(hx:Loc X.env.scope x)(r:ck v u)
  (h:∀s',Inv X pins (σ.set i (some v)) H s'->(∃a,Heap.SameBut a s.heap s'.heap/\(a=X.env.locals\/X.env.cells.lookup x=some a))->Q () s') (hf:X.fn x=true\/X.env.scope.names.lookup x=some .local:=by first|exact .inl rfl|exact .inr rfl|assumption):wpAny M A (storeName X.env x u) Q E s:=by
 obtain⟨m,hn,hl⟩:=id I.loc;have hcls:(X.env.scope.kind == .class || (X.env.scope.kind == .module && X.env.locals != X.env.globals))=false:=by rw [I.ok.kind];rfl
 have hiσ:i<σ.length:=by rw [I.len];exact (List.getElem?_eq_some_iff.mp hi).1
 have cne:=I.cne
 have tracked:∀{a:Addr}{h':Heap},(∃o,s.heap.get? a=some o/\H a=none)->Heap.SameBut a s.heap h'->HOk X.prog X.w H h':=fun {a h'} ha hs b ob e=>by
  obtain⟨_,_,hfree⟩:=ha;refine (I.hok b ob e).stay (fun c w' hc q=>(hs.2 c ?_).trans q) (fun _ q=>q) fun _ _ q=>q;rintro rfl
  rcases hc with rfl|hc
  .rw [hfree] at e;cases e
  .rw [hfree] at hc;cases hc
 rcases hx with hk|hk
 .refine wpAny_storeName_local hk hn (fun h' hn' hs=>?_) hcls;obtain⟨oL,_,_,hoL,_⟩:=id hn
  refine h _ ⟨I.ok,I.os,I.bare,⟨fun b o e n hb hx=>?_,fun b o e n hb hx=>?_,I.base.free,fun b o e hx=>?_,I.base.tups,I.base.frzs,I.base.tbls⟩,⟨_,hn',fun j y v' e1 e2 e3=>?_⟩,fun y c e=>?_,I.free,I.freeC,fun p hp=>?_,tracked ⟨oL,hoL,I.free⟩ hs,by simpa using I.len⟩ ⟨_,hs,.inl rfl⟩
  .exact (hs.2 b (ne_of_lt (lt_of_lt_of_le (Heap.lt_size e) I.ok.above))).trans (I.base.keep b o e n hb hx)
  .obtain⟨sl,e1⟩:=I.base.slot b o e n hb hx;exact⟨sl,(hs.2 b (ne_of_lt (lt_of_lt_of_le (Heap.lt_size e) I.ok.above))).trans e1⟩
  .obtain⟨o',e1⟩:=I.base.there b o e hx;exact⟨o',(hs.2 b (ne_of_lt (lt_of_lt_of_le (Heap.lt_size e) I.ok.above))).trans e1⟩
  .by_cases hj:j=i
   .subst hj;rw [hi] at e1;cases e1;rw [getElem?_set_self hiσ] at e2;cases e2;exact⟨u,r,.inl ⟨hk,by simp⟩⟩
   .rw [getElem?_set_ne (Ne.symm hj)] at e2;obtain⟨u',r',q⟩:=hl j y v' e1 e2 e3;refine⟨u',r',?_⟩
    rcases q with ⟨k,e⟩|⟨k,c,e,z⟩
    .refine .inl ⟨k,?_⟩;have:y≠x:=fun e=>hj (gA hN e1 (e ▸ hi));simp [this,e]
    .exact .inr ⟨k,c,e,z.sameBut hs (cne y c e)⟩
  .obtain⟨w',z⟩:=I.cell y c e;exact⟨w',z.sameBut hs (cne y c e)⟩
  .obtain⟨e,n,ne,nf,d⟩:=I.pin p hp;exact⟨(hs.2 p.1 ne).trans e,n,ne,nf,d⟩
 .have hfn:X.fn x=true:=by
   rcases hf with z|z
   .exact z
   .rw [z] at hk;cases hk
  obtain⟨c,hc⟩:=I.ok.has x (.inl hk);obtain⟨w',z⟩:=I.cell x c hc;refine wpAny_storeName_cell I.ok.kind hk hc z (fun h' hc' hs=>?_);obtain⟨oc,hoc,hocd⟩:=id z
  refine h { s with heap:=h' } ⟨I.ok,I.os,I.bare,⟨fun b o e n hb hx=>?_,fun b o e n hb hx=>?_,I.base.free,fun b o e hx=>?_,I.base.tups,I.base.frzs,I.base.tbls⟩,⟨m,hn.sameBut hs (Ne.symm (cne x c hc)),fun j y v' e1 e2 e3=>?_⟩,fun y c' e=>?_,I.free,I.freeC,fun p hp=>?_,tracked ⟨oc,hoc,I.freeC x c hc⟩ hs,by simpa using I.len⟩ ⟨c,hs,.inr hc⟩
  .exact (hs.2 b (ne_of_lt (lt_of_lt_of_le (Heap.lt_size e) (I.ok.cab x c hfn hc)))).trans (I.base.keep b o e n hb hx)
  .obtain⟨sl,e1⟩:=I.base.slot b o e n hb hx;exact⟨sl,(hs.2 b (ne_of_lt (lt_of_lt_of_le (Heap.lt_size e) (I.ok.cab x c hfn hc)))).trans e1⟩
  .obtain⟨o',e1⟩:=I.base.there b o e hx;exact⟨o',(hs.2 b (ne_of_lt (lt_of_lt_of_le (Heap.lt_size e) (I.ok.cab x c hfn hc)))).trans e1⟩
  .by_cases hj:j=i
   .subst hj;rw [hi] at e1;cases e1;rw [getElem?_set_self hiσ] at e2;cases e2;exact⟨u,r,.inr ⟨.inl hk,c,hc,hc'⟩⟩
   .rw [getElem?_set_ne (Ne.symm hj)] at e2;obtain⟨u',r',q⟩:=hl j y v' e1 e2 e3;refine⟨u',r',?_⟩
    rcases q with q|⟨k,c',e,z'⟩
    .exact .inl q
    .refine .inr ⟨k,c',e,z'.sameBut hs ?_⟩;rintro rfl;exact hj (gA hN e1 (I.ok.inj _ _ _ e hc ▸ hi))
  .by_cases hcc:c'=c
   .subst hcc;exact⟨_,hc'⟩
   .obtain⟨w2,z2⟩:=I.cell y c' e;exact⟨w2,z2.sameBut hs hcc⟩
  .obtain⟨e,n,ne,nf,d⟩:=I.pin p hp;refine⟨(hs.2 p.1 ?_).trans e,n,ne,nf,d⟩;intro q;rw [q,hoc] at e;have q':oc=p.2:=Option.some.inj e;exact d w' (by rw [<- q'];exact hocd)
theorem fc{M:Model}{A:Around}{E:Value->Shared->Prop}{i:Nat}{x:Str}{v:V}{u:Value}{Q:Unit->Shared->Prop}(I:Inv X pins σ H s)(hN:X.N.Nodup)(hi:X.N[i]?=some x)(hx:Loc X.env.scope x)(r:ck v u)
  (h:∀s',Inv X pins (σ.set i (some v)) H s'->Q () s') (hf:X.fn x=true\/X.env.scope.names.lookup x=some .local:=by first|exact .inl rfl|exact .inr rfl|assumption):wpAny M A (storeName X.env x u) Q E s :=
 kr I hN hi hx r (fun s' I' _=>h s' I') hf
theorem Inv.call'{s':Shared}{ch:List Addr}(I:Inv X pins σ H s)(ho:s'.os=s.os)(u:Un (frs X.stack) ch H H' s.heap s'.heap)(hok:HOk X.prog X.w H' s'.heap)(hg:AllBare s'.gens)
  (hch:∀b∈ch,(b∈X.ex\/X.s₀.heap.objs.size<=b)/\b≠X.env.locals/\(∀x c,X.env.cells.lookup x=some c->c≠b)/\∀p∈X.pn++pins,p.1≠b):Inv X pins σ H' s':=by
 obtain⟨h',g',d',t',o'⟩:=s';have e:o'=s.os:=ho;subst e;exact I.call (g':=g') (t':=t') (d':=d') u hok hg hch
end
abbrev XK:=Value->Option Addr->Hp->Prop
abbrev St:=List (Option V)
abbrev VK:=V->Hp->Prop
abbrev TE:=St->Hp->VK->Prop
abbrev TT:=St->Hp->(Bool->Hp->Prop)->Prop
abbrev TA:=St->Hp->(List V->Hp->Prop)->Prop
structure lU where
 nx:St->Hp->Prop
 rt:VK
 bk:St->Hp->Prop:=fun _ _=>False
 ct:St->Hp->Prop:=fun _ _=>False
abbrev TS:=lU->St->Hp->Prop
def EP(X:Cx)(pins:List (Addr×Obj))(σ:St)(Q:VK)(u:Value)(s':Shared):Prop:=∃v H',Inv X pins σ H' s'/\ck v u/\Q v H'
def TP(X:Cx)(pins:List (Addr×Obj))(σ:St)(Q:Bool->Hp->Prop)(b:Bool)(s':Shared):Prop:=∃H',Inv X pins σ H' s'/\Q b H'
def AP(X:Cx)(pins:List (Addr×Obj))(σ:St)(Q:List V->Hp->Prop)(us:List Value)(s':Shared):Prop:=∃vs H',Inv X pins σ H' s'/\bo vs us/\Q vs H'
def SP(X:Cx)(pins:List (Addr×Obj))(D:lU)(f:Flow)(s':Shared):Prop :=
 match f with
 | .next=>∃σ' H',Inv X pins σ' H' s'/\D.nx σ' H'
 | .brk=>∃σ' H',Inv X pins σ' H' s'/\D.bk σ' H'
 | .cont=>∃σ' H',Inv X pins σ' H' s'/\D.ct σ' H'
 | .ret u=>∃v σ' H',Inv X pins σ' H' s'/\ck v u/\D.rt v H'
def PE(X:Cx)(e:Expr)(t:TE):Prop :=
 ∀(pins:List (Addr×Obj)) (s:Shared) (σ:St) (H:Hp) (Q:VK),Inv X pins σ H s->t σ H Q->wpAny (model X.prog X.w) X.A (eval e X.env) (EP X pins σ Q) X.xe s
def PT(X:Cx)(e:Expr)(t:TT):Prop :=
 ∀(pins:List (Addr×Obj)) (s:Shared) (σ:St) (H:Hp) (Q:Bool->Hp->Prop),Inv X pins σ H s->t σ H Q->wpAny (model X.prog X.w) X.A (isTrue e X.env (eval e X.env)) (TP X pins σ Q) X.xe s
def PW(X:Cx)(e:Expr)(t:TT):Prop :=
 ∀(whole:Sem Value) (pins:List (Addr×Obj)) (s:Shared) (σ:St) (H:Hp) (Q:Bool->Hp->Prop),Inv X pins σ H s->t σ H Q->wpAny (model X.prog X.w) X.A (isTrue e X.env whole) (TP X pins σ Q) X.xe s
theorem PW.pt{X:Cx}{e:Expr}{t:TT}(h:PW X e t):PT X e t:=h _
def PA(X:Cx)(es:List Expr)(t:TA):Prop :=
 ∀(pos:Pos) (pins:List (Addr×Obj)) (s:Shared) (σ:St) (H:Hp) (Q:List V->Hp->Prop),Inv X pins σ H s->t σ H Q->wpAny (model X.prog X.w) X.A (spliced (backTo pos (starEach es X.env))) (AP X pins σ Q) X.xe s
def PS(X:Cx)(st:Stmt)(t:TS):Prop :=
 ∀(pins:List (Addr×Obj)) (s:Shared) (σ:St) (H:Hp) (D:lU),Inv X pins σ H s->t D σ H->wpAny (model X.prog X.w) X.A (exec st X.env) (SP X pins D) X.xe s
def PSs(X:Cx)(st:List Stmt)(t:TS):Prop :=
 ∀(pins:List (Addr×Obj)) (s:Shared) (σ:St) (H:Hp) (D:lU),Inv X pins σ H s->t D σ H->wpAny (model X.prog X.w) X.A (execs st X.env) (SP X pins D) X.xe s
theorem thn{α:Type}{t:Sem α}{Q Q':α->Shared->Prop}{M:Model}{A:Around}{E:Value->Shared->Prop}{s:Shared}(h:wpAny M A t Q E s)(hQ:∀a s,Q a s->Q' a s):wpAny M A t Q' E s:=wpAny_mono h hQ fun _ _ x=>x
section
variable {X:Cx}
def j0(i:Nat):TE:=fun σ H Q=>∃v,σ[i]?=some (some v)/\Q v H
def tC(v:V):TE:=fun _ H Q=>Q v H
theorem ql{i:Nat}{x:Str}{pos:Pos}(hN:X.N[i]?=some x)(hv:Vis X.env.scope x)(hd:(x == ("__debug__":Str))=false:=by decide)(hcd:(x == ("__classdict__":Str))=false:=by decide):PE X (.Name x pos) (j0 i):=by
 intro pins s σ H Q I h;obtain⟨v,e,h⟩:=h;obtain⟨m,hn,hl⟩:=I.loc;obtain⟨u,r,l⟩:=hl i x v hN e hv;have fin:EP X pins σ Q u s:=⟨v,H,I,r,h⟩
 rcases l with ⟨hk,hm⟩|⟨hk,c,hc,hcell⟩
 .exact wpAny_Name (wpAny_loadName_local I.ok.kind hk hn hm fin) hd
 .rcases hk with hk|hk
  .exact wpAny_Name (wpAny_loadName_cell I.ok.kind hk hc hcell fin) hd
  .exact wpAny_Name (wpAny_loadName_free I.ok.kind hk hc hcell fin hcd) hd
theorem am{i j pos}:PE X (.Constant (.int i) j pos) (tC (.int i)):=fun _ _ _ H _ I h=>wpAny_Constant_int ⟨.int i,H,I.tok _,⟨_,rfl⟩,h⟩
theorem hZ{b j pos}:PE X (.Constant (.bool b) j pos) (tC (.bl b)):=fun _ _ _ H _ I h=>Constant_bool ⟨.bl b,H,I,rfl,h⟩
theorem qm{x j pos}:PE X (.Constant (.str x) j pos) (tC (.str x)):=fun _ _ _ H _ I h=>Calls.Constant_str ⟨.str x,H,I.tok _,⟨_,rfl⟩,h⟩
def Gl(X:Cx)(x:Str):Prop:=X.env.kindOf x=some .globalImplicit
theorem ey{E:Value->Shared->Prop}{pins:List (Addr×Obj)}{s:Shared}{σ:St}{H:Hp}{x:Str}{u:Value}{pos:Pos}{Q:Value->Shared->Prop}(I:Inv X pins σ H s)(hg:Gl X x)(hm:X.mg x=some u)(h:Q u s)
  (hd:(x == ("__debug__":Str))=false:=by decide):wpAny (model X.prog X.w) X.A (eval (.Name x pos) X.env) Q E s :=
 Calls.Name_function_global I.ok.kind hg (Calls.loadGlobal_global (by rw [I.ok.glob];exact I.mod.glob.keeps I.bk) hm h) hd
theorem eM{E:Value->Shared->Prop}{pins:List (Addr×Obj)}{s:Shared}{σ:St}{H:Hp}{x:Str}{u:Value}{pos:Pos}{Q:Value->Shared->Prop}(I:Inv X pins σ H s)(hg:Gl X x)(hm:X.mg x=none)(hv:bootBuiltins x=some u)(h:Q u s)
  (hn:x≠"__name__":=by decide) (hd:(x == ("__debug__":Str))=false:=by decide):wpAny (model X.prog X.w) X.A (eval (.Name x pos) X.env) Q E s:=by
 obtain⟨mb,h1,h2⟩:=I.mod.blt;exact Calls.Name_function_global I.ok.kind hg (Calls.loadGlobal_builtin (by rw [I.ok.glob];exact I.mod.glob.keeps I.bk) hm (by rw [I.ok.blt];exact h1.keeps I.bk) ((h2 x hn).trans hv) h) hd
theorem gB{x:Str}{v:V}{u:Value}{pos:Pos}(hg:Gl X x)(hm:X.mg x=none)(hv:bootBuiltins x=some u)(r:ck v u)(hn:x≠"__name__":=by decide)(hd:(x == ("__debug__":Str))=false:=by decide):PE X (.Name x pos) (tC v) :=
 fun _ _ _ H _ I h=>eM I hg hm hv ⟨v,H,I,r,h⟩ hn hd
variable {a b:Expr}{ta tb:TE}{pos:Pos}
def tB(t:TE):TT:=fun σ H Q=>t σ H fun x H1=>∃c,x=.bl c/\Q c H1
theorem qo{e:Expr}{t:TE}(h:PE X e t)(he:∀whole,isTrue e X.env whole=(do let v <- whole;standAt e.pos;holding [v] (truthy v)):=by intro _;rfl):PT X e (tB t):=by
 intro pins s σ H Q I hw;refine isTrue_plain (thn (h pins s σ H _ I hw) fun v s1 ⟨x,H1,I1,r1,q1⟩=>?_) (he _);obtain⟨d,rfl,q⟩:=q1;cases r1;exact wpAny_truthy_bool ⟨H1,I1,q⟩
variable {tA tB':TT}{rest:List Expr}
def ue(t u:TT):TT:=fun σ H Q=>t σ H fun c H1=>if c=true then u σ H1 Q else Q false H1
def tOr(t u:TT):TT:=fun σ H Q=>t σ H fun c H1=>if c=true then Q true H1 else u σ H1 Q
def uf(t:TT):TT:=fun σ H Q=>t σ H fun c H1=>Q (!c) H1
theorem iT(ha:PT X a tA):PW X (.BoolOp .And [a] pos) tA:=by
 intro wh pins s σ H Q I h;refine isTrue_and (thn (ha pins s σ H Q I h) fun c s1 e=>?_)
 cases c with
 | true=>exact isTrue_and_nil e
 | false=>exact e
theorem jv(ha:PT X a tA):PW X (.BoolOp .Or [a] pos) tA:=by
 intro wh pins s σ H Q I h;refine isTrue_or (thn (ha pins s σ H Q I h) fun c s1 e=>?_)
 cases c with
 | false=>exact isTrue_or_nil e
 | true=>exact e
theorem jw(ha:PT X a tA)(hb:PW X (.BoolOp .And (b::rest) pos) tB'):PW X (.BoolOp .And (a::b::rest) pos) (ue tA tB'):=by
 intro wh pins s σ H Q I h;refine isTrue_and (thn (ha pins s σ H _ I h) fun c s1 ⟨H1,I1,q1⟩=>?_)
 cases c with
 | true=>exact hb wh pins s1 σ H1 Q I1 q1
 | false=>exact⟨H1,I1,q1⟩
theorem l7(ha:PT X a tA)(hb:PW X (.BoolOp .Or (b::rest) pos) tB'):PW X (.BoolOp .Or (a::b::rest) pos) (tOr tA tB'):=by
 intro wh pins s σ H Q I h;refine isTrue_or (thn (ha pins s σ H _ I h) fun c s1 ⟨H1,I1,q1⟩=>?_)
 cases c with
 | true=>exact⟨H1,I1,q1⟩
 | false=>exact hb wh pins s1 σ H1 Q I1 q1
theorem fi(ha:PT X a tA):PT X (.UnaryOp .Not a pos) (uf tA):=by
 intro pins s σ H Q I h;exact isTrue_not (ha pins s σ H (fun c H1=>Q (!c) H1) I h)
def qq(ta tb:TE):TE:=fun σ H Q=>ta σ H fun x H1=>∃c,x=.bl c/\if c=true then tb σ H1 Q else Q (.bl false) H1
def qs(ta:TE):TE:=fun σ H Q=>ta σ H fun x H1=>∃c,x=.bl c/\Q (.bl (!c)) H1
theorem jx{op}{t:TE}(h:PE X a t):PE X (.BoolOp op [a] pos) t:=fun pins s σ H Q I hw=>BoolOp_one (h pins s σ H Q I hw)
theorem jy(ha:PE X a ta)(hb:PE X (.BoolOp .And (b::rest) pos) tb):PE X (.BoolOp .And (a::b::rest) pos) (qq ta tb):=by
 intro pins s σ H Q I h;refine BoolOp_and (thn (ha pins s σ H _ I h) fun v s1 ⟨x,H1,I1,r1,q1⟩=>?_);obtain⟨c,rfl,q1⟩:=q1;cases r1;refine wpAny_truthy_bool ?_
 cases c with
 | true=>exact hb pins s1 σ H1 Q I1 q1
 | false=>exact⟨.bl false,H1,I1,rfl,q1⟩
theorem mW(ha:PE X a ta):PE X (.UnaryOp .Not a pos) (qs ta):=by
 intro pins s σ H Q I h;refine UnaryOp_ (thn (ha pins s σ H _ I h) fun v s1 ⟨x,H1,I1,r1,q1⟩=>?_);obtain⟨c,rfl,q1⟩:=q1;cases r1;exact not_of (wpAny_truthy_bool ⟨.bl (!c),H1,I1,rfl,q1⟩)
end
def SqL(K:PySem.W.Frag)(H:Hp)(a:Addr)(xs:List V):Prop :=
 Rd H a (.lst xs) \/
  ∃(o:Obj) (its:Array Value) (n:Nat),K.lookup a=some o/\o.cls=.type "list"/\o.dict=none/\o.data=.seq its n/\its.size<=sizeLine/\bo xs its.toList
def SqT(K:PySem.W.Frag)(H:Hp)(a:Addr)(xs:List V):Prop :=
 Rd H a (.tup xs) \/
  ∃(o:Obj) (its:Array Value) (n:Nat),K.lookup a=some o/\o.cls=.type "tuple"/\o.data=.seq its n/\its.size<=sizeLine/\bo xs its.toList
def uP:Value->Option V
 | .none=>some .non
 | .bool b=>some (.bl b)
 | .int i _=>some (.int i)
 | .str x _=>some (.str x)
 | .bytes b _=>some (.byt b)
 | .float b _=>some (.flt b)
 | .ref a=>some (.ref a)
 | .type n=>some (.ty n)
 | _=>none
theorem ck.abs{x:V}{u:Value}(r:ck x u):uP u=some x:=by
 cases x with
 | non=>cases r;rfl
 | bl _=>cases r;rfl
 | int _=>obtain⟨t,rfl⟩:=r;rfl
 | str _=>obtain⟨t,rfl⟩:=r;rfl
 | byt _=>obtain⟨t,rfl⟩:=r;rfl
 | flt _=>obtain⟨t,rfl⟩:=r;rfl
 | ref _=>cases r;rfl
 | ty _=>cases r;rfl
theorem ck.inj{x y:V}{u:Value}(r:ck x u)(q:ck y u):x=y:=Option.some.inj (r.abs.symm.trans q.abs)
theorem bo.inj:∀{xs ys:List V}{us:List Value},bo xs us->bo ys us->xs=ys
 | _,_,_,.nil,.nil=>rfl
 | _,_,_,.cons r t,.cons r' t'=>by rw [r.inj r',bo.inj t t']
section
variable {X:Cx}{pins:List (Addr×Obj)}{σ:St}{H:Hp}{s:Shared}{a:Addr}{xs ys:List V}
theorem SqL.of{K:PySem.W.Frag}(h:H a=some (.lst xs)):SqL K H a xs:=.inl (.inl h)
theorem SqT.of{K:PySem.W.Frag}(h:H a=some (.tup xs)):SqT K H a xs:=.inl (.inl h)
theorem Inv.list(I:Inv X pins σ H s)(h:SqL X.K H a xs):∃its:List Value,bo xs its/\PlainL s.heap a its.toArray/\xs.length<=sizeLine:=by
 rcases h with h|⟨o,its,n,hk,hc,hd,hs,hz,r⟩
 .obtain⟨z,its,n,r,e⟩:=h.ok I.hok;exact⟨its,r,⟨_,n,e,rfl,rfl,rfl⟩,z⟩
 .refine⟨its.toList,r,⟨o,n,I.kIn a o hk,hc,hd,by simpa using hs⟩,?_⟩;have e:=r.length;simp only [Array.length_toList] at e;omega
theorem Inv.tuple(I:Inv X pins σ H s)(h:SqT X.K H a xs):∃its:List Value,bo xs its/\IsTup s.heap a its.toArray/\xs.length<=sizeLine:=by
 rcases h with h|⟨o,its,n,hk,hc,hs,hz,r⟩
 .obtain⟨z,its,r,p⟩:=h.ok I.hok;exact⟨its,r,p,z⟩
 .refine⟨its.toList,r,⟨o,I.kIn a o hk,hc,n,by simpa using hs⟩,?_⟩;have e:=r.length;simp only [Array.length_toList] at e;omega
theorem Inv.list_inj(I:Inv X pins σ H s)(h:SqL X.K H a xs)(h':SqL X.K H a ys):xs=ys:=by
 obtain⟨its,r,⟨o,n,e,_,_,d⟩,_⟩:=I.list h;obtain⟨its',r',⟨o',n',e',_,_,d'⟩,_⟩:=I.list h';rw [e] at e';cases e';rw [d] at d';injection d' with d1 _;have:its=its':=by simpa using congrArg Array.toList d1
 subst this;exact r.inj r'
theorem Inv.tuple_inj(I:Inv X pins σ H s)(h:SqT X.K H a xs)(h':SqT X.K H a ys):xs=ys:=by
 obtain⟨its,r,⟨o,e,_,n,d⟩,_⟩:=I.tuple h;obtain⟨its',r',⟨o',e',_,n',d'⟩,_⟩:=I.tuple h';rw [e] at e';cases e';rw [d] at d';injection d' with d1 _;have:its=its':=by simpa using congrArg Array.toList d1
 subst this;exact r.inj r'
end
abbrev Cx.wish(X:Cx)(E:Value->Shared->Prop):Cx:={ X with xe:=E }
abbrev Cx.nox(X:Cx):Cx:=X.wish fun _ _=>False
theorem Cx.Ok.wish{X:Cx}(ok:X.Ok)(E:Value->Shared->Prop):(X.wish E).Ok :=
 ⟨ok.mod,ok.kind,ok.glob,ok.blt,ok.above,ok.inj,ok.has,ok.cab,ok.hd,ok.frames,ok.stk,ok.exf,ok.bs,ok.bsz,ok.noex,ok.exfs,ok.funs,ok.frf⟩
theorem Cx.Ok.unwish{X:Cx}{E:Value->Shared->Prop}(ok:(X.wish E).Ok):X.Ok :=
 ⟨ok.mod,ok.kind,ok.glob,ok.blt,ok.above,ok.inj,ok.has,ok.cab,ok.hd,ok.frames,ok.stk,ok.exf,ok.bs,ok.bsz,ok.noex,ok.exfs,ok.funs,ok.frf⟩
section
variable {X:Cx}{pins:List (Addr×Obj)}{σ:St}{H:Hp}{s:Shared}{E:Value->Shared->Prop}
theorem Inv.wish(I:Inv X pins σ H s)(E:Value->Shared->Prop):Inv (X.wish E) pins σ H s:=⟨I.ok.wish E,I.os,I.bare,I.base,I.loc,I.cell,I.free,I.freeC,I.pin,I.hok,I.len⟩
theorem Inv.unwish(I:Inv (X.wish E) pins σ H s):Inv X pins σ H s:=⟨I.ok.unwish,I.os,I.bare,I.base,I.loc,I.cell,I.free,I.freeC,I.pin,I.hok,I.len⟩
theorem SP.unwish{D:lU}{f:Flow}{s':Shared}(h:SP (X.wish E) pins D f s'):SP X pins D f s':=by
 cases f with
 | next=>obtain⟨σ',H',I,q⟩:=h;exact⟨σ',H',I.unwish,q⟩
 | brk=>obtain⟨σ',H',I,q⟩:=h;exact⟨σ',H',I.unwish,q⟩
 | cont=>obtain⟨σ',H',I,q⟩:=h;exact⟨σ',H',I.unwish,q⟩
 | ret u=>obtain⟨v,σ',H',I,r,q⟩:=h;exact⟨v,σ',H',I.unwish,r,q⟩
theorem PT.nox{e:Expr}{t:TT}(h:PT X.nox e t):PT X e t:=fun pins s σ H Q I hw =>
 wpAny_mono (h pins s σ H Q (I.wish _) hw) (fun _ _ ⟨H',I',q⟩=>⟨H',I'.unwish,q⟩) fun _ _ z=>False.elim z
theorem PSs.nox{st:List Stmt}{t:TS}(h:PSs X.nox st t):PSs X st t:=fun pins s σ H D I hw =>
 wpAny_mono (h pins s σ H D (I.wish _) hw) (fun _ _ q=>q.unwish) fun _ _ z=>False.elim z
end
section
variable {X:Cx}{st:Stmt}{rest:List Stmt}{t u:TS}{e:Expr}{te:TE}{pos:Pos}
def l8:TS:=fun D σ H=>D.nx σ H
def qt(t u:TS):TS:=fun D σ H=>t { D with nx:=u D } σ H
theorem bp:PSs X [] l8:=fun _ _ σ H _ I h=>wpAny_execs_nil ⟨σ,H,I,h⟩
theorem af(h1:PS X st t)(h2:PSs X rest u):PSs X (st::rest) (qt t u):=by
 intro pins s σ H D I h;refine wpAny_execs_cons (thn (h1 pins s σ H { D with nx:=u D } I h) fun f s1 q=>?_)
 cases f with
 | next =>
  obtain⟨σ',H',I',q⟩:=q;exact h2 pins s1 σ' H' D I' q
 | ret v=>exact q
 | brk=>exact q
 | cont=>exact q
theorem aq(h1:PS X st t):PSs X [st] t:=by
 intro pins s σ H D I h;refine wpAny_execs_cons (thn (h1 pins s σ H D I h) fun f s1 q=>?_)
 cases f with
 | next=>exact wpAny_execs_nil q
 | ret v=>exact q
 | brk=>exact q
 | cont=>exact q
theorem Inv.quiet{pins:List (Addr×Obj)}{σ:St}{H:Hp}{s:Shared}(I:Inv X pins σ H s):interactive X.env=false:=by simp [interactive,I.ok.kind]
def l9(te:TE):TS:=fun D σ H=>te σ H fun _ H1=>D.nx σ H1
theorem gC(he:PE X e te)(hs:swapsWith e none pos.line X.env=pure false:=by rfl):PS X (.Expr e pos) (l9 te):=by
 intro pins s σ H D I h;exact wpAny_Expr_any (thn (he pins s σ H _ I h) fun v s1 ⟨x,H1,I1,r1,q1⟩=>⟨σ,H1,I1,q1⟩) I.quiet hs
def ug(te:TE):TS:=fun D σ H=>te σ H D.rt
theorem bq(he:PE X e te):PS X (.Return (some e) pos) (ug te):=by
 intro pins s σ H D I h;exact wpAny_Return_some (thn (he pins s σ H _ I h) fun v s1 ⟨x,H1,I1,r1,q1⟩=>⟨x,σ,H1,I1,r1,q1⟩)
def si(c:TT)(t u:TS):TS:=fun D σ H=>c σ H fun b H1=>if b=true then t D σ H1 else u D σ H1
theorem c9{c:Expr}{a b:List Stmt}{tc:TT}(hc:PT X c tc)(ha:PSs X a t)(hb:PSs X b u):PS X (.If c a b pos) (si tc t u):=by
 intro pins s σ H D I h;refine wpAny_If (thn (hc pins s σ H _ I h) fun d s1 ⟨H1,I1,q1⟩=>?_)
 cases d with
 | true=>exact ha pins s1 σ H1 D I1 q1
 | false=>exact hb pins s1 σ H1 D I1 q1
end
abbrev TG:=V->St->Hp->(St->Hp->Prop)->Prop
abbrev TGs:=List V->St->Hp->(St->Hp->Prop)->Prop
def PG(X:Cx)(target:Expr)(t:TG):Prop :=
 ∀(pins:List (Addr×Obj)) (s:Shared) (σ:St) (H:Hp) (v:V) (u:Value) (Q:St->Hp->Prop),Inv X pins σ H s->ck v u->t v σ H Q ->
  wpAny (model X.prog X.w) X.A (assign target X.env u) (fun _ s'=>∃σ' H',Inv X pins σ' H' s'/\Q σ' H') X.xe s
def PGs(X:Cx)(ts:List Expr)(t:TGs):Prop :=
 ∀(pins:List (Addr×Obj)) (s:Shared) (σ:St) (H:Hp) (vs:List V) (us:List Value) (Q:St->Hp->Prop),Inv X pins σ H s->bo vs us->t vs σ H Q ->
  wpAny (model X.prog X.w) X.A (assignInOrder ((assignEach ts X.env).map (·.2)) us) (fun _ s'=>∃σ' H',Inv X pins σ' H' s'/\Q σ' H') X.xe s
section
variable {X:Cx}{pos:Pos}
def kt(i:Nat):TG:=fun v σ H Q=>Q (σ.set i (some v)) H
theorem cB{i:Nat}{x:Str}(hN:X.N.Nodup)(hi:X.N[i]?=some x)(hx:Loc X.env.scope x)(hf:X.fn x=true\/X.env.scope.names.lookup x=some .local:=by first|exact .inl rfl|exact .inr rfl|assumption):PG X (.Name x pos) (kt i):=by
 intro pins s σ H v u Q I r h;exact wpAny_assign_Name (fc I hN hi hx r (fun s' I'=>⟨_,H,I',h⟩) hf)
def uh:TGs:=fun vs σ H Q=>vs=[]/\Q σ H
def qu(t:TG)(u:TGs):TGs:=fun vs σ H Q=>∃v r,vs=v::r/\t v σ H fun σ' H'=>u r σ' H' Q
theorem nR:PGs X [] uh:=by
 intro pins s σ H vs us Q I r h;obtain⟨e,h⟩:=h;subst e;cases r;exact assignInOrder_nil ⟨σ,H,I,h⟩
theorem gD{e:Expr}{es:List Expr}{t:TG}{u:TGs}(h1:PG X e t)(h2:PGs X es u)
  (hs:(assignEach (e::es) X.env).map (·.2)=assign e X.env::(assignEach es X.env).map (·.2):=by rfl):PGs X (e::es) (qu t u):=by
 intro pins s σ H vs us Q I r h;obtain⟨v,vr,e1,h⟩:=h;subst e1
 cases r with
 | cons r rr =>
  rw [hs];refine assignInOrder_cons (thn (h1 pins s σ H _ _ _ I r h) fun _ s1 ⟨σ1,H1,I1,q1⟩=>?_);exact h2 pins s1 σ1 H1 _ _ Q I1 rr q1
def uQ(K:PySem.W.Frag)(n:Nat)(t:TGs):TG:=fun v σ H Q=>∃a xs,v=.ref a/\SqT K H a xs/\xs.length=n/\t xs σ H Q
theorem qv{es:List Expr}{k:Nat}{t:TGs}{n:Nat}(hc:X.calm=true)(h:PGs X es t)
  (hn:(assignEach es X.env).length=n:=by rfl) (hst:(assignEach es X.env).findIdx? (·.1)=none:=by rfl):PG X (.Tuple es k pos) (uQ X.K n t):=by
 intro pins s σ H v u Q I r hw;obtain⟨a,xs,e1,hq,hl,hw⟩:=hw;subst e1;cases r;obtain⟨its,rv,ht,hz⟩:=I.tuple hq;refine assign_Tuple_tuple (I.ok.hd hc) ht (by simp [hn,<- hl,rv.length]) hst fun h' hx=>?_;have I1:Inv X pins σ H { s with heap:=h' }:=I.kept (t':=s.toks) fun b o e=>hx b o (ne_of_lt (Heap.lt_size e)) e;exact h pins _ σ H xs _ Q I1 (by simpa using rv) hw
def sj(te:TE)(g:TG):TS:=fun D σ H=>te σ H fun x H1=>g x σ H1 D.nx
theorem mX{tg e:Expr}{te:TE}{g:TG}(he:PE X e te)(hg:PG X tg g)(hs:swapsWithSole [tg] e pos.line X.env=pure false:=by rfl)(hw:swappedStores [tg] e X.env=pure none:=by rfl)
  (h1:(assignEach [tg] X.env).map (·.2)=[assign tg X.env]:=by rfl):PS X (.Assign [tg] e pos) (sj te g):=by
 intro pins s σ H D I h;refine wpAny_Assign_stores (thn (he pins s σ H _ I h) fun v s1 ⟨x,H1,I1,r1,q1⟩=>?_) hs hw;rw [h1];exact thn (hg pins s1 σ H1 x v _ I1 r1 q1) fun _ s2 q=>q
theorem aD{i:Nat}{x:Str}{e:Expr}{te:TE}{pos':Pos}(hN:X.N.Nodup)(hi:X.N[i]?=some x)(hx:Loc X.env.scope x)(he:PE X e te)(hs:swapsWith e (some (.Name x pos')) pos.line X.env=pure false:=by rfl)(hf:X.fn x=true\/X.env.scope.names.lookup x=some .local:=by first|exact .inl rfl|exact .inr rfl|assumption) :
  PS X (.Assign [.Name x pos'] e pos) (sj te (kt i)):=by
 intro pins s σ H D I h;refine wpAny_Assign_Name (thn (he pins s σ H _ I h) fun v s1 ⟨y,H1,I1,r1,q1⟩=>?_) hs;exact fc I1 hN hi hx r1 (fun s2 I2=>⟨_,H1,I2,q1⟩) hf
end
section
variable {X:Cx}{pos:Pos}
def mY(c:TT)(tb:TS):TS:=fun D σ H=>∃W:Nat->St->Hp->Prop,(∃m,W m σ H)/\∀m σ H,W m σ H ->
 c σ H fun b H1=>if b=true then ∃N:St->Hp->Prop,(∀σ' H',N σ' H'->∃m',m'<m/\W m' σ' H')/\tb { D with nx:=N,ct:=N,bk:=D.nx } σ H1 else D.nx σ H1
theorem jz{c:Expr}{body:List Stmt}{tc:TT}{tb:TS}(hp:PassesOwn (model X.prog X.w) X.A X.env X.xe)(hc:PT X c tc)(hb:PSs X body tb):PS X (.While c body [] pos) (mY tc tb):=by
 intro pins s σ H D I h;obtain⟨W,⟨m0,w0⟩,turn⟩:=h;refine wpAny_While (codeAny_whileLoop (fun n s'=>∃σ' H',Inv X pins σ' H' s'/\W n σ' H') ?_ m0 ⟨σ,H,I,w0⟩);rintro n s1 ⟨σ1,H1,I1,w1⟩;refine wpAny_passesOwn hp (thn (hc pins s1 σ1 H1 _ I1 (turn n σ1 H1 w1)) fun b s2 ⟨H2,I2,q2⟩=>?_)
 cases b with
 | true =>
  obtain⟨N,hN,q2⟩:=q2;rw [if_pos rfl];refine wpAny_passesOwn hp (thn (hb pins s2 σ1 H2 _ I2 q2) fun f s3 q3=>?_)
  cases f with
  | next =>
   obtain⟨σ3,H3,I3,n3⟩:=q3;obtain⟨m',hm,w3⟩:=hN σ3 H3 n3;exact⟨m',hm,σ3,H3,I3,w3⟩
  | cont =>
   obtain⟨σ3,H3,I3,n3⟩:=q3;obtain⟨m',hm,w3⟩:=hN σ3 H3 n3;exact⟨m',hm,σ3,H3,I3,w3⟩
  | brk=>exact q3
  | ret v=>exact q3
 | false =>
  rw [if_neg Bool.false_ne_true];exact wpAny_execs_nil ⟨σ1,H2,I2,q2⟩
end
structure It where
 go:Nat->Hp->Prop
 yld:Nat->Hp->V->Hp->Prop
 stop:Nat->Hp->Prop
def lV(X:Cx)(pins:List (Addr×Obj))(H:Hp)(b:Addr):Prop :=
 H b=none/\b≠X.env.locals/\b∉X.fs/\(b∈X.ex\/X.s₀.heap.objs.size<=b)/\(∀x c,X.env.cells.lookup x=some c->c≠b)/\∀p∈X.pn++pins,p.1≠b
theorem Inv.fpOk{X:Cx}{pins:List (Addr×Obj)}{σ:St}{H H':Hp}{s:Shared}{b:Addr}(I:Inv X pins σ H s)(hb:s.heap.objs.size<=b)(hn:H' b=none):lV X pins H' b:=by
 refine⟨hn,ne_of_gt (lt_of_lt_of_le I.lt hb),I.nofs hb,.inr (le_trans I.sz hb),fun x c e z=>?_,fun p hp z=>?_⟩
 .obtain⟨v,q⟩:=I.cell x c e;exact absurd (lt_of_lt_of_le q.lt (by rw [z];exact hb)) (lt_irrefl _)
 .exact absurd (lt_of_lt_of_le (Heap.lt_size (I.pin p hp).1) (by rw [z];exact hb)) (lt_irrefl _)
structure qw (P:Program) (w:World) (K:PySem.W.Frag) (tg:Expr) (J:It) (fp:List Addr) (it:Addr) (tn:Nat->Heap->Prop):Prop where
 mem:it∈fp
 obj:∀i h,tn i h->∀b∈fp,∃o,h.get? b=some o/\∀v,o.data≠.cell v
 keep:∀i h h',tn i h->(∀b∈fp,∀o,h.get? b=some o->h'.get? b=some o)->tn i h'
 item:∀(X:Cx),X.prog=P->X.w=w->X.K=K->X.calm=true->∀(i:Nat) (pins:List (Addr×Obj)) (s:Shared) (σ:St) (H:Hp) (E:Value->Shared->Prop),Inv X pins σ H s->(∀b∈fp,lV X pins H b)->tn i s.heap->J.go i H ->
  wpAny (model P w) X.A (pyNext (.ref it)) (fun r s1=>∃u,r=some u /\
   wpAny (model P w) X.A (letOwnedTupleGo tg (.ref it) u) (fun _ s2=>∃x H',Inv X pins σ H' s2/\ck x u/\J.yld i H x H'/\tn (i+1) s2.heap/\∀b∈fp,H' b=none) E s1) E s
 done:∀(X:Cx),X.prog=P->X.w=w->X.K=K->X.calm=true->∀(i:Nat) (pins:List (Addr×Obj)) (s:Shared) (σ:St) (H:Hp) (E:Value->Shared->Prop),Inv X pins σ H s->(∀b∈fp,lV X pins H b)->tn i s.heap->J.stop i H ->
  wpAny (model P w) X.A (pyNext (.ref it)) (fun r s1=>r=none/\Inv X pins σ H s1) E s
 self:∀(A:Around) (i:Nat) (s:Shared) (Q:Value->Shared->Prop) (E:Value->Shared->Prop),tn i s.heap->Q (.ref it) s->wpAny (model P w) A (pyIter (.ref it)) Q E s
abbrev TI:=St->Hp->(It->Hp->Prop)->Prop
def PIE(X:Cx)(pins:List (Addr×Obj))(σ:St)(tg:Expr)(R:It->Hp->Prop)(itv:Value)(s2:Shared):Prop :=
 ∃(it:Addr) (fp:List Addr) (tn:Nat->Heap->Prop) (J:It) (H':Hp),itv=.ref it/\Inv X pins σ H' s2/\qw X.prog X.w X.K tg J fp it tn/\tn 0 s2.heap/\(∀b∈fp,lV X pins H' b)/\R J H'
def PI(X:Cx)(tg iter:Expr)(wi:TI):Prop :=
 ∀(pins:List (Addr×Obj)) (s:Shared) (σ:St) (H:Hp) (R:It->Hp->Prop),Inv X pins σ H s->wi σ H R ->
  wpAny (model X.prog X.w) X.A (eval iter X.env) (fun v s1=>wpAny (model X.prog X.w) X.A (pyIter v) (PIE X pins σ tg R) X.xe s1) X.xe s
theorem nS{M:Model}{A:Around}{E:Value->Shared->Prop}{s:Shared}{tg:Expr}{it:Addr}{u:Value}{o:Obj}{n:String}{vs:Array Value}{Q:Unit->Shared->Prop}(ho:s.heap.get? it=some o)(hc:o.cls=.type n)(hd:o.data=.fields vs)
    (hn:["enumerate","zip","dict_itemiterator","dict_reverseitemiterator","odict_iterator","itertools.zip_longest","itertools.pairwise"].contains n=false) (hQ:Q () s):wpAny M A (letOwnedTupleGo tg (.ref it) u) Q E s:=by
  unfold letOwnedTupleGo
  cases tg <;> first
    | exact wpAny_pure hQ
    | (cases u <;> first
        | exact wpAny_pure hQ
        | (refine wpAny_bind (wpAny_load ho ?_)
           rw [hc,hd];show wpAny M A (if (["enumerate","zip","dict_itemiterator","dict_reverseitemiterator","odict_iterator","itertools.zip_longest","itertools.pairwise"].contains n && vs[0]? == some (rawInt _))=true then _ else _) Q E s;rw [if_neg (by intro h;rw [hn,Bool.false_and] at h;cases h)];exact wpAny_pure hQ))
def Itl(K:PySem.W.Frag)(a:Addr):It :=
 ⟨fun i H=>∃xs x,SqL K H a xs/\xs[i]?=some x,fun i H x H'=>H'=H/\∀xs,SqL K H a xs->xs[i]?=some x,fun i H=>∃xs,SqL K H a xs/\xs.length<=i⟩
def Itt(K:PySem.W.Frag)(a:Addr):It :=
 ⟨fun i H=>∃xs x,SqT K H a xs/\xs[i]?=some x,fun i H x H'=>H'=H/\∀xs,SqT K H a xs->xs[i]?=some x,fun i H=>∃xs,SqT K H a xs/\xs.length<=i⟩
def Itr(lo:Int)(n:Nat):It:=⟨fun i _=>i<n,fun i H x H'=>H'=H/\x=.int (lo+i),fun i _=>n<=i⟩
theorem ku{P:Program}{w:World}{K:PySem.W.Frag}{tg:Expr}(a it:Addr):qw P w K tg (Itl K a) [it] it (fun i h=>h.IsListIter it a i) where
 mem:=by simp
 obj:=fun i h st b hb=>by
  have e:b=it:=by simpa using hb
  subst e;obtain⟨o,e,c,d⟩:=st;exact⟨o,e,fun v z=>by rw [d] at z;cases z⟩
 keep:=fun i h h' st k=>st.at fun o e=>k it (by simp) o e
 item:=by
  intro X hP hw hK hc i pins s σ H E I hf st hg;subst hP hw hK;obtain⟨xs,x,hq,hx⟩:=hg;obtain⟨its,rv,p,hz⟩:=I.list hq;obtain⟨u,hu,ru⟩:=rv.get hx;obtain⟨f0,f1,f2,f3,f4,f5⟩:=hf it (by simp);refine wpAny_pyNext_list_item st p.isList (x:=u) (by simpa using hu) fun h' st' sb=>?_;have I1:Inv X pins σ H { s with heap:=h' }:=I.turned (t':=s.toks) (fun b o hb e=>(sb.2 b hb).trans e) f0 f1 f3 f4 f5;obtain⟨o,e,c,d⟩:=id st'
  exact⟨u,rfl,nS (s:={ s with heap:=h' }) e c d (by decide) ⟨x,H,I1,ru,⟨rfl,fun ys hy=>by rw [I.list_inj hy hq];exact hx⟩,st',fun b hb=>(hf b hb).1⟩⟩
 done:=by
  intro X hP hw hK hc i pins s σ H E I hf st hg;subst hP hw hK;obtain⟨xs,hq,hx⟩:=hg;obtain⟨its,rv,p,hz⟩:=I.list hq;obtain⟨f0,f1,f2,f3,f4,f5⟩:=hf it (by simp);have hl:=rv.length;exact wpAny_pyNext_list_end (I.ok.hd hc) st p.isList (by simp;omega) fun h' eb=>⟨rfl,I.turned (t':=s.toks) (fun b o hb e=>eb b o hb e) f0 f1 f3 f4 f5⟩
 self:=fun _ _ _ _ _ st h=>wpAny_pyIter_listiter st h
theorem j1{P:Program}{w:World}{K:PySem.W.Frag}{tg:Expr}(a it:Addr):qw P w K tg (Itt K a) [it] it (fun i h=>h.IsTupleIter it a i) where
 mem:=by simp
 obj:=fun i h st b hb=>by
  have e:b=it:=by simpa using hb
  subst e;obtain⟨o,e,c,d⟩:=st;exact⟨o,e,fun v z=>by rw [d] at z;cases z⟩
 keep:=fun i h h' st k=>st.at fun o e=>k it (by simp) o e
 item:=by
  intro X hP hw hK hc i pins s σ H E I hf st hg;subst hP hw hK;obtain⟨xs,x,hq,hx⟩:=hg;obtain⟨its,rv,p,hz⟩:=I.tuple hq;obtain⟨u,hu,ru⟩:=rv.get hx;obtain⟨f0,f1,f2,f3,f4,f5⟩:=hf it (by simp);refine wpAny_pyNext_tuple_item st (show s.heap.IsTuple a its.toArray from p) (x:=u) (by simpa using hu) fun h' st' sb=>?_;have I1:Inv X pins σ H { s with heap:=h' }:=I.turned (t':=s.toks) (fun b o hb e=>(sb.2 b hb).trans e) f0 f1 f3 f4 f5
  obtain⟨o,e,c,d⟩:=id st';exact⟨u,rfl,nS (s:={ s with heap:=h' }) e c d (by decide) ⟨x,H,I1,ru,⟨rfl,fun ys hy=>by rw [I.tuple_inj hy hq];exact hx⟩,st',fun b hb=>(hf b hb).1⟩⟩
 done:=by
  intro X hP hw hK hc i pins s σ H E I hf st hg;subst hP hw hK;obtain⟨xs,hq,hx⟩:=hg;obtain⟨its,rv,p,hz⟩:=I.tuple hq;obtain⟨f0,f1,f2,f3,f4,f5⟩:=hf it (by simp);have hl:=rv.length;exact wpAny_pyNext_tuple_end (I.ok.hd hc) st (show s.heap.IsTuple a its.toArray from p) (by simp;omega) fun h' eb=>⟨rfl,I.turned (t':=s.toks) (fun b o hb e=>eb b o hb e) f0 f1 f3 f4 f5⟩
 self:=fun _ _ _ _ _ st h=>wpAny_pyIter_tupleiter st h
theorem j2{P:Program}{w:World}{K:PySem.W.Frag}{tg:Expr}(it:Addr)(lo:Int)(n:Nat):qw P w K tg (Itr lo n) [it] it (fun i h=>IsRangeIter h it (lo+(i:Nat)*1) ((n:Int) - (i:Nat)) 1) where
 mem:=by simp
 obj:=fun i h st b hb=>by
  have e:b=it:=by simpa using hb
  subst e
  exact⟨_,st,fun v z=>by
   have z':Data.fields _=Data.cell v:=z;cases z'⟩
 keep:=fun i h h' st k=>k it (by simp) _ st
 item:=by
  intro X hP hw hK hc i pins s σ H E I hf st hg;subst hP hw hK;obtain⟨f0,f1,f2,f3,f4,f5⟩:=hf it (by simp);have W:=Walks.range (prog:=X.prog) (w:=X.w) (I.ok.hd hc) it lo 1 n;refine W.item i s _ _ hg st fun v h' tk hv st' kk=>?_;obtain⟨t,rfl⟩:=hv;have I1:Inv X pins σ H { s with heap:=h',toks:=tk }:=I.turned (fun b o hb e=>kk b o (by simpa using hb) e) f0 f1 f3 f4 f5;refine⟨_,rfl,nS (s:={ s with heap:=h',toks:=tk }) (n:="range_iterator") st' rfl rfl (by decide) ⟨.int (lo+i),H,I1,⟨t,?_⟩,⟨rfl,rfl⟩,st',fun b hb=>(hf b hb).1⟩⟩
  rw [Int.mul_one]
 done:=by
  intro X hP hw hK hc i pins s σ H E I hf st hg;subst hP hw hK;obtain⟨f0,f1,f2,f3,f4,f5⟩:=hf it (by simp);exact wpAny_pyNext_range_end (I.ok.hd hc) st (by have:n<=i:=hg;omega) fun h' eb=>⟨rfl,I.turned (t':=s.toks) (fun b o hb e=>eb b o hb e) f0 f1 f3 f4 f5⟩
 self:=fun _ _ _ _ _ st h=>wpAny_pyIter_rangeiter st h
section
variable {X:Cx}{tg:Expr}
theorem jA{pins:List (Addr×Obj)}{σ:St}{H:Hp}{s:Shared}{R:It->Hp->Prop}{E:Value->Shared->Prop}{lo hi:Int}{t u v:Tok}{tk:Nat}(I:Inv X pins σ H s)(h1:-(2^62)<=lo)(h2:lo<2^62)(h3:-(2^62)<=hi)(h4:hi<2^62)
  (q:R (Itr lo (hi - lo).toNat) H):wpAny (model X.prog X.w) X.A (pyIter (.ref s.heap.objs.size)) (PIE X pins σ tg R) E { s with heap:=s.heap.push { cls:=.type "range",data:=.fields #[.int lo t,.int hi u,.int 1 v] },toks:=tk }:=by
 refine wpAny_pyIter_range (IsRange.new ..) (small_one h1 h2 h3 h4) ?_;have I1:Inv X pins σ H { s with heap:=s.heap.push { cls:=.type "range",data:=.fields #[.int lo t,.int hi u,.int 1 v] },toks:=tk }:=I.kept fun b o e=>Heap.get?_push_of_some _ e
 refine⟨(s.heap.push { cls:=.type "range",data:=.fields #[.int lo t,.int hi u,.int 1 v] }).objs.size,[(s.heap.push { cls:=.type "range",data:=.fields #[.int lo t,.int hi u,.int 1 v] }).objs.size],_,_,H,rfl,
  I1.kept (t':=tk) fun b o e=>Heap.get?_push_of_some _ e,j2 _ lo (hi - lo).toNat,?_,fun b hb=>?_,q⟩
 .have e1:lo+((0:Nat):Int)*1=lo:=by simp
  have e2:(((hi - lo).toNat:Nat):Int) - ((0:Nat):Int)=Builtin.Range.rangeSize lo hi 1:=by rw [rangeSize_one];split <;> omega
  show IsRangeIter _ _ (lo+((0:Nat):Int)*1) ((((hi - lo).toNat:Nat):Int) - ((0:Nat):Int)) 1;rw [e1,e2];exact Heap.get?_push_size _ rfl
 .have e:b=(s.heap.push { cls:=.type "range",data:=.fields #[.int lo t,.int hi u,.int 1 v] }).objs.size:=by simpa using hb
  subst e;exact I1.fpOk (le_refl _) (I1.hok.fresh (le_refl _))
def nU(ta:TA):TI:=fun σ H R=>ta σ H fun vs H1=>∃j:Int,vs=[.int j]/\-(2^62)<=j/\j<2^62/\R (Itr 0 j.toNat) H1
def qx(ta:TA):TI:=fun σ H R=>ta σ H fun vs H1=>∃i j:Int,vs=[.int i,.int j]/\(-(2^62)<=i/\i<2^62/\-(2^62)<=j/\j<2^62)/\R (Itr i (j - i).toNat) H1
theorem fj{a:Expr}{ta:TA}{p pos:Pos}(hg:Gl X "range")(hm:X.mg "range"=none)(ha:PA X [a] ta)(hs:starEach [a] X.env=[(false,eval a X.env)]:=by rfl):PI X tg (.Call (.Name "range" p) [a] [] pos) (nU ta):=by
 intro pins s σ H R I h;refine Call_ (eM I hg hm boot_range (PyProof.Rows.callWith_type1 (thn (ha pos pins s σ H _ I h) fun us s1 ⟨vs,H1,I1,r1,q1⟩=>?_) hs rfl));obtain⟨j,e,q1,q2,q⟩:=q1;subst e
 cases r1 with
 | cons r rr =>
  cases rr;obtain⟨t,rfl⟩:=r;exact call_range_1 (jA I1 (by omega) (by omega) q1 q2 (by simpa using q))
theorem kv{a b:Expr}{ta:TA}{p pos:Pos}(hg:Gl X "range")(hm:X.mg "range"=none)(ha:PA X [a,b] ta)(hs:starEach [a,b] X.env=[(false,eval a X.env),(false,eval b X.env)]:=by rfl)(hs2:starEach [b] X.env=[(false,eval b X.env)]:=by rfl) :
  PI X tg (.Call (.Name "range" p) [a,b] [] pos) (qx ta):=by
 intro pins s σ H R I h;refine Call_ (eM I hg hm boot_range (PyProof.Rows.callWith_type1 (thn (ha pos pins s σ H _ I h) fun us s1 ⟨vs,H1,I1,r1,q1⟩=>?_) (by rw [hs,hs2]) (by rw [hs2];rfl)));obtain⟨i,j,e,⟨q1,q2,q3,q4⟩,q⟩:=q1;subst e
 cases r1 with
 | cons r rr =>
  cases rr with
  | cons r' rr =>
   cases rr;obtain⟨t,rfl⟩:=r;obtain⟨t',rfl⟩:=r';exact call_range_2 (jA I1 q1 q2 q3 q4 q)
def ui(wi:TI)(g:TG)(tb:TS):TS:=fun D σ H=>wi σ H fun J H1=>∃W:Nat->Nat->St->Hp->Prop,(∃m,W 0 m σ H1)/\∀i m σ H,W i m σ H ->
 (J.stop i H/\D.nx σ H)\/(J.go i H/\∃N:St->Hp->Prop,(∀σ' H',N σ' H'->∃m',m'<m/\W (i+1) m' σ' H')/\∀x H',J.yld i H x H'->g x σ H' fun σ2 H2=>tb { D with nx:=N,ct:=N,bk:=D.nx } σ2 H2)
def h7(fp:List Addr)(h:Heap):List (Addr×Obj):=fp.filterMap fun b=>(h.get? b).map fun o=>(b,o)
theorem dn{fp:List Addr}{h:Heap}{b:Addr}{o:Obj}(hb:b∈fp)(e:h.get? b=some o):(b,o)∈h7 fp h:=mem_filterMap.mpr ⟨b,hb,by rw [e];rfl⟩
theorem ky{fp:List Addr}{h:Heap}{p:Addr×Obj}(hp:p∈h7 fp h):p.1∈fp/\h.get? p.1=some p.2:=by
 obtain⟨b,hb,e⟩:=mem_filterMap.mp hp
 cases q:h.get? b with
 | none=>rw [q] at e;cases e
 | some o =>
  rw [q] at e;have e':(b,o)=p:=Option.some.inj e;subst e';exact⟨hb,q⟩
theorem Inv.pinned{pins:List (Addr×Obj)}{σ:St}{H:Hp}{s:Shared}{fp:List Addr}(I:Inv X pins σ H s)(hf:∀b∈fp,lV X pins H b)(ho:∀b∈fp,∃o,s.heap.get? b=some o/\∀v,o.data≠.cell v):Inv X (pins++h7 fp s.heap) σ H s :=
 I.pins_of fun p hp=>(mem_append.mp hp).elim (fun z=>I.pin p (mem_append_right _ z)) fun z=>by
  obtain⟨hb,e⟩:=ky z;obtain⟨f0,f1,f2,_⟩:=hf p.1 hb;obtain⟨o,e',d⟩:=ho p.1 hb;rw [e] at e';cases e';exact⟨e,f0,f1,f2,d⟩
theorem Inv.unpinned{pins pl:List (Addr×Obj)}{σ:St}{H:Hp}{s:Shared}(I:Inv X (pins++pl) σ H s):Inv X pins σ H s:=I.pins_of fun p hp=>I.pin p (mem_append_right _ (mem_append_left _ hp))
theorem gm{iter:Expr}{body:List Stmt}{wi:TI}{g:TG}{tb:TS}{pos:Pos}(hp:PassesOwn (model X.prog X.w) X.A X.env X.xe)(hc:X.calm=true)(hi:PI X tg iter wi)(hg:PG X tg g)(hb:PSs X body tb)
  (hs:∀x,foldedSetIterable iter X.env x=pure x:=by intro _;rfl):PS X (.For tg iter body [] pos) (ui wi g tb):=by
 intro pins s σ H D I h;refine wpAny_For (thn (hi pins s σ H _ I h) fun v s1 h1=>thn h1 fun itv s2 h2=>?_) hs;obtain⟨it,fp,tn,J,H2,e,I2,T,st2,f2,W,⟨m0,w0⟩,turn⟩:=h2;subst e
 -- what stays true of the iterator's objects through the loop
 have stat:∀{H':Hp},(∀b∈fp,H' b=none)->∀b∈fp,lV X pins H' b:=fun hn b hb=>⟨hn b hb,(f2 b hb).2⟩
 refine codeAny_forLoop_any (fun n s'=>∃i σ' H',Inv X pins σ' H' s'/\tn i s'.heap/\(∀b∈fp,H' b=none)/\W i n σ' H') ?_ m0 ⟨0,σ,H2,I2,st2,fun b hb=>(f2 b hb).1,w0⟩;rintro n s3 ⟨i,σ3,H3,I3,st3,fr3,w3⟩
 rcases turn i n σ3 H3 w3 with ⟨stop,qn⟩|⟨go,N,hN,step⟩
 .refine wpAny_passesOwn hp (thn (T.done X rfl rfl rfl hc i pins s3 σ3 H3 X.xe I3 (stat fr3) st3 stop) fun r s4 ⟨hr,I4⟩=>?_);subst hr;exact wpAny_execs_nil ⟨σ3,H3,I4,qn⟩
 .refine wpAny_passesOwn hp (thn (T.item X rfl rfl rfl hc i pins s3 σ3 H3 X.xe I3 (stat fr3) st3 go) fun r s4 ⟨u,hr,h4⟩=>?_);subst hr;refine wpAny_passesOwn hp (thn h4 fun _ s5 ⟨x,H5,I5,r5,y5,st5,fr5⟩=>?_);have I5':=I5.pinned (stat fr5) (T.obj _ _ st5);refine wpAny_passesOwn hp (thn (hg _ s5 σ3 H5 x u _ I5' r5 (step x H5 y5)) fun _ s6 ⟨σ6,H6,I6,q6⟩=>?_);refine wpAny_passesOwn hp (thn (hb _ s6 σ6 H6 _ I6 q6) fun f s7 q7=>?_)
  have again:∀{σ7:St}{H7:Hp},Inv X (pins++h7 fp s5.heap) σ7 H7 s7->N σ7 H7->∃m,m<n/\∃i σ' H',Inv X pins σ' H' s7/\tn i s7.heap/\(∀b∈fp,H' b=none)/\W i m σ' H':=fun {σ7 H7} I7 n7=>by
   obtain⟨m',hm,w7⟩:=hN σ7 H7 n7;refine⟨m',hm,i+1,σ7,H7,I7.unpinned,T.keep _ _ _ st5 fun b hb o e=>(I7.pin (b,o) (mem_append_right _ (mem_append_right _ (dn hb e)))).1,fun b hb=>?_,w7⟩;obtain⟨o,e,d⟩:=T.obj _ _ st5 b hb;exact (I7.pin (b,o) (mem_append_right _ (mem_append_right _ (dn hb e)))).2.1
  cases f with
  | next=>obtain⟨σ7,H7,I7,n7⟩:=q7;exact again I7 n7
  | cont=>obtain⟨σ7,H7,I7,n7⟩:=q7;exact again I7 n7
  | brk=>obtain⟨σ7,H7,I7,q7⟩:=q7;exact⟨σ7,H7,I7.unpinned,q7⟩
  | ret v=>obtain⟨x7,σ7,H7,I7,r7,q7⟩:=q7;exact⟨x7,σ7,H7,I7.unpinned,r7,q7⟩
end
abbrev R2:=V->V->Hp->VK->Prop
def OpR(X:Cx)(f:Value->Value->Sem Value)(r:R2):Prop :=
 ∀(pins:List (Addr×Obj)) (s:Shared) (σ:St) (H:Hp) (x y:V) (v u:Value) (Q:VK),Inv X pins σ H s->ck x v->ck y u->r x y H Q ->
  wpAny (model X.prog X.w) X.A (f v u) (EP X pins σ Q) X.xe s
def UnR(X:Cx)(f:Value->Sem Value)(r:V->Hp->VK->Prop):Prop :=
 ∀(pins:List (Addr×Obj)) (s:Shared) (σ:St) (H:Hp) (x:V) (v:Value) (Q:VK),Inv X pins σ H s->ck x v->r x H Q ->
  wpAny (model X.prog X.w) X.A (f v) (EP X pins σ Q) X.xe s
def bG(X:Cx)(f:Value)(r:List V->Hp->VK->Prop):Prop :=
 ∀(pins:List (Addr×Obj)) (s:Shared) (σ:St) (H:Hp) (xs:List V) (us:List Value) (Q:VK),Inv X pins σ H s->bo xs us->r xs H Q ->
  wpAny (model X.prog X.w) X.A (call f us) (EP X pins σ Q) X.xe s
def tOp(r:R2)(ta tb:TE):TE:=fun σ H Q=>ta σ H fun x H1=>tb σ H1 fun y H2=>r x y H2 Q
def tUn(r:V->Hp->VK->Prop)(ta:TE):TE:=fun σ H Q=>ta σ H fun x H1=>r x H1 Q
def rI(C:Int->Int->Prop)(g:Int->Int->V):R2:=fun x y H Q=>∃i j,x=.int i/\y=.int j/\C i j/\Q (g i j) H
def rI0(g:Int->Int->V):R2:=fun x y H Q=>∃i j,x=.int i/\y=.int j/\Q (g i j) H
def rU(g:Int->V):V->Hp->VK->Prop:=fun x H Q=>∃i,x=.int i/\Q (g i) H
section
variable {X:Cx}{a b c:Expr}{ta tb tc:TE}{pos:Pos}
theorem sC(ha:PE X a ta)(hb:PE X b tb){pins:List (Addr×Obj)}{s:Shared}{σ:St}{H:Hp}{R:V->V->Hp->Prop}(I:Inv X pins σ H s)
  (h:ta σ H fun x H1=>tb σ H1 fun y H2=>R x y H2) {Q:Value->Shared->Prop}{f:Value->Value->Sem Value}
  (hf:∀v u s2 x y H2,Inv X pins σ H2 s2->ck x v->ck y u->R x y H2->wpAny (model X.prog X.w) X.A (f v u) Q X.xe s2) :
  wpAny (model X.prog X.w) X.A (eval a X.env) (fun v s₁=>wpAny (model X.prog X.w) X.A (eval b X.env) (fun u s₂=>wpAny (model X.prog X.w) X.A (f v u) Q X.xe s₂) X.xe s₁) X.xe s:=by
 refine thn (ha pins s σ H _ I h) fun v s1 ⟨x,H1,I1,r1,q1⟩=>?_;refine thn (hb pins s1 σ H1 _ I1 q1) fun u s2 ⟨y,H2,I2,r2,q2⟩=>?_;exact hf v u s2 x y H2 I2 r1 r2 q2
theorem aA{op:Operator}{r:R2}(ho:OpR X (binaryOp op) r)(ha:PE X a ta)(hb:PE X b tb):PE X (.BinOp a op b pos) (tOp r ta tb):=by
 intro pins s σ H Q I h;exact wpAny_BinOp (sC ha hb I h fun v u s2 x y H2 I2 rx ry q=>ho pins s2 σ H2 x y v u Q I2 rx ry q)
theorem qy{op:UnaryOp}{r:V->Hp->VK->Prop}(ho:UnR X (unaryOp op) r)(ha:PE X a ta):PE X (.UnaryOp op a pos) (tUn r ta):=by
 intro pins s σ H Q I h;exact UnaryOp_ (thn (ha pins s σ H _ I h) fun v s1 ⟨x,H1,I1,r1,q1⟩=>ho pins s1 σ H1 x v Q I1 r1 q1)
theorem opI{f:Value->Value->Sem Value}{C:Int->Int->Prop}{g:Int->Int->Int}
  (rule:∀(i j:Int) (t u:Tok) (s:Shared) (Q:Value->Shared->Prop) (E:Value->Shared->Prop),C i j->Q (.int (g i j) s.toks) { s with toks:=s.toks+1 }->wpAny (model X.prog X.w) X.A (f (.int i t) (.int j u)) Q E s) :
  OpR X f (rI C fun i j=>.int (g i j)):=by
 intro pins s σ H x y v u Q I rx ry h;obtain⟨i,j,rfl,rfl,hc,q⟩:=h;obtain⟨t,rfl⟩:=rx;obtain⟨t',rfl⟩:=ry;exact rule i j t t' s _ _ hc ⟨.int (g i j),H,I.tok _,⟨_,rfl⟩,q⟩
theorem uj{f:Value->Value->Sem Value}{g:Int->Int->Int}
  (rule:∀(i j:Int) (t u:Tok) (s:Shared) (Q:Value->Shared->Prop) (E:Value->Shared->Prop),Q (.int (g i j) s.toks) { s with toks:=s.toks+1 }->wpAny (model X.prog X.w) X.A (f (.int i t) (.int j u)) Q E s) :
  OpR X f (rI0 fun i j=>.int (g i j)):=by
 intro pins s σ H x y v u Q I rx ry h;obtain⟨i,j,rfl,rfl,q⟩:=h;obtain⟨t,rfl⟩:=rx;obtain⟨t',rfl⟩:=ry;exact rule i j t t' s _ _ ⟨.int (g i j),H,I.tok _,⟨_,rfl⟩,q⟩
theorem qz{f:Value->Value->Sem Value}{g:Int->Int->Bool}
  (rule:∀(i j:Int) (t u:Tok) (s:Shared) (Q:Value->Shared->Prop) (E:Value->Shared->Prop),Q (.bool (g i j)) s->wpAny (model X.prog X.w) X.A (f (.int i t) (.int j u)) Q E s) :
  OpR X f (rI0 fun i j=>.bl (g i j)):=by
 intro pins s σ H x y v u Q I rx ry h;obtain⟨i,j,rfl,rfl,q⟩:=h;obtain⟨t,rfl⟩:=rx;obtain⟨t',rfl⟩:=ry;exact rule i j t t' s _ _ ⟨.bl (g i j),H,I,rfl,q⟩
def sD(i j:Int):Prop:=0<j/\j<1073741824
def sE(i j:Int):Prop:=0<=j/\j<=1000000/\i.natAbs<2^64
def sk(i j:Int):Prop:=(-(2^64)<i/\i<2^64)\/(-(2^64)<j/\j<2^64)
theorem sk.ok{i j:Int}(h:sk i j):IntMulOk i j:=by
 rcases h with ⟨h1,h2⟩|⟨h1,h2⟩
 .exact .of_left (intBits_le_64 h1 h2)
 .exact .of_right (intBits_le_64 h1 h2)
theorem qA:OpR X (binaryOp .Add) (rI0 fun i j=>.int (i+j)):=uj fun _ _ _ _ _ _ _ q=>add_int q
theorem qB:OpR X (binaryOp .Sub) (rI0 fun i j=>.int (i - j)):=uj fun _ _ _ _ _ _ _ q=>sub_int q
theorem qC:OpR X (binaryOp .Mult) (rI sk fun i j=>.int (i*j)):=opI fun _ _ _ _ _ _ _ hc q=>mul_int q hc.ok
theorem nV:OpR X (binaryOp .FloorDiv) (rI sD fun i j=>.int (i / j)):=opI fun i j _ _ _ _ _ hc q=>by
 have h1:(0:Int)<j:=hc.1;have h2:j<1073741824:=hc.2;exact floordiv_int (by omega) (by rw [fdiv_eq_ediv_of_nonneg i (by omega)];exact q) (.inl (PyProof.noPylong_small (by omega)))
theorem qD:OpR X (binaryOp .Mod) (rI (fun _ j=>0<j) fun i j=>.int (i % j)):=opI fun i j _ _ _ _ _ hc q=>by
 have h1:(0:Int)<j:=hc;exact mod_int' (by omega) (by rw [fmod_eq_emod_of_nonneg i (by omega)];exact q)
theorem qE:OpR X (binaryOp .Pow) (rI sE fun i j=>.int (i^j.toNat)):=opI fun _ _ _ _ _ _ _ hc q=>pow_int_small hc.1 hc.2.1 hc.2.2 q
theorem unI{f:Value->Sem Value}{g:Int->Int}
  (rule:∀(i:Int) (t:Tok) (s:Shared) (Q:Value->Shared->Prop) (E:Value->Shared->Prop),Q (.int (g i) s.toks) { s with toks:=s.toks+1 }->wpAny (model X.prog X.w) X.A (f (.int i t)) Q E s) :
  UnR X f (rU fun i=>.int (g i)):=by
 intro pins s σ H x v Q I rx h;obtain⟨i,rfl,q⟩:=h;obtain⟨t,rfl⟩:=rx;exact rule i t s _ _ ⟨.int (g i),H,I.tok _,⟨_,rfl⟩,q⟩
theorem mZ:UnR X (unaryOp .USub) (rU fun i=>.int (-i)):=unI fun _ _ _ _ _ q=>neg_int q
end
def uk:V->V->Bool
 | .non,.non=>true|.non,.int _=>true|.int _,.non=>true|.non,.bl _=>true|.bl _,.non=>true|.non,.str _=>true|.str _,.non=>true
 | .int _,.int _=>true|.bl _,.bl _=>true|.str _,.str _=>true|.byt _,.byt _=>true
 | .int _,.str _=>true|.str _,.int _=>true|.bl _,.str _=>true|.str _,.bl _=>true
 | _,_=>false
def rEq:R2:=fun x y H Q=>uk x y=true/\Q (.bl (decide (x=y))) H
def rNe:R2:=fun x y H Q=>uk x y=true/\Q (.bl (!decide (x=y))) H
theorem kz{i j:Int}:decide (V.int i=V.int j)=(i == j):=by
 rw [Bool.eq_iff_iff];simp
theorem m4{i j:Bool}:decide (V.bl i=V.bl j)=(i == j):=by
 rw [Bool.eq_iff_iff];simp
theorem kA{i j:Str}:decide (V.str i=V.str j)=(i == j):=by
 rw [Bool.eq_iff_iff];simp
theorem kB{i j:Array UInt8}:decide (V.byt i=V.byt j)=(i.toList == j.toList):=by
 rw [Bool.eq_iff_iff];cases i;cases j;simp
section
variable {X:Cx}{a b c:Expr}{ta tb tc:TE}{pos:Pos}
theorem aY{pins:List (Addr×Obj)}{σ:St}{H:Hp}{s:Shared}{Q:VK}{k k':Bool}(I:Inv X pins σ H s)(q:Q (.bl k) H)(e:k=k'):EP X pins σ Q (.bool k') s:=by
 subst e;exact⟨.bl k,H,I,rfl,q⟩
theorem sF:OpR X (compareOp .Eq) rEq:=by
 intro pins s σ H x y v u Q I rx ry h;obtain⟨hs,q⟩:=h
 cases x with
 | non =>
  cases rx
  cases y with
  | non=>cases ry;exact PySem.EqNone.eq_none_none (aY I q (by simp))
  | bl j=>cases ry;exact PySem.EqNone.eq_none_bool (aY I q (by simp))
  | int j=>obtain⟨t',rfl⟩:=ry;exact PySem.EqNone.eq_none_int (aY I q (by simp))
  | str j=>obtain⟨t',rfl⟩:=ry;exact PySem.EqNone.eq_none_str (aY I q (by simp))
  | _=>exact absurd (show false=true from hs) Bool.false_ne_true
 | bl i =>
  cases rx
  cases y with
  | non=>cases ry;exact PySem.EqNone.eq_bool_none (aY I q (by simp))
  | bl j=>cases ry;exact eq_bool (aY I q m4)
  | str j=>obtain⟨t',rfl⟩:=ry;exact PySem.EqMixed.eq_bool_str (aY I q (by simp))
  | _=>exact absurd (show false=true from hs) Bool.false_ne_true
 | int i =>
  obtain⟨t,rfl⟩:=rx
  cases y with
  | non=>cases ry;exact PySem.EqNone.eq_int_none (aY I q (by simp))
  | int j=>obtain⟨t',rfl⟩:=ry;exact eq_int (aY I q kz)
  | str j=>obtain⟨t',rfl⟩:=ry;exact PySem.EqMixed.eq_int_str (aY I q (by simp))
  | _=>exact absurd (show false=true from hs) Bool.false_ne_true
 | str i =>
  obtain⟨t,rfl⟩:=rx
  cases y with
  | non=>cases ry;exact PySem.EqNone.eq_str_none (aY I q (by simp))
  | bl j=>cases ry;exact PySem.EqMixed.eq_str_bool (aY I q (by simp))
  | int j=>obtain⟨t',rfl⟩:=ry;exact PySem.EqMixed.eq_str_int (aY I q (by simp))
  | str j=>obtain⟨t',rfl⟩:=ry;exact eq_str (aY I q kA)
  | _=>exact absurd (show false=true from hs) Bool.false_ne_true
 | byt i =>
  obtain⟨t,rfl⟩:=rx
  cases y with
  | byt j=>obtain⟨t',rfl⟩:=ry;exact PySem.W.eq_bytes (aY I q kB)
  | _=>exact absurd (show false=true from hs) Bool.false_ne_true
 | _=>cases y <;> exact absurd (show false=true from hs) Bool.false_ne_true
theorem sG:OpR X (compareOp .NotEq) rNe:=by
 intro pins s σ H x y v u Q I rx ry h;obtain⟨hs,q⟩:=h
 cases x with
 | non =>
  cases rx
  cases y with
  | non=>cases ry;exact PySem.EqNone.ne_none_none (aY I q (by simp))
  | bl j=>cases ry;exact PySem.EqNone.ne_none_bool (aY I q (by simp))
  | int j=>obtain⟨t',rfl⟩:=ry;exact PySem.EqNone.ne_none_int (aY I q (by simp))
  | str j=>obtain⟨t',rfl⟩:=ry;exact PySem.EqNone.ne_none_str (aY I q (by simp))
  | _=>exact absurd (show false=true from hs) Bool.false_ne_true
 | bl i =>
  cases rx
  cases y with
  | non=>cases ry;exact PySem.EqNone.ne_bool_none (aY I q (by simp))
  | bl j=>cases ry;exact ne_bool (aY I q (congrArg not m4))
  | str j=>obtain⟨t',rfl⟩:=ry;exact PySem.EqMixed.ne_bool_str (aY I q (by simp))
  | _=>exact absurd (show false=true from hs) Bool.false_ne_true
 | int i =>
  obtain⟨t,rfl⟩:=rx
  cases y with
  | non=>cases ry;exact PySem.EqNone.ne_int_none (aY I q (by simp))
  | int j=>obtain⟨t',rfl⟩:=ry;exact ne_int (aY I q (congrArg not kz))
  | str j=>obtain⟨t',rfl⟩:=ry;exact PySem.EqMixed.ne_int_str (aY I q (by simp))
  | _=>exact absurd (show false=true from hs) Bool.false_ne_true
 | str i =>
  obtain⟨t,rfl⟩:=rx
  cases y with
  | non=>cases ry;exact PySem.EqNone.ne_str_none (aY I q (by simp))
  | bl j=>cases ry;exact PySem.EqMixed.ne_str_bool (aY I q (by simp))
  | int j=>obtain⟨t',rfl⟩:=ry;exact PySem.EqMixed.ne_str_int (aY I q (by simp))
  | str j=>obtain⟨t',rfl⟩:=ry;exact ne_str (aY I q (congrArg not kA))
  | _=>exact absurd (show false=true from hs) Bool.false_ne_true
 | byt i =>
  obtain⟨t,rfl⟩:=rx
  cases y with
  | byt j=>obtain⟨t',rfl⟩:=ry;exact PySem.W.ne_bytes (aY I q (congrArg not kB))
  | _=>exact absurd (show false=true from hs) Bool.false_ne_true
 | _=>cases y <;> exact absurd (show false=true from hs) Bool.false_ne_true
theorem sH:OpR X (compareOp .Lt) (rI0 fun i j=>.bl (decide (i<j))):=qz fun _ _ _ _ _ _ _ q=>lt_int q
theorem sI:OpR X (compareOp .LtE) (rI0 fun i j=>.bl (decide (i<=j))):=qz fun _ _ _ _ _ _ _ q=>le_int q
theorem sJ:OpR X (compareOp .Gt) (rI0 fun i j=>.bl (decide (j<i))):=qz fun _ _ _ _ _ _ _ q=>gt_int q
theorem kC:OpR X (compareOp .Lt) (fun x y H Q=>∃i j,x=.str i/\y=.str j/\Q (.bl (decide (i.cps.toList<j.cps.toList))) H):=by
 intro pins s σ H x y v u Q I rx ry h;obtain⟨i,j,rfl,rfl,q⟩:=h;obtain⟨t,rfl⟩:=rx;obtain⟨t',rfl⟩:=ry;exact lt_str (aY I q rfl)
theorem OpR.or{f:Value->Value->Sem Value}{r r':R2}(h:OpR X f r)(h':OpR X f r'):OpR X f (fun x y H Q=>r x y H Q\/r' x y H Q):=by
 intro pins s σ H x y v u Q I rx ry q
 rcases q with q|q
 .exact h pins s σ H x y v u Q I rx ry q
 .exact h' pins s σ H x y v u Q I rx ry q
theorem bA(b:Expr){op:CmpOp}(h:op≠.In:=by decide)(h2:op≠.NotIn:=by decide):behindInMarks op b=false:=by
 have e1:(op == CmpOp.In)=false:=by cases op <;> first|rfl|exact absurd rfl h
 have e2:(op == CmpOp.NotIn)=false:=by cases op <;> first|rfl|exact absurd rfl h2
 cases b <;> simp [behindInMarks,e1,e2]
theorem gE{op:CmpOp}{r:R2}(ho:OpR X (compareOp op) r)(ha:PE X a ta)(hb:PE X b tb)(hm:behindInMarks op b=false):PE X (.Compare a [op] [b] pos) (tOp r ta tb):=by
 intro pins s σ H Q I h;exact wpAny_Compare1 (sC ha hb I h fun v u s2 x y H2 I2 rx ry q=>ho pins s2 σ H2 x y v u Q I2 rx ry q) hm
def nW(t:TE):TT:=fun σ H Q=>t σ H fun x H'=>∃k,x=.bl k/\Q k H'
theorem bn{op:CmpOp}{r:R2}(ho:OpR X (compareOp op) r)(ha:PE X a ta)(hb:PE X b tb)(hm:behindInMarks op b=false):PT X (.Compare a [op] [b] pos) (nW (tOp r ta tb)):=by
 intro pins s σ H Q I h
 refine wpAny_isTrue_Compare1 (thn (ha pins s σ H _ I h) fun v s1 ⟨x,H1,I1,r1,q1⟩=>thn (hb pins s1 σ H1 _ I1 q1) fun u s2 ⟨y,H2,I2,r2,q2⟩ =>
  thn (ho pins s2 σ H2 x y v u _ I2 r1 r2 q2) fun c s3 ⟨z,H3,I3,r3,k,e,q3⟩=>?_) hm
 subst e;cases r3;exact wpAny_truthy_bool ⟨H3,I3,q3⟩
def m5(r r':R2)(ta tb tc:TE):TE:=fun σ H Q=>ta σ H fun x H1=>tb σ H1 fun y H2=>r x y H2 fun z H3=>∃k,z=.bl k /\
 (if k=true then tc σ H3 fun w' H4=>r' y w' H4 Q else Q (.bl false) H3)
theorem ma{op op':CmpOp}{r r':R2}(ho:OpR X (compareOp op) r)(ho':OpR X (compareOp op') r')(ha:PE X a ta)(hb:PE X b tb)(hc:PE X c tc)
  (hm:lastMarks [op,op'] [b,c]=false:=by with_unfolding_all rfl):PT X (.Compare a [op,op'] [b,c] pos) (nW (m5 r r' ta tb tc)):=by
 intro pins s σ H Q I h
 refine isTrue_chain (thn (ha pins s σ H _ I h) fun v s1 ⟨x,H1,I1,r1,q1⟩=>test_link (thn (hb pins s1 σ H1 _ I1 q1) fun u s2 ⟨y,H2,I2,r2,q2⟩ =>
  thn (ho pins s2 σ H2 x y v u _ I2 r1 r2 q2) fun d s3 ⟨z,H3,I3,r3,k,e,q3⟩=>?_)) hm
 subst e;cases r3;refine wpAny_truthy_bool ?_
 cases k with
 | false =>
  obtain⟨k',e',q'⟩:=q3;cases e';exact ite_ff ⟨H3,I3,q'⟩
 | true =>
  refine ite_tt (test_last (thn (hc pins s3 σ H3 _ I3 q3) fun w' s4 ⟨z',H4,I4,r4,q4⟩=>thn (ho' pins s4 σ H4 y z' u w' _ I4 r2 r4 q4) fun d' s5 ⟨z2,H5,I5,r5,k2,e2,q5⟩=>?_));subst e2;cases r5;exact wpAny_truthy_bool ⟨H5,I5,q5⟩
theorem h8:(sizeLine:Nat)<2^63:=by rw [sizeLine_eq];decide
theorem j3:OpR X (binaryOp .Add) (fun x y H Q=>∃i j,x=.str i/\y=.str j/\i.length+j.length<=sizeLine/\Q (.str (i++j)) H):=by
 intro pins s σ H x y v u Q I rx ry h;obtain⟨i,j,rfl,rfl,hz,q⟩:=h;obtain⟨t,rfl⟩:=rx;obtain⟨t',rfl⟩:=ry;exact add_str (fun t' tk=>⟨.str (i++j),H,I.tok _,⟨_,rfl⟩,q⟩) hz
theorem iU{x:V}{us:List Value}(r:bo [x] us):∃u,us=[u]/\ck x u:=by
 cases r with
 | cons r1 r2=>cases r2;exact⟨_,rfl,r1⟩
theorem md{x y:V}{us:List Value}(r:bo [x,y] us):∃u w',us=[u,w']/\ck x u/\ck y w':=by
 cases r with
 | cons r1 r2 =>
  cases r2 with
  | cons r3 r4=>cases r4;exact⟨_,_,rfl,r1,r3⟩
theorem kE(hc:X.calm=true):bG X (.builtin "min") (fun xs H Q=>∃i j,xs=[.int i,.int j]/\Q (.int (if j<i then j else i)) H):=by
 intro pins s σ H xs us Q I r h;obtain⟨i,j,rfl,q⟩:=h;obtain⟨u,w',rfl,⟨t,rfl⟩,⟨t',rfl⟩⟩:=md r;refine min_two_ints (I.ok.hd hc) fun h' tk k=>⟨_,H,I.kept k,?_,q⟩
 by_cases hj:j<i
 .rw [if_pos hj,if_pos hj];exact⟨_,rfl⟩
 .rw [if_neg hj,if_neg hj];exact⟨_,rfl⟩
end
structure sK (h:Heap) (x dx C:Addr) (mA:Str->Option Value):Prop where
 obj:h.get? x=some (PySem.W.instObj C dx)
 ns:h.Ns1 dx mA
 ne:dx≠x
theorem kF{h:Heap}{dx:Addr}{mA:Str->Option Value}(n:h.Ns1 dx mA):∃od,h.get? dx=some od/\∀name,PySem.W.lookIn name od=some (mA name):=by
 obtain⟨o,es,ep,ho,hd,hk,_,hm⟩:=n;refine⟨o,ho,fun name=>?_⟩;have e:=hm name;unfold nsFind findBy at e;rw [<- Array.find?_toList] at e;unfold PySem.W.lookIn;rw [hd];dsimp only
 split
 .rename_i y q;rw [q] at e;exact congrArg some e
 .rename_i q;rw [q] at e
  have a:es.toList.any (·.refKey)=false:=by
   rw [any_eq_false];intro y hy;obtain⟨z,t,hkey⟩:=hk y (Array.mem_toList_iff.mp hy);simp [DictEntry.refKey,hkey]
  have a':¬ es.toList.any (·.refKey)=true:=by rw [a];exact Bool.false_ne_true
  rw [if_neg a'];exact congrArg some e
theorem sK.look{h:Heap}{x dx C:Addr}{mA:Str->Option Value}(I:sK h x dx C mA):∃od,PySem.W.InstAt h x (PySem.W.instObj C dx) C (some od)/\∀name,PySem.W.lookIn name od=some (mA name) :=
 let ⟨od,ho,hl⟩:=kF I.ns
 ⟨od,⟨I.obj,rfl,rfl,ho⟩,hl⟩
theorem mV.some_of{v:V}{o:Option Value}(r:mV (some v) o):∃u,o=some u/\ck v u:=by
 cases o with
 | none=>exact (show False from r).elim
 | some u=>exact⟨u,rfl,r⟩
section
variable {P:Program}{w:World}{H H':Hp}{h h':Heap}{a C dx:Addr}{fs fs':List (Str×V)}
theorem nX(hok:HOk P w H h)(e:H a=some (.ins C dx fs)):∃mA,sK h a dx C mA/\(∀f,mV (fs.lookup f) (mA f))/\PySem.Within mA (fs.map (·.1))/\fs.length<=1000/\H dx=some (.own a):=by
 obtain⟨d,z,ne,ob,mA,n,r,q⟩:=(show bc P w H h a (.ins C dx fs) from hok a _ e)
 exact⟨mA,⟨ob,n,ne⟩,r,q,z,d⟩
end
structure Cls (K:PySem.W.Frag) (C:Addr):Prop where
 pg:PySem.W.plainGet K C Str.empty=true
 hd:PySem.W.hasDictIn K C=true
 po:PySem.W.plainOver K C=true
 sa:PySem.W.findIn K (.ref C) "__setattr__"=some (some (.builtin "object.__setattr__"))
theorem Cls.get{K:PySem.W.Frag}{C:Addr}(c:Cls K C)(f:Str):PySem.W.plainGet K C f=true:=c.pg
section
variable {X:Cx}{pins:List (Addr×Obj)}{σ:St}{H:Hp}{s:Shared}{a C dx:Addr}{fs:List (Str×V)}{f:Str}{v:V}{A:Around}{E:Value->Shared->Prop}
theorem nY{prog:Program}{w:World}{env:Env}{e:Expr}{f:Str}{pos:Pos}{s:Shared}{Q:Value->Shared->Prop}(hb:attributeBase e f env (eval e env)=eval e env)
  (h:wpAny (model prog w) A (eval e env) (fun o s₁=>wpAny (model prog w) A (getAttr o f true) Q E s₁) E s):wpAny (model prog w) A (eval (.Attribute e f pos) env) Q E s :=
 Attribute_any_ h (by rw [arm_eval_Attribute,hb])
end
section
variable {X:Cx}{pins:List (Addr×Obj)}{σ:St}{H:Hp}{s:Shared}{A:Around}{E:Value->Shared->Prop}{Q:Value->Shared->Prop}{c:Value}{b:Bool}
inductive iV (K:PySem.W.Frag) (H:Hp):V->Value->Prop where
 | non:iV K H .non (.type "NoneType")
 | bl (x:Bool):iV K H (.bl x) (.type "bool")
 | int (i:Int):iV K H (.int i) (.type "int")
 | str (x:Str):iV K H (.str x) (.type "str")
 | flt (x:UInt64):iV K H (.flt x) (.type "float")
 | lst {a:Addr}{xs:List V} (e:H a=some (.lst xs)):iV K H (.ref a) (.type "list")
 | frz {a:Addr}{o:Obj}{xs:List V} (e:H a=some (.frz o (.lst xs))):iV K H (.ref a) (.type "list")
 | tup {a:Addr}{xs:List V} (e:H a=some (.tup xs)):iV K H (.ref a) (.type "tuple")
 | dK {a:Addr}{kvs:List (Key×V)} (e:H a=some (.dK kvs)):iV K H (.ref a) (.type "dict")
 | dT {a:Addr}{kvs:List (List Key×V)} (e:H a=some (.dT kvs)):iV K H (.ref a) (.type "dict")
 | ins {a C dx:Addr}{fs:List (Str×V)} (e:H a=some (.ins C dx fs)) (cl:Cls K C) (ha:PySem.W.findIn K (.ref C) "__class__"=some (some (.builtin "object.__class__")))
   (hn:PySem.W.specialIn K (.builtin "object.__class__") "__get__"=some (some (.builtin "getset_descriptor.__get__"))) (htk:PySem.W.takesIn K (.builtin "object.__class__")=some true)
   (hm:PySem.W.mroIn K C (.type "object")=some true):iV K H (.ref a) (.ref C)
theorem kG{x:V}{u t:Value}(I:Inv X pins σ H s)(rx:ck x u)(ty:iV X.K H x t)(e:PySem.W.kitOne X.K t c=some b)(h:∀tk,Q (.bool b) { s with toks:=tk }) :
  wpAny (model X.prog X.w) A (call (.builtin "isinstance") [u,c]) Q E s:=by
 cases ty with
 | non=>cases (show u=Value.none from rx);exact PySem.W.kia_one PySem.W.kitx_none I.kIn True.intro e (fun z=>nomatch z) h
 | bl y=>cases (show u=Value.bool y from rx);exact PySem.W.kia_one PySem.W.kitx_bool I.kIn True.intro e (fun z=>nomatch z) h
 | int i=>obtain⟨t,q⟩:=(show ∃t,u=Value.int i t from rx);cases q;exact PySem.W.kia_one PySem.W.kitx_int I.kIn True.intro e (fun z=>nomatch z) h
 | str y=>obtain⟨t,q⟩:=(show ∃t,u=Value.str y t from rx);cases q;exact PySem.W.kia_one PySem.W.kitx_str I.kIn True.intro e (fun z=>nomatch z) h
 | flt y=>obtain⟨t,q⟩:=(show ∃t,u=Value.float y t from rx);cases q;exact PySem.W.kia_one PySem.W.kitx_float I.kIn True.intro e (fun z=>nomatch z) h
 | @lst a xs ea =>
  cases (show u=Value.ref a from rx);obtain⟨_,_,n,_,h1⟩:=(show bc X.prog X.w H s.heap a (.lst xs) from I.hok a _ ea)
  exact PySem.W.kia_one PySem.W.kitx_list I.kIn ⟨_,h1,rfl⟩ e (fun z=>nomatch z) h
 | @frz a ob xs ea =>
  cases (show u=Value.ref a from rx);obtain⟨_,_,_,n,_,h1⟩:=(show bc X.prog X.w H s.heap a (.frz ob (.lst xs)) from I.hok a _ ea)
  exact PySem.W.kia_one PySem.W.kitx_list I.kIn ⟨_,h1,rfl⟩ e (fun z=>nomatch z) h
 | @tup a xs ea =>
  cases (show u=Value.ref a from rx);obtain⟨_,_,_,p⟩:=(show bc X.prog X.w H s.heap a (.tup xs) from I.hok a _ ea)
  obtain⟨o,h1,h2,_⟩:=p;exact PySem.W.kia_one PySem.W.kitx_tuple I.kIn ⟨o,h1,h2⟩ e (fun z=>nomatch z) h
 | @dK a kvs ea =>
  cases (show u=Value.ref a from rx);obtain⟨_,_,vs,_,p⟩:=(show bc X.prog X.w H s.heap a (.dK kvs) from I.hok a _ ea)
  obtain⟨o,es,ep,h1,h2,_⟩:=p;exact PySem.W.kia_one PySem.W.kitx_dict I.kIn ⟨o,h1,h2.1⟩ e (fun z=>nomatch z) h
 | @dT a kvs ea =>
  cases (show u=Value.ref a from rx);obtain⟨_,_,xs,_,o,es,ep,h1,h2,_⟩:=(show bc X.prog X.w H s.heap a (.dT kvs) from I.hok a _ ea)
  exact PySem.W.kia_one PySem.W.kitx_dict I.kIn ⟨o,h1,h2.1⟩ e (fun z=>nomatch z) h
 | @ins a C dx fs ea cl ha hn htk hm =>
  cases (show u=Value.ref a from rx);obtain⟨mA,O,_⟩:=nX I.hok ea;obtain⟨od,J,_⟩:=O.look;exact PySem.W.kia_one (PySem.W.kitx_own (cl.get _) cl.hd ha hn htk hm) I.kIn J e (fun z=>nomatch z) h
end
structure dU (k:Nat) (A:Around):Prop where
 hd:A.handled=none
 dp:A.depth+3*k+5<recursionLimit
 un:A.units+16*k+200<cLine
theorem dU.mono{j k:Nat}{A:Around}(r:dU k A)(h:j<=k):dU j A:=⟨r.hd,by have:=r.dp;omega,by have:=r.un;omega⟩
theorem dU.deeper{k:Nat}{A:Around}(r:dU (k+1) A)(env:Env):dU k (A.deeper env) :=
 ⟨r.hd,by have:=r.dp;show A.depth+1+3*k+5<_;omega,by have:=r.un;show A.units+3+16*k+200<_;omega⟩
theorem j4{A:Around}{C:Addr}{us:List Value}{kw:List (Str×Value)}:(A.under (.builtin "type.__call__" ⟨.ref C::us,kw⟩)).depth=A.depth+1:=by
 first|rfl|simp [Around.under,Code.weight,Code.isCreation,Code.isGuard,Code.isCaller,Code.frames,Code.isFrame,guardIds]
theorem j5{A:Around}{C:Addr}{us:List Value}{kw:List (Str×Value)}:(A.under (.builtin "type.__call__" ⟨.ref C::us,kw⟩)).units=A.units+1:=by
 first|rfl|simp [Around.under,Code.cUnits,Code.frames,Code.isFrame]
theorem dU.make{k:Nat}{A:Around}(r:dU (k+1) A)(C:Addr)(us:List Value)(kw:List (Str×Value)):dU k (A.under (.builtin "type.__call__" ⟨.ref C::us,kw⟩)) :=
 ⟨r.hd,by have:=r.dp;rw [j4];omega,by have:=r.un;rw [j5];omega⟩
theorem dU.depth{k:Nat}{A:Around}(r:dU k A):A.depth<recursionLimit:=by have:=r.dp;omega
theorem dU.units{k:Nat}{A:Around}(r:dU k A):A.units+64<cLine:=by have:=r.un;omega
def me:TA:=fun _ H Q=>Q [] H
def dX(ta:TE)(tr:TA):TA:=fun σ H Q=>ta σ H fun x H1=>tr σ H1 fun xs H2=>Q (x::xs) H2
section
variable {X:Cx}{e:Expr}{es:List Expr}{te:TE}{t:TA}{pos:Pos}
theorem ah:PA X [] me:=fun _ _ _ _ H Q I h=>Calls.spliced_nil ⟨[],H,I,.nil,h⟩
theorem nZ(ha:PE X e te)(hr:PA X es t)(hs:starEach (e::es) X.env=(false,eval e X.env)::starEach es X.env:=by rfl):PA X (e::es) (dX te t):=by
 intro pos pins s σ H Q I h;rw [hs];show wpAny _ _ (spliced ((false,eval e X.env)::backTo pos (starEach es X.env))) _ _ s;refine Calls.spliced_cons (thn (ha pins s σ H _ I h) fun u s1 ⟨x,H1,I1,r1,q1⟩=>?_);exact thn (hr pos pins s1 σ H1 _ I1 q1) fun us s2 ⟨xs,H2,I2,r2,q2⟩=>⟨x::xs,H2,I2,.cons r1 r2,q2⟩
def ul(t:TA):TE:=fun σ H Q=>t σ H fun xs H1=>xs.length<=sizeLine/\∀p,H1 p=none->Q (.ref p) (upd H1 p (.tup xs))
def um(t:TA):TE:=fun σ H Q=>t σ H fun xs H1=>xs.length<=sizeLine/\∀p,H1 p=none->Q (.ref p) (upd H1 p (.lst xs))
theorem qF{x1}(h:PA X es t):PE X (.Tuple es x1 pos) (ul t):=by
 intro pins s σ H Q I hq;refine wpAny_Tuple_spliced (thn (h pos pins s σ H _ I hq) fun us s1 ⟨xs,H1,I1,r,z,q⟩=>⟨by rw [<- r.length];exact z,?_⟩);have hf:H1 s1.heap.objs.size=none:=I1.hok.fresh (le_refl _);refine⟨.ref s1.heap.objs.size,upd H1 s1.heap.objs.size (.tup xs),I1.laid (t':=s1.toks) (fun b u e=>Heap.get?_push_of_some _ e) (le_refl _) ?_,rfl,q _ hf⟩;exact⟨z,us,r,⟨_,Heap.get?_push_size _ rfl,rfl,_,rfl⟩⟩
theorem cp(h:PA X es t):PE X (.List es pos) (um t):=by
 intro pins s σ H Q I hq;refine wpAny_List_spliced (thn (h pos pins s σ H _ I hq) fun us s1 ⟨xs,H1,I1,r,z,q⟩=>⟨by rw [<- r.length];exact z,?_⟩);have hf:H1 s1.heap.objs.size=none:=I1.hok.fresh (le_refl _);refine⟨.ref s1.heap.objs.size,upd H1 s1.heap.objs.size (.lst xs),I1.laid (t':=s1.toks) (fun b u e=>Heap.get?_push_of_some _ e) (le_refl _) ?_,rfl,q _ hf⟩;exact⟨z,us,0,r,Heap.get?_push_size _ rfl⟩
end
abbrev Sp:=List V->Hp->VK->XK->Prop
abbrev CXT:=List Env->Hp->Shared->XK->Value->Shared->Prop
structure mf (P:Program) (w:World) (K:PySem.W.Frag) (mg:Str->Option Value) (base:Heap) (A:Around) (outer:List Env) (s:Shared) (H:Hp):Prop where
 frames:A.frames=some outer
 mod:Mod K mg base
 bs:∀b o,base.get? b=some o->s.heap.get? b=some o/\H b=none
 bsz:base.objs.size<=s.heap.objs.size
 funs:s.heap.FunFrames base outer
 frf:∀b∈frs outer,H b=none
 hok:HOk P w H s.heap
 bare:AllBare s.gens
def CE(outer:List Env)(P:Program)(w:World)(H:Hp)(s:Shared)(Q:VK)(u:Value)(s':Shared):Prop :=
 ∃v H',s'.os=s.os/\AllBare s'.gens/\Un (frs outer) [] H H' s.heap s'.heap/\HOk P w H' s'.heap/\ck v u/\Q v H'
def CR(CX:CXT)(outer:List Env)(P:Program)(w:World)(H:Hp)(s:Shared)(Q:VK)(E:XK)(r:Result)(s':Shared):Prop :=
 match r with
 | .ok (.ret u)=>CE outer P w H s Q u s'
 | .ok _=>False
 | .error e=>CX outer H s E e s'
structure iW (P:Program) (w:World) (K:PySem.W.Frag) (mg:Str->Option Value) (base:Heap) (CX:CXT) (k:Nat) (f:Addr) (fd:FuncData) (ps:List Str) (sp:Sp):Prop where
 len:∀vs H Q E,sp vs H Q E->vs.length=ps.length
 run:∀(A:Around) (outer:List Env) (s:Shared) (H:Hp) (args:Args) (us:List Value) (vs:List V) (Q:VK) (E:XK),dU k A->mf P w K mg base A outer s H->BindsTo s fd args (ps.zip us)->bo vs us->sp vs H Q E ->
  codeAny (model P w) A (.call (.ref f) args) (CR CX outer P w H s Q E) s
theorem iW.imp{P:Program}{w:World}{K:PySem.W.Frag}{mg:Str->Option Value}{base:Heap}{CX:CXT}{k:Nat}{f:Addr}{fd:FuncData}{ps:List Str}{sp sp':Sp}(F:iW P w K mg base CX k f fd ps sp)
  (h:∀vs H Q E,sp' vs H Q E->sp vs H Q E):iW P w K mg base CX k f fd ps sp' :=
 ⟨fun vs H Q E q=>F.len vs H Q E (h _ _ _ _ q),fun A outer s H args us vs Q E hr he hb hv hs=>F.run A outer s H args us vs Q E hr he hb hv (h _ _ _ _ hs)⟩
theorem mf.make{P:Program}{w:World}{K:PySem.W.Frag}{mg:Str->Option Value}{base:Heap}{A:Around}{outer:List Env}{s:Shared}{H:Hp}(e:mf P w K mg base A outer s H)(C:Addr)(us:List Value)(kw:List (Str×Value)) :
  mf P w K mg base (A.under (.builtin "type.__call__" ⟨.ref C::us,kw⟩)) outer s H:=⟨by first|exact e.frames|(simpa [Around.under,Code.envs,Code.isFrame,pushEnvs] using e.frames),e.mod,e.bs,e.bsz,e.funs,e.frf,e.hok,e.bare⟩
section
variable {X:Cx}{pins:List (Addr×Obj)}{σ:St}{H:Hp}{s s':Shared}
theorem Inv.env0(I:Inv X pins σ H s):mf X.prog X.w X.K X.mg X.base X.A X.stack s H :=
 ⟨I.ok.frames,I.ok.mod,I.bs,le_trans I.ok.bsz I.sz,I.stack,I.stkFree,I.hok,I.bare⟩
theorem Inv.after{Q:VK}{u:Value}(I:Inv X pins σ H s)(h:CE X.stack X.prog X.w H s Q u s'):EP X pins σ Q u s':=by
 obtain⟨v,H',os,bare,un,hok,r,q⟩:=h;obtain⟨hh,g,d,t,os'⟩:=s';obtain rfl:os'=s.os:=os;exact⟨v,H',I.call (h':=hh) (g':=g) (d':=d) (t':=t) (ch:=[]) un hok bare (fun b z=>absurd z (by simp)),r,q⟩
end
def j6(sp:Sp)(dvs:List V)(E:XK)(t:TA):TE:=fun σ H Q=>t σ H fun vs H1=>sp (vs++dvs) H1 Q E
def gF(K:PySem.W.Frag)(fd:FuncData)(ps:List Str)(ds:List Value):Prop :=
 ∀(s:Shared) (us:List Value),K.In s.heap->(us++ds).length=ps.length->BindsTo s fd ⟨us,[]⟩ (ps.zip (us++ds))
theorem gF.all{K:PySem.W.Frag}{fd:FuncData}{ps:List Str}(h:∀us:List Value,us.length=ps.length->bindArgs fd ⟨us,[]⟩=pure (ps.zip us)):gF K fd ps []:=fun s us _ hl=>by
 rw [append_nil] at hl ⊢;exact .of_eq (h us hl)
def kH(CX:CXT)(X:Cx)(E:XK):Prop:=∀(pins:List (Addr×Obj)) (σ:St) (H:Hp) (s:Shared) (e:Value) (s':Shared),Inv X pins σ H s->CX X.stack H s E e s'->X.xe e s'
section
variable {X:Cx}{CX:CXT}{k:Nat}{f C:Addr}{fd:FuncData}{ps:List Str}{sp:Sp}{dvs:List V}{ds:List Value}{E:XK}{x m:Str}{p pos apos:Pos}{e o:Expr}{es:List Expr}{ta:TE}{t:TA}
theorem qG{pins:List (Addr×Obj)}{σ:St}{H:Hp}{s:Shared}{Q:VK}{us:List Value}{vs:List V}(F:iW X.prog X.w X.K X.mg X.base CX k f fd ps sp)(hr:dU k X.A)(hb:gF X.K fd ps ds)(hd:bo dvs ds)(hx:kH CX X E)
  (I:Inv X pins σ H s) (r:bo vs us) (h:sp (vs++dvs) H Q E):wpAny (model X.prog X.w) X.A (call (.ref f) us) (EP X pins σ Q) X.xe s:=by
 have r2:bo (vs++dvs) (us++ds):=r.append hd;have hl:(us++ds).length=ps.length:=by rw [<- r2.length];exact F.len _ _ _ _ h
 refine wpAny_call (codeAny_mono (F.run X.A X.stack s H ⟨us,[]⟩ (us++ds) (vs++dvs) Q E hr I.env0 (hb s us I.kIn hl) r2 h) fun r s' hq=>?_)
 cases r with
 | error e=>exact hx pins σ H s e s' I hq
 | ok fl =>
  cases fl with
  | ret u=>exact I.after hq
  | next=>exact False.elim hq
  | brk=>exact False.elim hq
  | cont=>exact False.elim hq
theorem n5(F:iW X.prog X.w X.K X.mg X.base CX k f fd ps sp)(hr:dU k X.A)(hg:Gl X x)(hm:X.mg x=some (.ref f))(hk:PySem.W.keepIn X.K (.ref f)=true)(hb:gF X.K fd ps ds)(hd:bo dvs ds)(hx:kH CX X E)
  (ha:PA X (e::es) t) (hdb:(x == ("__debug__":Str))=false:=by decide) (he:starEach (e::es) X.env=(false,eval e X.env)::starEach es X.env:=by rfl) (hpl:(backTo pos (starEach es X.env)).any (·.1)=false:=by rfl) :
  PE X (.Call (.Name x p) (e::es) [] pos) (j6 sp dvs E t):=by
 intro pins s σ H Q I h;refine wpAny_Call_Name_kw (ey I hg hm ?_ hdb);refine PySem.W.callWith_K (h₀:=X.base) I.ok.mod.kin hk (thn (ha pos pins s σ H _ I h) fun us s1 ⟨vs,H1,I1,r,q⟩=>⟨I1.kIn,?_⟩) he hpl;exact qG F hr hb hd hx I1 r q
end
structure aI (N P:List Str) (sc:Scope):Prop where
 kind:sc.kind=.function
 co:sc.isCoroutine=false
 gen:sc.isGenerator=false
 nd:N.Nodup
 pre:N.take P.length=P
 par:∀x∈P,sc.names.lookup x=some .local\/sc.names.lookup x=some .cell
 nofree:∀y∈sc.names,y.2≠.free
theorem h9{kindOf:Str->Option NameKind}{x:Str}:∀{binds:List (Str×Value)}{m:Str->Option Value},(∀v,(x,v)∉binds)->bindL kindOf binds m x=m x
 | [],_,_=>rfl
 | (n,v)::r,m,h=>by
  unfold bindL;rw [h9 fun w hw=>h w (mem_cons_of_mem _ hw)]
  split
  .have:x≠n:=by rintro rfl;exact h v mem_cons_self
   simp [this]
  .rfl
theorem ia{kindOf:Str->Option NameKind}{x:Str}:∀{binds:List (Str×Value)}{m:Str->Option Value},(∀v,(x,v)∉binds)->bindC kindOf binds m x=m x
 | [],_,_=>rfl
 | (n,v)::r,m,h=>by
  unfold bindC;rw [ia fun w hw=>h w (mem_cons_of_mem _ hw)]
  split
  .rfl
  .have:x≠n:=by rintro rfl;exact h v mem_cons_self
   simp [this]
theorem ib{kindOf:Str->Option NameKind}{x:Str}{v:Value}:∀{P:List Str}{vs:List Value}{i:Nat}{m:Str->Option Value},P.Nodup->P[i]?=some x->vs[i]?=some v->kindOf x=some .local ->
  bindL kindOf (P.zip vs) m x=some v
 | [],_,_,_,_,h,_,_=>by simp at h
 | _::_,[],_,_,_,_,h,_=>by simp at h
 | p::P,w::vs,0,m,nd,h1,h2,hk=>by
  simp at h1 h2;subst h1;subst h2;show bindL kindOf ((p,w)::P.zip vs) m p=_;unfold bindL;rw [h9 fun v hv=>(nodup_cons.mp nd).1 (of_mem_zip hv).1,if_pos hk];simp
 | p::P,w::vs,i+1,m,nd,h1,h2,hk=>by
  show bindL kindOf ((p,w)::P.zip vs) m x=_;unfold bindL;exact ib (i:=i) (nodup_cons.mp nd).2 (by simpa using h1) (by simpa using h2) hk
theorem ic{kindOf:Str->Option NameKind}{x:Str}{v:Value}:∀{P:List Str}{vs:List Value}{i:Nat}{m:Str->Option Value},P.Nodup->P[i]?=some x->vs[i]?=some v->kindOf x≠some .local ->
  bindC kindOf (P.zip vs) m x=some v
 | [],_,_,_,_,h,_,_=>by simp at h
 | _::_,[],_,_,_,_,h,_=>by simp at h
 | p::P,w::vs,0,m,nd,h1,h2,hk=>by
  simp at h1 h2;subst h1;subst h2;show bindC kindOf ((p,w)::P.zip vs) m p=_;unfold bindC;rw [ia fun v hv=>(nodup_cons.mp nd).1 (of_mem_zip hv).1,if_neg hk];simp
 | p::P,w::vs,i+1,m,nd,h1,h2,hk=>by
  show bindC kindOf ((p,w)::P.zip vs) m x=_;unfold bindC;exact ic (i:=i) (nodup_cons.mp nd).2 (by simpa using h1) (by simpa using h2) hk
def start(N:List Str)(vs:List V):St:=vs.map some++List.replicate (N.length - vs.length) none
def jB(CX:CXT)(P:Program)(w:World)(K:PySem.W.Frag)(mg:Str->Option Value)(base:Heap)(N:List Str)(qual:Str)(scope:Scope)(f:Addr)(cd:Value)(A:Around)(outer:List Env)(s:Shared)(H:Hp)(E:XK):Cx where
 prog:=P
 w:=w
 K:=K
 mg:=mg
 base:=base
 A:=A.deeper (envOfC qual scope s.heap.objs.size f cd)
 N:=N
 s₀:=s
 H₀:=H
 env:=envOfC qual scope s.heap.objs.size f cd
 outer:=outer
 stack:=envOfC qual scope s.heap.objs.size f cd::outer
 ex:=[]
 calm:=true
 fn:=fun _=>true
 pn:=[]
 xe:=fun e s'=>wpAny (model P w) (A.deeper (envOfC qual scope s.heap.objs.size f cd)) (leaving (envOfC qual scope s.heap.objs.size f cd) e) (fun _ s''=>CX outer H s E e s'') (fun e' s''=>CX outer H s E e' s'') s'
theorem jC{sc:Scope}{n:Nat}{x:Str}(h:sc.names.lookup x=some .cell):∃c,(cellsFrom n sc.names []).lookup x=some c:=by
 have q:=PySem.W.cellsFrom_some sc.names n [] (.inl h);exact Option.isSome_iff_exists.mp q
theorem ie{CX:CXT}{P:Program}{w:World}{K:PySem.W.Frag}{mg:Str->Option Value}{base:Heap}{N ps:List Str}{qual:Str}{scope:Scope}{f:Addr}{cd:Value}{A:Around}{outer:List Env}{s s1:Shared}{H:Hp}{E:XK}{us:List Value}{vs:List V}
  (S:aI N ps scope) (hd:A.handled=none) (e0:mf P w K mg base A outer s H) (hl:vs.length=ps.length) (r:bo vs us)
  (x:InCallC s s.heap.objs.size (bindL (envOfC qual scope s.heap.objs.size f cd).kindOf (ps.zip us) fun _=>none) (cellsFrom (s.heap.objs.size+1) scope.names []) (bindC (envOfC qual scope s.heap.objs.size f cd).kindOf (ps.zip us) fun _=>none) s1) :
  Inv (jB CX P w K mg base N qual scope f cd A outer s H E) [] (start N vs) H s1:=by
 have hpl:ps.length<=N.length:=by have:=congrArg List.length S.pre;rw [length_take] at this;omega
 obtain⟨h1,tk,rfl,hk⟩:=x.done;have noA:∀b:Addr,b∉(jB CX P w K mg base N qual scope f cd A outer s H E).ex:=fun b z=>absurd (show b∈([]:List Addr) from z) (by simp)
 refine⟨⟨e0.mod,S.kind,rfl,rfl,le_refl _,fun y z c h1 h2=>?_,fun y hy=>?_,fun y c _ h=>?_,fun _=>hd,Around.frames_deeper e0.frames,.inr ⟨rfl,rfl⟩,fun b z=>absurd z (noA b),e0.bs,e0.bsz,fun b _ _=>noA b,fun b z=>absurd z (noA b),e0.funs,e0.frf⟩,
  rfl,e0.bare,Un.kept hk,⟨_,x.toInCall.ns,fun i y v h1 h2 h3=>?_⟩,fun y c h=>⟨_,x.cell y c h⟩,e0.hok.fresh (le_refl _),fun y c h=>?_,fun p hp=>absurd (show p∈([]:List (Addr×Obj)) from hp) (by simp),e0.hok.kept hk,?_⟩
 .exact name_of_addr x.apart (PySem.mem_of_lookup h1) (PySem.mem_of_lookup h2)
 .have hy:scope.names.lookup y=some .cell\/scope.names.lookup y=some .free:=hy
  rcases hy with hy|hy
  .exact jC hy
  .exact absurd rfl (S.nofree _ (PySem.mem_of_lookup hy))
 .exact le_of_lt (x.above y c (PySem.mem_of_lookup h))
 .have hi:i<vs.length:=by
   unfold start at h2
   by_cases hi:i<vs.length
   .exact hi
   .rw [getElem?_append_right (by simpa using hi)] at h2;rw [getElem?_replicate] at h2;split at h2 <;> cases h2
  have ha:vs[i]?=some v:=by
   unfold start at h2;rw [getElem?_append_left (by simpa using hi),getElem?_map] at h2
   cases e:vs[i]? with
   | none=>rw [e] at h2;cases h2
   | some a=>rw [e] at h2;cases h2;rfl
  obtain⟨u,hu,rv⟩:=r.get ha
  have hp:ps[i]?=some y:=by
   rw [<- S.pre,getElem?_take_of_lt (by omega)];exact h1
  have ndP:ps.Nodup:=by rw [<- S.pre];exact S.nd.sublist (take_sublist _ _)
  refine⟨u,rv,?_⟩
  rcases S.par y (mem_of_getElem? hp) with k|k
  .exact .inl ⟨k,ib ndP hp hu k⟩
  .obtain⟨c,e⟩:=jC (n:=s.heap.objs.size+1) k;refine .inr ⟨.inl k,c,e,?_⟩;have q:=x.cell y c e;rw [ic ndP hp hu (by show scope.names.lookup y≠_;rw [k];decide)] at q;exact q
 .exact e0.hok.fresh (le_of_lt (x.above y c (PySem.mem_of_lookup h)))
 .unfold start;show _=N.length;rw [length_append,length_map,length_replicate];omega
theorem qH{CX:CXT}{P:Program}{w:World}{K:PySem.W.Frag}{mg:Str->Option Value}{base:Heap}{k:Nat}{f:Addr}{name qual:Str}{params:Arguments}{body:List Stmt}{scope:Scope}{dV kV doc pm cdv ct oc:Value}{an od:Option Addr}
  {osl:Array (Option Value)}{N ps:List Str}{sp:Sp} (lk:K.lookup f=some ⟨oc,od,.func (PySem.W.fnOf name qual params body scope dV kV doc pm an cdv ct),osl⟩) (hcd:PySem.W.codeIn K cdv qual=true) (S:aI N ps scope)
  (len:∀vs H Q E,sp vs H Q E->vs.length=ps.length)
  (hbody:∀(A:Around) (outer:List Env) (s:Shared) (H:Hp) (vs:List V) (Q:VK) (E:XK),dU k (A.deeper (envOfC qual scope s.heap.objs.size f cdv))->sp vs H Q E ->
   ∃t,PSs (jB CX P w K mg base N qual scope f cdv A outer s H E) body t/\t { nx:=fun _ H'=>Q .non H',rt:=Q } (start N vs) H) :
  iW P w K mg base CX (k+1) f (PySem.W.fnOf name qual params body scope dV kV doc pm an cdv ct) ps sp:=by
 refine⟨len,fun A outer s H args us vs Q E hr e0 hb r hsp=>?_⟩;have hl:=len _ _ _ _ hsp;have KX:K.In s.heap:=e0.mod.kin.keeps fun b o e=>(e0.bs b o e).1;have lim:s.heap.NoLimit:=e0.mod.nolimit.keeps fun b o e=>(e0.bs b o e).1
 have hkind:∀y∈ps.zip us,scope.names.lookup y.1=some .local\/(scope.names.lookup y.1=some .cell/\((cellsFrom (s.heap.objs.size+1) scope.names []).lookup y.1).isSome=true):=fun ⟨n,v⟩ hy=>by
  rcases S.par n (of_mem_zip hy).1 with q|q
  .exact .inl q
  .exact .inr ⟨q,PySem.W.cellsFrom_some _ _ _ (.inl q)⟩
 refine codeAny_call_function hr.depth (KX _ _ lk) rfl S.co S.gen rfl (PySem.W.codeRec_of KX hcd) (hb _ _ _ _ ?_);refine wpAny_newFunctionEnv_cells S.kind hkind fun env he s1 x=>?_;subst he;refine⟨lim.keeps x.toInCall.keep,codeAny_func ?_⟩;obtain⟨t,ht,hq⟩:=hbody A outer s H vs Q E (hr.deeper _) hsp;have I:Inv (jB CX P w K mg base N qual scope f cdv A outer s H E) [] (start N vs) H s1:=ie S hr.hd e0 hl r x
 refine wpAny_mono (ht [] s1 (start N vs) H _ I hq) (fun fl s' hs=>?_) fun e s' hs=>hs
 have fin:∀{σ':St}{H':Hp}{v:V}{u:Value},Inv (jB CX P w K mg base N qual scope f cdv A outer s H E) [] σ' H' s'->ck v u->Q v H'->CE outer P w H s Q u s' :=
  fun {σ' H' v u} J rv q=>⟨v,H',J.os,J.bare,J.base,J.hok,rv,q⟩
 cases fl with
 | ret u =>
  obtain⟨v,σ',H',J,rv,q⟩:=hs;exact fin J rv q
 | next =>
  obtain⟨σ',H',J,q⟩:=hs;exact fin (v:=V.non) (u:=Value.none) J rfl q
 | brk =>
  obtain⟨_,_,_,q⟩:=hs;exact False.elim q
 | cont =>
  obtain⟨_,_,_,q⟩:=hs;exact False.elim q
section
variable {X:Cx}{x:Str}{p pos:Pos}{e:Expr}{es:List Expr}{t:TA}{id T:String}{r:List V->Hp->VK->Prop}
def tCB(r:List V->Hp->VK->Prop)(t:TA):TE:=fun σ H Q=>t σ H fun vs H1=>r vs H1 Q
theorem mh(hc:bG X (.builtin id) r)(hg:Gl X x)(hm:X.mg x=none)(hv:bootBuiltins x=some (.builtin id))(ha:PA X (e::es) t)(hn:x≠"__name__":=by decide)(hdb:(x == ("__debug__":Str))=false:=by decide)
  (he:starEach (e::es) X.env=(false,eval e X.env)::starEach es X.env:=by rfl) (hpl:(backTo pos (starEach es X.env)).any (·.1)=false:=by rfl):PE X (.Call (.Name x p) (e::es) [] pos) (tCB r t):=by
 intro pins s σ H Q I h;refine wpAny_Call_Name_kw (eM I hg hm hv ?_ hn hdb);exact PyProof.Rows.callWith_builtin1 (thn (ha pos pins s σ H _ I h) fun us s1 ⟨vs,H1,I1,r1,q1⟩=>hc pins s1 σ H1 vs us Q I1 r1 q1) he hpl
theorem kI(hc:bG X (.type T) r)(hg:Gl X x)(hm:X.mg x=none)(hv:bootBuiltins x=some (.type T))(ha:PA X (e::es) t)(hn:x≠"__name__":=by decide)(hdb:(x == ("__debug__":Str))=false:=by decide)
  (he:starEach (e::es) X.env=(false,eval e X.env)::starEach es X.env:=by rfl) (hpl:(backTo pos (starEach es X.env)).any (·.1)=false:=by rfl):PE X (.Call (.Name x p) (e::es) [] pos) (tCB r t):=by
 intro pins s σ H Q I h;refine wpAny_Call_Name_kw (eM I hg hm hv ?_ hn hdb);exact PyProof.Rows.callWith_type1 (thn (ha pos pins s σ H _ I h) fun us s1 ⟨vs,H1,I1,r1,q1⟩=>hc pins s1 σ H1 vs us Q I1 r1 q1) he hpl
end
end L2
namespace HT
open PySem PyProof.Rows
section
open PySem.SeqAt
open PySem.AutoSeq1 (wpAny_loadPart')
open PySem.MeetsSeq PySem.MeetsSeq2 PySem.MeetsSeq3
end
section
variable {prog:Program}{w:World}{A:Around}{E:Value->Shared->Prop}{s:Shared}
theorem cat_tup{t b:Addr}{vs ws:List Value}{Q:Value->Shared->Prop}(ht:IsTup s.heap t vs.toArray)(hb:IsTup s.heap b ws.toArray)(hv:vs≠[])
  (h1:ws=[]->Q (.ref t) s) (h2:ws≠[]->Q (.ref s.heap.objs.size) { s with heap:=s.heap.push { cls:=.type "tuple",data:=.seq (vs++ws).toArray } })
  (hsz:vs.length+ws.length<=sizeLine):wpAny (model prog w) A (binaryOp .Add (.ref t) (.ref b)) Q E s:=by
 obtain⟨⟨cls,dd,data,sl⟩,ho,hc,n,hd⟩:=id ht;obtain⟨⟨cls2,dd2,data2,sl2⟩,ho2,hc2,n2,hd2⟩:=id hb;simp only at hc hd hc2 hd2;subst hc hd hc2 hd2;have e:vs.toArray++ws.toArray=(vs++ws).toArray:=by simp
 by_cases hw:ws=[]
 .exact concat_meets ⟨_,ho,rfl⟩ ⟨_,ho2,rfl⟩ noFill_tuple_add seq_tuple_add PySem.F.slot_tuple_add PySem.F.entry_tuple_add (PySem.F.args_tuple_add_2 _ _)
   (tuple_addW1 t b vs.toArray ws.toArray n n2 dd dd2 sl sl2 (by simpa using hv) (by simp [hw])) ⟨ho,ho2,h1 hw⟩
 .refine concat_meets ⟨_,ho,rfl⟩ ⟨_,ho2,rfl⟩ noFill_tuple_add seq_tuple_add PySem.F.slot_tuple_add PySem.F.entry_tuple_add (PySem.F.args_tuple_add_2 _ _)
   (tuple_addW2 t b vs.toArray ws.toArray n n2 dd dd2 sl sl2 (by simpa using hv) (by simpa using hw) (by rw [size_toArray,size_toArray];exact hsz)) ⟨ho,ho2,?_⟩
  rw [e];exact h2 hw
def sIx(n d:Nat):Option Int->Nat
 | none=>d
 | some v=>if v<0 then (v+(n:Int)).toNat else min v.toNat n
theorem sIx_nat(n d k:Nat):sIx n d (some (k:Int))=min k n:=by
 show (if (k:Int)<0 then ((k:Int)+(n:Int)).toNat else min (k:Int).toNat n)=min k n;rw [if_neg (by omega),toNat_natCast]
theorem sIx_le(n d:Nat)(hd:d<=n)(o:Option Int):sIx n d o<=n:=by
 cases o with
 | none=>exact hd
 | some v =>
  show (if v<0 then (v+(n:Int)).toNat else min v.toNat n)<=n
  by_cases hv:v<0
  .rw [if_pos hv];omega
  .rw [if_neg hv];exact min_le_right _ _
theorem clip_eq(v:Int)(n d:Nat):(if v<0 then max (v+(n:Int)) 0 else min v (n:Int))=((sIx n d (some v):Nat):Int):=by
 show (if v<0 then max (v+(n:Int)) 0 else min v (n:Int))=(((if v<0 then (v+(n:Int)).toNat else min v.toNat n):Nat):Int)
 by_cases hv:v<0
 .simp only [if_pos hv];omega
 .simp only [if_neg hv];omega
theorem j7(lo hi:Option Int)(n:Nat):Builtin.Slice.sliceAdjust lo hi 1 (n:Int)=(((sIx n 0 lo:Nat):Int),((sIx n n hi:Nat):Int)):=by
 have h1:¬ ((1:Int)<0):=by omega
 unfold Builtin.Slice.sliceAdjust;simp only [h1,if_false]
 refine Prod.ext ?_ ?_
 .cases lo with
  | none=>rfl
  | some v=>exact clip_eq v n 0
 .cases hi with
  | none=>rfl
  | some v=>exact clip_eq v n n
theorem j8(i j:Nat):Builtin.Slice.slicePlaces (i:Int) (j:Int) 1=j - i:=by
 unfold Builtin.Slice.slicePlaces;have h1:(1:Int) > 0:=by omega
 simp only [h1,if_true,ediv_one];split <;> omega
theorem gn{v:Value}{o:Option Int}{Q:Option Int->Shared->Prop}(p:IsPart v o)(h:Q o s):wpAny (model prog w) A (Builtin.Slice.slicePartIndex v) Q E s:=by
 cases p with
 | none=>exact slicePart_none h
 | int i t=>exact slicePart_int h
theorem cZ{sl:Addr}{vl vu:Value}{lo hi:Option Int}{n:Nat}{Q:Int×Int×Nat->Shared->Prop}(hs:s.heap.IsSliceOf sl vl vu .none)(pl:IsPart vl lo)(pu:IsPart vu hi)
  (h:Q (((sIx n 0 lo:Nat):Int),1,sIx n n hi - sIx n 0 lo) s):wpAny (model prog w) A (Builtin.Slice.sliceApplied (.ref sl) (pure (n:Int))) Q E s:=by
 obtain⟨os,hos,hcs,hds⟩:=id hs;unfold Builtin.Slice.sliceApplied Builtin.Slice.sliceFields;refine wpAny_bind (wpAny_bind (wpAny_field hos hds (x:=vl) rfl (wpAny_bind (wpAny_field hos hds (x:=vu) rfl (wpAny_bind (wpAny_field hos hds (x:=.none) rfl (wpAny_pure ?_)))))));refine wpAny_bind (slicePart_none ?_);show wpAny _ _ (if ((1:Int) == 0)=true then _ else _) _ _ s;rw [if_neg (by decide)];refine wpAny_bind (gn pl (wpAny_bind (gn pu (wpAny_bind (wpAny_pure ?_)))))
 show wpAny _ _ (match Builtin.Slice.sliceAdjust lo hi 1 (n:Int) with|(lo,hi)=>pure (lo,(1:Int),Builtin.Slice.slicePlaces lo hi 1)) _ _ s;rw [j7 lo hi n];show wpAny _ _ (pure (((sIx n 0 lo:Nat):Int),(1:Int),Builtin.Slice.slicePlaces ((sIx n 0 lo:Nat):Int) ((sIx n n hi:Nat):Int) 1)) _ _ s;rw [j8];exact wpAny_pure h
theorem mi(xs:Array Value)(i k:Nat):((List.range k).filterMap fun (m:Nat)=>xs[((i:Int)+(m:Int)*1).toNat]?).toArray=((xs.toList.drop i).take k).toArray:=by
 have e:(fun (m:Nat)=>xs[((i:Int)+(m:Int)*1).toNat]?)=fun m=>xs[i+m]?:=by
  funext m;have:((i:Int)+(m:Int)*1).toNat=i+m:=by omega
  rw [this]
 rw [e];have:=pick_run xs i k;rw [filterMap_map] at this;have e2:((fun x=>xs[x]?) ∘ fun x=>i+x)=fun m=>xs[i+m]?:=rfl;rw [e2] at this;rw [this]
theorem getItem_tuple_cut{t sl:Addr}{items:Array Value}{vl vu:Value}{lo hi:Option Int}{Q:Value->Shared->Prop}(ht:IsTup s.heap t items)(hs:s.heap.IsSliceOf sl vl vu .none)(pl:IsPart vl lo)(pu:IsPart vu hi)
  (hw:¬ (sIx items.size 0 lo=0/\sIx items.size items.size hi=items.size))
  (h:Q (.ref s.heap.objs.size) { s with heap:=s.heap.push { cls:=.type "tuple",data:=.seq ((items.toList.drop (sIx items.size 0 lo)).take (sIx items.size items.size hi - sIx items.size 0 lo)).toArray } })
  (hsz:items.size<=sizeLine):wpAny (model prog w) A (getItem (.ref t) (.ref sl)) Q E s:=by
 have htake:sizeOk (.seq ((items.toList.drop (sIx items.size 0 lo)).take (sIx items.size items.size hi - sIx items.size 0 lo)).toArray):=by
  show ((items.toList.drop (sIx items.size 0 lo)).take (sIx items.size items.size hi - sIx items.size 0 lo)).toArray.size<=sizeLine;rw [size_toArray,length_take,length_drop,Array.length_toList];omega
 have hj:sIx items.size items.size hi<=items.size:=sIx_le _ _ (le_refl _) hi;obtain⟨os,hos,hcs,hds⟩:=id hs;have hTs:s.TypeIs (.ref sl) "slice":=⟨os,hos,hcs⟩
 unfold getItem
 try with_reducible refine wpAny_holding ?_
 first|refine wpAny_bind (wpAny_pure ?_)|skip
 refine wpAny_bind (wpAny_sequenceKey ht.typeIs (by decide) ?_)
 refine wpAny_bind (wpAny_callSpecial?_slot (name:=Str.ofString "__getitem__") ht.typeIs PyProof.Rows.slot_tuple_getitem
  (wpAny_call_entry PyProof.Rows.slot_tuple_getitem ht.typeIs entry_tuple_getitem ?_ (args_tuple_getitem _ _)))
 show wpAny _ _ (Builtin.Tuple.tupleItemsOf (.ref t) >>= _) _ _ s;refine wpAny_bind (tupleItemsOf_ ht ?_);refine wpAny_bind (wpAny_typeOf hTs ?_);rw [if_pos (by decide)];refine wpAny_bind (cZ hs pl pu ?_)
 have hno:¬ ((((sIx items.size 0 lo:Nat):Int) == 0 && (1:Int) == 1 && (sIx items.size items.size hi - sIx items.size 0 lo) == items.size)=true):=by
  intro q;rw [and_eq_true,and_eq_true] at q;have q1:((sIx items.size 0 lo:Nat):Int)=0:=eq_of_beq q.1.1;have q2:sIx items.size items.size hi - sIx items.size 0 lo=items.size:=eq_of_beq q.2;exact hw ⟨by omega,by omega⟩
 show wpAny _ _ (if (((sIx items.size 0 lo:Nat):Int) == 0 && (1:Int) == 1 && (sIx items.size items.size hi - sIx items.size 0 lo) == items.size)=true then _ else _) _ _ s;rw [if_neg hno,mi]
 first
  | exact wpAny_bind (m:=Builtin.Tuple.tupleExact _) (wpAny_newObj_type (wpAny_pure ⟨_,rfl,wpAny_pure h⟩) htake)
  | exact wpAny_bind (m:=Builtin.Tuple.tupleExact _) (wpAny_newObj_type (wpAny_bind (wpAny_pure (wpAny_pure ⟨_,rfl,wpAny_pure h⟩))) htake)
  | exact wpAny_bind (wpAny_bind (m:=Builtin.Tuple.tupleExact _) (wpAny_newObj_type (wpAny_pure (wpAny_pure ⟨_,rfl,wpAny_pure h⟩)) htake))
  | exact wpAny_bind (wpAny_bind (m:=Builtin.Tuple.tupleExact _) (wpAny_newObj_type (wpAny_pure ⟨_,rfl,wpAny_pure h⟩) htake))
end
end HT
namespace L2
open PySem PySem.Spec PyProof.Rows
abbrev TO:=St->Hp->(Option Int->Hp->Prop)->Prop
def PO(X:Cx)(e:Option Expr)(t:TO):Prop :=
 ∀(pins:List (Addr×Obj)) (s:Shared) (σ:St) (H:Hp) (Q:Option Int->Hp->Prop),Inv X pins σ H s->t σ H Q ->
  wpAny (model X.prog X.w) X.A (evalPart e X.env) (fun u s'=>∃o H',Inv X pins σ H' s'/\IsPart u o/\Q o H') X.xe s
def kJ:TO:=fun _ H Q=>Q none H
def qI(t:TE):TO:=fun σ H Q=>t σ H fun x H1=>∃i,x=.int i/\Q (some i) H1
section
variable {X:Cx}{e:Expr}{te:TE}{lo hi:Option Expr}{tl th:TO}{pos p2:Pos}
theorem cI:PO X none kJ:=by
 intro pins s σ H Q I h;rw [evalPart_none];exact wpAny_pure ⟨none,H,I,.none,h⟩
theorem bR(h:PE X e te):PO X (some e) (qI te):=by
 intro pins s σ H Q I hw;rw [evalPart_some];refine thn (h pins s σ H _ I hw) fun u s1 ⟨x,H1,I1,r1,q1⟩=>?_;obtain⟨i,rfl,q⟩:=q1;obtain⟨t,rfl⟩:=r1;exact⟨some i,H1,I1,.int i t,q⟩
def SlR(X:Cx)(r:V->Option Int->Option Int->Hp->VK->Prop):Prop :=
 ∀(pins:List (Addr×Obj)) (s:Shared) (σ:St) (H:Hp) (x:V) (v vl vu:Value) (lo hi:Option Int) (sl:Addr) (Q:VK),Inv X pins σ H s->ck x v->s.heap.IsSliceOf sl vl vu .none->IsPart vl lo->IsPart vu hi->r x lo hi H Q ->
  ∃T id,typeLookup (.type T) "__getitem__"=pure (some (.builtin id))/\s.TypeIs v T/\wpAny (model X.prog X.w) X.A (getItem v (.ref sl)) (EP X pins σ Q) X.xe s
theorem SlR.or{r r':V->Option Int->Option Int->Hp->VK->Prop}(h:SlR X r)(h':SlR X r'):SlR X (fun x lo hi H Q=>r x lo hi H Q\/r' x lo hi H Q):=by
 intro pins s σ H x v vl vu lo hi sl Q I rx hs pl pu q
 rcases q with q|q
 .exact h pins s σ H x v vl vu lo hi sl Q I rx hs pl pu q
 .exact h' pins s σ H x v vl vu lo hi sl Q I rx hs pl pu q
def tSl(r:V->Option Int->Option Int->Hp->VK->Prop)(te:TE)(tl th:TO):TE:=fun σ H Q=>te σ H fun x H1=>tl σ H1 fun l H2=>th σ H2 fun u H3=>r x l u H3 Q
theorem bI{r:V->Option Int->Option Int->Hp->VK->Prop}(hr:SlR X r)(he:PE X e te)(hl:PO X lo tl)(hu:PO X hi th):PE X (.Subscript e (.Slice lo hi none p2) pos) (tSl r te tl th):=by
 intro pins s σ H Q I h;refine Subscript_ (thn (he pins s σ H _ I h) fun v s1 ⟨x,H1,I1,r1,q1⟩=>?_);refine wpAny_Slice (thn (hl pins s1 σ H1 _ I1 q1) fun vl s2 ⟨l,H2,I2,pl,q2⟩=>thn (hu pins s2 σ H2 _ I2 q2) fun vu s3 ⟨u,H3,I3,pu,q3⟩=>?_);rw [evalPart_none];refine wpAny_pure ?_;have I4:Inv X pins σ H3 { s3 with heap:=s3.heap.push { cls:=.type "slice",data:=.fields #[vl,vu,.none] } }:=I3.kept (t':=s3.toks) fun b ob q=>Heap.get?_push_of_some _ q
 obtain⟨T,id,hT,ht,hg⟩:=hr pins { s3 with heap:=s3.heap.push { cls:=.type "slice",data:=.fields #[vl,vu,.none] } } σ H3 x v vl vu l u s3.heap.objs.size Q I4 r1 (Heap.IsSliceOf.new ..) pl pu q3;show wpAny (model X.prog X.w) X.A (subscriptTail e (.Slice lo hi none p2) v (.ref s3.heap.objs.size)) (EP X pins σ Q) X.xe { s3 with heap:=s3.heap.push { cls:=.type "slice",data:=.fields #[vl,vu,.none] } };exact tail_any (ops:=[.ref s3.heap.objs.size,v]) ht hT hg (by with_unfolding_all rfl)
def n6(xs:List V)(lo hi:Option Int):List V:=(xs.drop (HT.sIx xs.length 0 lo)).take (HT.sIx xs.length xs.length hi - HT.sIx xs.length 0 lo)
theorem fk(xs:List V)(lo hi:Option Int):(n6 xs lo hi).length<=xs.length:=by
 unfold n6;rw [length_take,length_drop];omega
def uo(K:PySem.W.Frag):V->Option Int->Option Int->Hp->VK->Prop:=fun x lo hi H Q=>∃a xs,x=.ref a/\SqT K H a xs /\
 ¬ (HT.sIx xs.length 0 lo=0/\HT.sIx xs.length xs.length hi=xs.length)/\∀p,H p=none->Q (.ref p) (upd H p (.tup (n6 xs lo hi)))
theorem qJ:SlR X (uo X.K):=by
 intro pins s σ H x v vl vu lo hi sl Q I rx hs pl pu h;obtain⟨a,xs,rfl,hx,hw,q⟩:=h;cases rx;obtain⟨its,r,ht,hz⟩:=I.tuple hx;have hlen:its.toArray.size=xs.length:=by rw [size_toArray];exact r.length.symm
 refine⟨"tuple",_,PyProof.Rows.slot_tuple_getitem.lookup,ht.typeIs,?_⟩;refine HT.getItem_tuple_cut ht hs pl pu (by rw [hlen];exact hw) ?_ (by rw [hlen];exact hz);rw [hlen];refine⟨.ref s.heap.objs.size,_,I.laid (t':=s.toks) (o:=.tup (n6 xs lo hi)) (fun b ob q=>Heap.get?_push_of_some _ q) (le_refl _) ?_,rfl,q _ (I.hok.fresh (le_refl _))⟩;exact⟨le_trans (fk xs lo hi) hz,_,(r.drop (HT.sIx xs.length 0 lo)).take (HT.sIx xs.length xs.length hi - HT.sIx xs.length 0 lo),IsTup.new _ _⟩
def qK(K:PySem.W.Frag):R2:=fun x y H Q=>∃a b xs ys,x=.ref a/\y=.ref b/\SqT K H a xs/\SqT K H b ys/\xs≠[]/\xs.length+ys.length<=sizeLine /\
 (ys=[]->Q (.ref a) H)/\(ys≠[]->∀p,H p=none->Q (.ref p) (upd H p (.tup (xs++ys))))
theorem bo.nil_iff{xs:List V}{us:List Value}(r:bo xs us):us=[] ↔ xs=[]:=by
 cases r with
 | nil=>simp
 | cons _ _=>simp
theorem n8:OpR X (binaryOp .Add) (qK X.K):=by
 intro pins s σ H x y v u Q I rx ry h;obtain⟨a,b,xs,ys,rfl,rfl,ha,hb,hx,hz,q1,q2⟩:=h;cases rx;cases ry;obtain⟨its,r1,p1,_⟩:=I.tuple ha;obtain⟨its2,r2,p2,_⟩:=I.tuple hb;refine HT.cat_tup p1 p2 (fun z=>hx (r1.nil_iff.mp z)) (fun z=>⟨.ref a,H,I,rfl,q1 (r2.nil_iff.mp z)⟩) (fun z=>?_) (by rw [<- r1.length,<- r2.length];exact hz);refine⟨.ref s.heap.objs.size,_,I.laid (t':=s.toks) (o:=.tup (xs++ys)) (fun b ob q=>Heap.get?_push_of_some _ q) (le_refl _) ?_,rfl,q2 (fun w=>z (r2.nil_iff.mpr w)) _ (I.hok.fresh (le_refl _))⟩
 exact⟨by rw [length_append];exact hz,_,r1.append r2,IsTup.new _ _⟩
end
def ixN(n:Nat)(i:Int):Option Nat:=if 0<=i then (if i<n then some i.toNat else none) else if -(n:Int)<=i then some (i+n).toNat else none
def atI{α:Type}(xs:List α)(i:Int):Option α:=(ixN xs.length i).bind fun j=>xs[j]?
theorem oa{n:Nat}{i:Int}{j:Nat}(h:ixN n i=some j):seqIndex? i n=some j/\j<n/\-(n:Int)<=i/\i<n:=by
 unfold ixN at h
 by_cases h0:0<=i
 .rw [if_pos h0] at h
  by_cases h1:i<n
  .rw [if_pos h1] at h;have e:i.toNat=j:=Option.some.inj h;exact⟨by rw [seqIndex_of h0 h1,e],by omega,by omega,h1⟩
  .rw [if_neg h1] at h;cases h
 .rw [if_neg h0] at h
  by_cases h1:-(n:Int)<=i
  .rw [if_pos h1] at h;have e:(i+n).toNat=j:=Option.some.inj h;exact⟨by rw [seqIndex_neg (by omega) h1,e],by omega,h1,by omega⟩
  .rw [if_neg h1] at h;cases h
theorem iX{α:Type}{xs:List α}{i:Int}{v:α}(h:atI xs i=some v):∃j,seqIndex? i xs.length=some j/\xs[j]?=some v/\j<xs.length/\-(xs.length:Int)<=i/\i<xs.length:=by
 unfold atI at h
 cases e:ixN xs.length i with
 | none=>rw [e] at h;cases h
 | some j =>
  rw [e] at h;obtain⟨h1,h2,h3,h4⟩:=oa e;exact⟨j,h1,h,h2,h3,h4⟩
theorem og{α:Type}{xs:List α}{j:Nat}{v:α}(h:xs[j]?=some v):atI xs (j:Int)=some v:=by
 have hj:j<xs.length:=(List.getElem?_eq_some_iff.mp h).1
 have e:ixN xs.length (j:Int)=some j:=by
  unfold ixN;rw [if_pos (by omega),if_pos (by omega)];simp
 unfold atI;rw [e];exact h
def oh(b:Expr):Prop:=∀o i,subscripted b false o i=operate [o,i] (getItem o i)
def IxR(X:Cx)(r:R2):Prop :=
 ∀(value slice:Expr) (pins:List (Addr×Obj)) (s:Shared) (σ:St) (H:Hp) (x y:V) (v u:Value) (Q:VK),Inv X pins σ H s->ck x v->ck y u->r x y H Q ->
  subscripted slice false v u=operate [v,u] (getItem v u)->wpAny (model X.prog X.w) X.A (subscriptTail value slice v u) (EP X pins σ Q) X.xe s
def MtR(X:Cx)(id:String)(r:V->List V->Hp->VK->Prop):Prop :=
 ∀(pins:List (Addr×Obj)) (s:Shared) (σ:St) (H:Hp) (x:V) (xs:List V) (v:Value) (us:List Value) (Q:VK),Inv X pins σ H s->ck x v->bo xs us->r x xs H Q ->
  wpAny (model X.prog X.w) X.A (call (.builtin id) (v::us)) (EP X pins σ Q) X.xe s
section
variable {X:Cx}{a b:Expr}{ta tb:TE}{pos:Pos}
theorem IxR.or{r r':R2}(h:IxR X r)(h':IxR X r'):IxR X (fun x y H Q=>r x y H Q\/r' x y H Q):=by
 intro value slice pins s σ H x y v u Q I rx ry q hs
 rcases q with q|q
 .exact h value slice pins s σ H x y v u Q I rx ry q hs
 .exact h' value slice pins s σ H x y v u Q I rx ry q hs
theorem dY{r:R2}(hr:IxR X r)(ha:PE X a ta)(hb:PE X b tb)(hs:oh b):PE X (.Subscript a b pos) (tOp r ta tb):=by
 intro pins s σ H Q I h;exact Subscript_ (sC ha hb I h fun v u s2 x y H2 I2 rx ry q=>hr a b pins s2 σ H2 x y v u Q I2 rx ry q (hs _ _))
def up(K:PySem.W.Frag):R2:=fun x y H Q=>∃p xs i v,x=.ref p/\y=.int i/\SqL K H p xs/\atI xs i=some v/\Q v H
def uq(K:PySem.W.Frag):R2:=fun x y H Q=>∃p xs i v,x=.ref p/\y=.int i/\SqT K H p xs/\atI xs i=some v/\Q v H
def uR:R2:=fun x y H Q=>∃z i c,x=.str z/\y=.int i/\z.length<=sizeLine/\atI z.cps.toList i=some c/\Q (.str ⟨#[c]⟩) H
theorem oi:IxR X (up X.K):=by
 intro value slice pins s σ H x y v u Q I rx ry h hs;obtain⟨p,xs,i,z,rfl,rfl,hq,he,q⟩:=h;cases rx;obtain⟨t,rfl⟩:=ry;obtain⟨its,r,pl,hz⟩:=I.list hq;obtain⟨j,h1,h2,h3,h4,h5⟩:=iX he;obtain⟨w,ew,rw'⟩:=r.get h2;have hl:=r.length;have hn:=h8;have fin:EP X pins σ Q w s:=⟨z,H,I,rw',q⟩
 by_cases h0:0<=i
 .have hj:i.toNat=j:=by
   rw [seqIndex_of h0 h5] at h1;exact Option.some.inj h1
  exact item_listR pl.isList h0 (by omega) (by rw [hj];simpa using ew) fin hs
 .have hj:(i+(its.toArray.size:Int)).toNat=j:=by
   rw [seqIndex_neg (by omega) h4] at h1;rw [size_toArray,<- hl];exact Option.some.inj h1
  exact subscriptTail_builtinR (x:=w) pl.isList.typeIs slot_list_getitem.lookup
   (wpAny_getItem_list_neg (Q:=fun r s'=>r=w/\EP X pins σ Q r s') pl.isList (by omega) (by rw [size_toArray] <;> omega) (by omega) (by rw [hj];simpa using ew) ⟨rfl,fin⟩) hs
theorem qL:IxR X (uq X.K):=by
 intro value slice pins s σ H x y v u Q I rx ry h hs;obtain⟨p,xs,i,z,rfl,rfl,hq,he,q⟩:=h;cases rx;obtain⟨t,rfl⟩:=ry;obtain⟨its,r,pl,hz⟩:=I.tuple hq;obtain⟨j,h1,h2,h3,h4,h5⟩:=iX he;obtain⟨w,ew,rw'⟩:=r.get h2;have hl:=r.length;have hn:=h8;have fin:EP X pins σ Q w s:=⟨z,H,I,rw',q⟩
 exact subscriptTail_builtinR (x:=w) pl.typeIs slot_tuple_getitem.lookup
  (getItem_tuple (j:=j) (Q:=fun r s'=>r=w/\EP X pins σ Q r s') pl (by omega) (by omega) (by rw [size_toArray,<- hl];exact h1) (by simpa using ew) ⟨rfl,fin⟩) hs
theorem qM:IxR X uR:=by
 intro value slice pins s σ H x y v u Q I rx ry h hs;obtain⟨z,i,c,rfl,rfl,hz,he,q⟩:=h;obtain⟨t,rfl⟩:=rx;obtain⟨t',rfl⟩:=ry;obtain⟨j,h1,h2,h3,h4,h5⟩:=iX he;have hl:z.cps.toList.length=z.length:=by simp [Str.length]
 rw [hl] at h1 h4 h5;have hn:=h8
 exact tail_any (typeIs_str s z t) slot_str_getitem.lookup (getItem_str (c:=c) (by
  have e1:decide (i < -(2^63:Int))=false:=decide_eq_false (by omega);have e2:decide (i >= 2^63)=false:=decide_eq_false (by omega);rw [e1,e2,Bool.or_false]) (by rw [h1];simpa using h2) ⟨.str ⟨#[c]⟩,H,I.tok _,⟨_,rfl⟩,q⟩) hs
theorem ig(lo hi:Option Int)(n:Nat):(sliceBounds lo hi none n).1=((HT.sIx n 0 lo:Nat):Int)/\(sliceBounds lo hi none n).2.1=((HT.sIx n n hi:Nat):Int)/\(sliceBounds lo hi none n).2.2=1:=by
 refine⟨?_,?_,rfl⟩
 .cases lo with
  | none=>simp [sliceBounds,HT.sIx]
  | some i =>
   simp only [sliceBounds,HT.sIx,Option.getD_none,show (1:Int) > 0 by decide,if_true]
   by_cases h:i<0
   .simp only [h,if_true] <;> omega
   .simp only [h,if_false] <;> omega
 .cases hi with
  | none=>simp [sliceBounds,HT.sIx]
  | some i =>
   simp only [sliceBounds,HT.sIx,Option.getD_none,show (1:Int) > 0 by decide,if_true]
   by_cases h:i<0
   .simp only [h,if_true] <;> omega
   .simp only [h,if_false] <;> omega
theorem gG(its:List Value)(lo hi:Option Int):slicePick its.toArray lo hi none=((its.drop (HT.sIx its.length 0 lo)).take (HT.sIx its.length its.length hi - HT.sIx its.length 0 lo)).toArray:=by
 obtain⟨h1,h2,h3⟩:=ig lo hi its.toArray.size;unfold slicePick;rw [h1,h2,h3];simp only [sliceRange_one,pick_run,size_toArray] <;> rfl
def ur(K:PySem.W.Frag):V->Option Int->Option Int->Hp->VK->Prop:=fun x lo hi H Q=>∃a xs,x=.ref a/\SqL K H a xs/\∀p,H p=none->Q (.ref p) (upd H p (.lst (n6 xs lo hi)))
theorem oj:SlR X (ur X.K):=by
 intro pins s σ H x v vl vu lo hi sl Q I rx hs pl pu h;obtain⟨a,xs,rfl,hx,q⟩:=h;cases rx;obtain⟨its,r,ht,hz⟩:=I.list hx;have hlen:=r.length;refine⟨"list",_,slot_list_getitem.lookup,ht.isList.typeIs,?_⟩;refine wpAny_getItem_list_slice ht.isList hs pl pu .none (by simp) ?_ (by rw [size_toArray] <;> omega);rw [gG,<- hlen];refine⟨.ref s.heap.objs.size,_,I.laid (t':=s.toks) (o:=.lst (n6 xs lo hi)) (fun b ob q=>Heap.get?_push_of_some _ q) (le_refl _) ?_,rfl,q _ (I.hok.fresh (le_refl _))⟩
 exact⟨le_trans (fk xs lo hi) hz,_,0,(r.drop (HT.sIx xs.length 0 lo)).take (HT.sIx xs.length xs.length hi - HT.sIx xs.length 0 lo),Heap.get?_push_size _ rfl⟩
theorem eN:bG X (.builtin "len") (fun xs H Q=>∃p ys,xs=[.ref p]/\(SqL X.K H p ys\/SqT X.K H p ys)/\Q (.int ys.length) H):=by
 intro pins s σ H xs us Q I r h;obtain⟨p,ys,rfl,hq,q⟩:=h;obtain⟨u,rfl,rx⟩:=iU r;cases rx;have hn:=h8
 rcases hq with hq|hq
 .obtain⟨its,r',pl,hz⟩:=I.list hq;have hlen:=r'.length;exact Calls.call_len_list pl.isList (by simp only [size_toArray] <;> omega) ⟨.int ys.length,H,I.tok _,⟨s.toks+1,by rw [size_toArray,hlen]⟩,q⟩
 .obtain⟨its,r',pl,hz⟩:=I.tuple hq;have hlen:=r'.length;exact len_tuple pl (by simp only [size_toArray] <;> omega) ⟨.int ys.length,H,I.tok _,⟨s.toks+1,by rw [size_toArray,hlen]⟩,q⟩
theorem ii:bG X (.builtin "len") (fun xs H Q=>∃z,xs=[.str z]/\z.length<=sizeLine/\Q (.int z.length) H):=by
 intro pins s σ H xs us Q I r h;obtain⟨z,rfl,hz,q⟩:=h;obtain⟨u,rfl,t,rfl⟩:=iU r;have hn:=h8;exact len_str (by omega) ⟨.int z.length,H,I.tok _,⟨_,rfl⟩,q⟩
theorem bG.or{f:Value}{r r':List V->Hp->VK->Prop}(h:bG X f r)(h':bG X f r'):bG X f (fun xs H Q=>r xs H Q\/r' xs H Q):=by
 intro pins s σ H xs us Q I rs q
 rcases q with q|q
 .exact h pins s σ H xs us Q I rs q
 .exact h' pins s σ H xs us Q I rs q
theorem ij:bG X (.type "list") (fun xs H Q=>∃p ys,xs=[.ref p]/\(SqL X.K H p ys\/SqT X.K H p ys)/\∀l,H l=none->Q (.ref l) (upd H l (.lst ys))):=by
 intro pins s σ H xs us Q I r h;obtain⟨p,ys,rfl,hq,q⟩:=h;obtain⟨u,rfl,rx⟩:=iU r;cases rx
 have fin:∀(its:List Value),bo ys its->ys.length<=sizeLine->∀(h':Heap) (c':Nat),(∀b o',s.heap.get? b=some o'->h'.get? b=some o') ->
   h'.get? s.heap.objs.size=some { cls:=.type "list",dict:=none,data:=.seq its.toArray c',slots:=#[] }->EP X pins σ Q (.ref s.heap.objs.size) { s with heap:=h' }:=fun its r' hz h' c' kp e =>
  ⟨.ref s.heap.objs.size,_,I.laid (t':=s.toks) kp (le_refl _) (show bc X.prog X.w _ h' _ (.lst ys) from ⟨hz,its,c',r',e⟩),rfl,q _ (I.hok.fresh (le_refl _))⟩
 rcases hq with hq|hq
 .obtain⟨its,r',pl,hz⟩:=I.list hq;have hlen:=r'.length;obtain⟨o,ho,hc,n,hd⟩:=pl.isList;exact call_list_seq p (.inl rfl) ho hc hd (fun h' c' kp e=>fin its r' hz h' c' kp e) (by simp only [size_toArray] <;> omega)
 .obtain⟨its,r',pl,hz⟩:=I.tuple hq;have hlen:=r'.length;obtain⟨o,ho,hc,n,hd⟩:=pl;exact call_list_seq p (.inr rfl) ho hc hd (fun h' c' kp e=>fin its r' hz h' c' kp e) (by simp only [size_toArray] <;> omega)
def tyV(K:PySem.W.Frag)(T:String)(x:V)(H:Hp):Prop:=match x with
 | .str _=>T="str"
 | .int _=>T="int"
 | .ref p=>(T="list"/\∃xs,SqL K H p xs)\/(T="tuple"/\∃o,K.lookup p=some o/\o.cls=.type "tuple"/\o.dict=none) \/
   (T="dict"/\((∃kvs,H p=some (.dK kvs))\/∃kvs,H p=some (.dT kvs)))\/(T="set"/\∃S n,H p=some (.set S n))
 | _=>False
theorem m7{pins:List (Addr×Obj)}{σ:St}{H:Hp}{s:Shared}{T:String}{x:V}{v:Value}(I:Inv X pins σ H s)(r:ck x v)(ty:tyV X.K T x H) :
  s.TypeIs v T/\∀a,v=.ref a->∃ob,s.heap.get? a=some ob/\ob.dict=none:=by
 cases x with
 | str z =>
  obtain⟨t,rfl⟩:=r;cases (show T="str" from ty);exact⟨typeIs_str s z t,fun _ e=>nomatch e⟩
 | int i =>
  obtain⟨t,rfl⟩:=r;cases (show T="int" from ty);exact⟨typeIs_int s i t,fun _ e=>nomatch e⟩
 | ref p =>
  cases r
  rcases ty with ⟨rfl,xs,hq⟩|⟨rfl,o,hk,hc,hd⟩|⟨rfl,hk⟩|⟨rfl,S,n,hk⟩
  .obtain⟨its,_,pl,_⟩:=I.list hq;refine⟨pl.isList.typeIs,fun a e=>?_⟩;cases e;obtain⟨o,n,e,c,hd,_⟩:=pl;exact⟨o,e,hd⟩
  .refine⟨⟨o,I.kIn p o hk,hc⟩,fun a e=>?_⟩;cases e;exact⟨o,I.kIn _ o hk,hd⟩
  .have z:∃o,s.heap.get? p=some o/\o.ExactDict:=by
    rcases hk with ⟨kvs,hk⟩|⟨kvs,hk⟩
    .obtain⟨_,_,_,_,o,_,_,e,ex,_⟩:=I.hok p _ hk;exact⟨o,e,ex⟩
    .obtain⟨_,_,_,_,o,_,_,e,ex,_⟩:=I.hok p _ hk;exact⟨o,e,ex⟩
   obtain⟨o,e,ex⟩:=z;refine⟨⟨o,e,ex.1⟩,fun a e2=>?_⟩;cases e2;exact⟨o,e,ex.2.1⟩
  .obtain⟨o,_,_,_,e,ex,_⟩:=I.hok p _ hk;refine⟨⟨o,e,ex.1⟩,fun a e2=>?_⟩;cases e2;exact⟨o,e,ex.2.1⟩
 | _=>exact False.elim ty
def ut(K:PySem.W.Frag)(T:String)(r:V->List V->Hp->VK->Prop)(to:TE):TE:=fun σ H Q=>to σ H fun x H1=>tyV K T x H1/\r x [] H1 Q
def tBM(K:PySem.W.Frag)(T:String)(r:V->List V->Hp->VK->Prop)(to:TE)(t:TA):TE:=fun σ H Q=>to σ H fun x H1=>tyV K T x H1/\t σ H1 fun xs H2=>r x xs H2 Q
variable {o e:Expr}{es:List Expr}{to:TE}{t:TA}{name:Str}{apos cpos:Pos}{T id:String}{r:V->List V->Hp->VK->Prop}
theorem qN(pa:PlainAttrs T)(slot:Slot T name id)(hty:typeOf (.builtin id)=pure (.type "method_descriptor"))(hm:MtR X id r)(ho:PE X o to)
  (hbase:attributeBase o name X.env (eval o X.env)=eval o X.env:=by rfl) (hline:(apos.endLine == cpos.line)=true:=by rfl):PE X (.Call (.Attribute o name apos) [] [] cpos) (ut X.K T r to):=by
 intro pins s σ H Q I h;refine wpAny_Call_method0_late hbase hline (thn (ho pins s σ H _ I h) fun v s1 ⟨x,H1,I1,r1,ty,q1⟩=>?_);obtain⟨h1,h2⟩:=m7 I1 r1 ty;exact⟨T,id,pa,slot,hty,h1,h2,Calls.callWith_builtin rfl (PySem.evalArgs_none (hm pins s1 σ H1 x [] v [] Q I1 r1 .nil q1))⟩
theorem sL(pa:PlainAttrs T)(slot:Slot T name id)(hty:typeOf (.builtin id)=pure (.type "method_descriptor"))(hm:MtR X id r)(ho:PE X o to)(ha:PA X (e::es) t)
  (hbase:attributeBase o name X.env (eval o X.env)=eval o X.env:=by rfl)
  (hfew:((backTo cpos (starEach (e::es) X.env)).all (fun x=>!x.1) && (backToKw cpos (keywordEach [] X.env)).all (fun x=>x.1.isSome)
   && decide ((e::es).length+([]:List Keyword).length+(if ([]:List Keyword).isEmpty then 0 else 1)<30))=true:=by rfl)
  (hline:(apos.endLine == cpos.line)=true:=by rfl) (hs:starEach (e::es) X.env=(false,eval e X.env)::starEach es X.env:=by rfl) (hplain:(backTo cpos (starEach es X.env)).any (·.1)=false:=by rfl) :
  PE X (.Call (.Attribute o name apos) (e::es) [] cpos) (tBM X.K T r to t):=by
 intro pins s σ H Q I h;refine wpAny_Call_method_late hbase hfew hline rfl (thn (ho pins s σ H _ I h) fun v s1 ⟨x,H1,I1,r1,ty,q1⟩=>?_);obtain⟨h1,h2⟩:=m7 I1 r1 ty;refine⟨T,id,pa,slot,hty,h1,h2,?_⟩;have hA:=ha cpos pins s1 σ H1 _ I1 q1;rw [hs] at hA ⊢;refine Calls.callWith_builtin (by show (false || (backTo cpos (starEach es X.env)).any (·.1))=false;rw [hplain] <;> rfl) (Calls.evalArgs_plain ?_);exact thn hA fun us s2 ⟨vs,H2,I2,r2,q2⟩=>hm pins s2 σ H2 x vs v us Q I2 r1 r2 q2
end
def MtM(X:Cx)(id:String)(r:V->List V->Hp->VK->Prop):Prop :=
 ∀(pins:List (Addr×Obj)) (s:Shared) (σ:St) (H:Hp) (x:V) (xs:List V) (v:Value) (us:List Value) (Q:VK),Inv X pins σ H s->ck x v->bo xs us->r x xs H Q ->
  wpAny (model X.prog X.w) X.A (call (.builtin id) (v::us)) (EP X pins σ Q) X.xe s
theorem bo.one:∀{x:V}{us:List Value},bo [x] us->∃u,us=[u]/\ck x u
 | _,_,.cons r .nil=>⟨_,rfl,r⟩
theorem bo.zero:∀{us:List Value},bo [] us->us=[]
 | _,.nil=>rfl
theorem bo.dropLast{xs:List V}{us:List Value}(h:bo xs us):bo xs.dropLast us.dropLast:=by
 induction h with
 | nil=>exact .nil
 | cons r t ih =>
  cases t with
  | nil=>exact .nil
  | cons q t'=>exact .cons r ih
theorem bo.reverse{xs:List V}{us:List Value}(h:bo xs us):bo xs.reverse us.reverse:=by
 induction h with
 | nil=>exact .nil
 | cons r t ih=>rw [reverse_cons,reverse_cons];exact bo.append ih (.cons r .nil)
theorem bo.rep{xs:List V}{us:List Value}(h:bo xs us):∀k:Nat,bo (List.replicate k xs).flatten (List.replicate k us).flatten
 | 0=>.nil
 | k+1=>by
  rw [replicate_succ,replicate_succ,flatten_cons,flatten_cons];exact bo.append h (bo.rep h k)
theorem j9{α:Type}(l:List α):l.eraseIdx (l.length - 1)=l.dropLast:=by
 induction l with
 | nil=>rfl
 | cons a r ih =>
  cases r with
  | nil=>rfl
  | cons b r =>
   have e:(a::b::r).length - 1=((b::r).length - 1)+1:=by
    have h1:(a::b::r).length=r.length+2:=rfl;have h2:(b::r).length=r.length+1:=rfl;omega
   rw [e,eraseIdx_cons_succ,ih]
   all_goals rfl
theorem ik(its:List Value):∀(k:Nat) (acc:List Value),
  List.foldl (fun x1 x2=>x1++x2) acc.toArray (List.replicate k its.toArray)=(acc++(List.replicate k its).flatten).toArray
 | 0,acc=>by simp
 | k+1,acc=>by
  have e:acc.toArray++its.toArray=(acc++its).toArray:=by simp
  have e2:(acc++its)++(List.replicate k its).flatten=acc++(List.replicate (k+1) its).flatten:=by
   rw [replicate_succ,flatten_cons,append_assoc]
  rw [<- e2,<- ik its k (acc++its),<- e,replicate_succ,foldl_cons]
section
variable {X:Cx}{pins:List (Addr×Obj)}{σ:St}{H:Hp}{s:Shared}{l b:Addr}{xs ys zs:List V}
theorem Inv.lset{its its':List Value}{n:Nat}{f:Array Value->Array Value}{t':Nat}(I:Inv X pins σ H s)(hH:H l=some (.lst xs))
  (e:s.heap.get? l=some { cls:=.type "list",data:=.seq its.toArray n }) (hf:f its.toArray=its'.toArray) (hv:bo ys its') (hz:ys.length<=sizeLine) :
  Inv X pins σ (upd H l (.lst ys)) { s with heap:=s.heap.update l (Obj.mapSeq f),toks:=t' }:=by
 have q:=PySem.IsL.update e f;rw [hf] at q;refine I.write (x:=l) (e:=l) (by rw [hH];exact trivial) (.inl rfl) (fun b' u hb hu=>(Heap.get?_update_other s.heap (Obj.mapSeq f) (Ne.symm hb)).trans hu) ⟨_,q⟩ ?_;exact⟨hz,its',_,hv,q⟩
theorem Inv.lnew{its:List Value}{t':Nat}(I:Inv X pins σ H s)(hv:bo ys its)(hz:ys.length<=sizeLine) :
  Inv X pins σ (upd H s.heap.objs.size (.lst ys)) { s with heap:=s.heap.push { cls:=.type "list",data:=.seq its.toArray },toks:=t' } :=
 I.laid (fun _ _ q=>Heap.get?_push_of_some _ q) (le_refl _) ⟨hz,its,0,hv,Heap.get?_push_size _ rfl⟩
theorem Inv.fresh(I:Inv X pins σ H s):H s.heap.objs.size=none:=I.hok.fresh (le_refl _)
theorem Inv.lstM(I:Inv X pins σ H s)(hH:H l=some (.lst xs)):xs.length<=sizeLine/\∃(its:List Value) (n:Nat),bo xs its/\xs.length=its.length/\s.heap.get? l=some { cls:=.type "list",data:=.seq its.toArray n }:=by
 obtain⟨z,its,n,r,e⟩:=I.hok l _ hH;exact⟨z,its,n,r,r.length,e⟩
theorem mj{n:Nat}(h:n<=sizeLine):Builtin.List.listTooLong n=false:=by
 unfold Builtin.List.listTooLong;exact decide_eq_false (by omega)
end
section
variable {X:Cx}
def kK:V->List V->Hp->VK->Prop:=fun x vs H Q=>∃l xs y,x=.ref l/\vs=[y]/\H l=some (.lst xs)/\xs.length<sizeLine/\Q .non (upd H l (.lst (xs++[y])))
theorem fm:MtM X "list.append" kK:=by
 intro pins s σ H x vs v us Q I rx rv h;obtain⟨l,xs,y,rfl,rfl,hH,hz,q⟩:=h;cases rx;obtain⟨u,rfl,ru⟩:=rv.one;obtain⟨z,its,n,r,hl,e⟩:=I.lstM hH;refine call_meets F.slot_list_append ⟨_,e,rfl⟩ F.entry_list_append (F.args_list_append_2 _ _) (PySem.list_append l its.toArray n u (by rw [size_toArray];omega)) ⟨e,?_⟩;refine⟨.non,_,I.lset (its':=its++[u]) hH e (by simp) (r.append (.cons ru .nil)) ?_,rfl,q⟩;rw [length_append,length_singleton]
 omega
def uu:V->List V->Hp->VK->Prop:=fun x vs H Q=>∃l xs y,x=.ref l/\vs=[]/\H l=some (.lst xs)/\xs[xs.length - 1]?=some y/\Q y (upd H l (.lst xs.dropLast))
theorem qO:MtM X "list.pop" uu:=by
 intro pins s σ H x vs v us Q I rx rv h;obtain⟨l,xs,y,rfl,rfl,hH,hy,q⟩:=h;cases rx;have hus:=rv.zero;subst hus;obtain⟨z,its,n,r,hl,e⟩:=I.lstM hH;obtain⟨u,hu,ru⟩:=r.get hy
 have hy':its.toArray[its.toArray.size - 1]?=some u:=by
  show its.toArray[its.length - 1]?=some u;rw [<- Array.getElem?_toList,<- hl];exact hu
 refine call_meets F.slot_list_pop ⟨_,e,rfl⟩ F.entry_list_pop (F.args_list_pop_1 _) (MeetsSeq.list_pop_last l its.toArray n u hy' (by rw [size_toArray];omega)) ⟨e,?_⟩
 refine⟨y,_,I.lset (its':=its.dropLast) hH e ?_ r.dropLast ?_,ru,q⟩
 .show its.toArray.eraseIdxIfInBounds (its.toArray.size - 1)=its.dropLast.toArray;rw [size_toArray,eraseIdxIfInBounds_toArray,j9]
 .rw [length_dropLast];omega
def uv:R2:=fun x y H Q=>∃l k xs,x=.ref l/\y=.int k/\H l=some (.lst xs)/\-(2^63)<=k/\k<2^63/\xs.length*k.toNat<=sizeLine /\
 ∀p,H p=none->Q (.ref p) (upd H p (.lst (List.replicate k.toNat xs).flatten))
theorem om{α:Type}(xs:List α)(k:Nat):(List.replicate k xs).flatten.length=k*xs.length:=by
 induction k with
 | zero=>simp
 | succ k ih=>rw [replicate_succ,flatten_cons,length_append,ih,succ_mul,add_comm]
theorem qP:OpR X (binaryOp .Mult) uv:=by
 intro pins s σ H x y v u Q I rx ry h;obtain⟨l,k,xs,rfl,rfl,hH,h1,h2,hz,q⟩:=h;cases rx;obtain⟨t,rfl⟩:=ry;obtain⟨z,its,n,r,hl,e⟩:=I.lstM hH;have hlen:its.toArray.size*k.toNat<=sizeLine:=by rw [size_toArray,<- hl];exact hz
 have hcap:¬ its.toArray.size*k.toNat > (2^63 - 1) / 8:=by
  have:(sizeLine:Nat)<=(2^63 - 1) / 8:=by decide
  omega
 have hfit:¬ (!Builtin.List.listFitsIndex k)=true:=by
  rw [fitsIndex_both h1 h2];exact Bool.false_ne_true
 have hlong:¬ Builtin.List.listTooLong (its.toArray.size*k.toNat)=true:=by
  rw [mj hlen];exact Bool.false_ne_true
 have hnew:List.foldl (fun x1 x2=>x1++x2) #[] (List.replicate (if its.toArray.isEmpty=true then 0 else k.toNat) its.toArray)=(List.replicate k.toNat its).flatten.toArray:=by
  have f0:∀m:Nat,List.foldl (fun x1 x2=>x1++x2) #[] (List.replicate m its.toArray)=(List.replicate m its).flatten.toArray:=fun m=>by
   have:=ik its m [];rw [nil_append] at this;exact this
  rw [f0]
  cases its with
  | nil=>simp
  | cons a r'=>rw [if_neg (by simp)]
 refine wpAny_binaryOp_repeat_ref (T:="list") (U:="int") (by decide) ⟨_,e,rfl⟩ (fun s'=>typeIs_int s' k t) noFill_list_mul F.fills_int_mul F.slot_int_rmul repeat_list F.slot_int_index.lookup
  (call_meets F.slot_int_rmul (typeIs_int s k t) F.entry_int_rmul (F.args_int_rmul_2 _ _) (int___rmul___int_list k t l its.toArray n)
   ⟨e,rfl,⟨_,e,rfl⟩,call_meets F.slot_list_mul ⟨_,e,rfl⟩ F.entry_list_mul (F.args_list_mul_2 _ _) (AutoListH.list___mul___list_int_3 l its.toArray n k t hfit hcap hlong) ⟨e,?_⟩⟩)
 rw [hnew];exact⟨.ref _,_,I.lnew (t':=s.toks) (r.rep k.toNat) (by rw [om,mul_comm];exact hz),rfl,q _ I.fresh⟩
end
end L2
namespace Att
open PySem PySem.W PySem.Calls PyProof.Rows
theorem fo{P:Params}{h:Heap}:∀(ns:List Int) (vs:List Value),WellAll P h vs (ns.map WData.int)->IntsAre vs ns:=by
 intro ns
 induction ns with
 | nil =>
  intro vs w;rw [map_nil] at w;cases w;exact .nil
 | cons n ns ih =>
  intro vs w;rw [map_cons] at w
  cases w with
  | cons a b =>
   cases a;exact .cons _ _ (ih _ b)
theorem kL{l:OpenLaw}{n:Nat}(hn:l.most=some n){P:Params}{h:Heap}{args:List WData}{vals:List Value}
  (hpre:l.row.toRowW.claim.pre args=true) (hwl:WellAll P h vals args) :
  ∃a vs ns,vals=[Value.ref a]/\args=[WData.list (ns.map WData.int)]/\h.get? a=some { cls:=.type "list",data:=.seq vs.toArray }/\IntsAre vs ns/\ns.length<=n:=by
 have hsh:WShape.hasAll [] args [.list .int]=true:=(pre_splitW hpre).1;have hc:l.pre.holds [] { args:=args }=true:=(pre_splitW hpre).2;obtain⟨d,r,rfl,h1,h2⟩:=hasAllW_cons hsh;obtain rfl:=hasAllW_nil h2;obtain⟨xs,rfl,h3⟩:=hasW_list h1;obtain⟨ns,rfl⟩:=items_int h3
 have hlen:ns.length<=n:=by
  unfold OpenLaw.pre at hc
  have h4:(WTm.not (.lt (.lit (.int (n:Int))) (.len (.arg 0)))).holds [] { args:=[.list (ns.map .int)] }=true:=by
   have h4:=(holds_andW hc).1;rw [hn] at h4;exact h4
  have h5:=condW_of h4 (w_not (w_lt w_lit (w_len_list (w_arg rfl))));rw [length_map] at h5;refine le_of_not_lt fun q=>?_;have q':(n:Int)<((ns.length:Nat):Int):=by omega
  first
   | (rw [decide_eq_true q'] at h5;exact absurd h5 (by decide))
   | (simp at h5;omega)
 cases hwl with
 | cons w1 w2 =>
  cases w2
  cases w1 with
  | list ho hall=>exact⟨_,_,ns,rfl,rfl,ho,fo ns _ hall,hlen⟩
theorem kM(l:OpenLaw)(args:List WData):l.row.toRowW.claim.post args (.bool true) args=true :=
 postW_of (r:=l.row.toRowW) (X:=(true == true))
  (show WShape.has [] (.bool true) .bool=true by first|rfl|decide|simp [WShape.has,WShape.arms,WShape.armsAll])
  (show (WTm.eq .res (.lit (.bool true))).value [] { args:=args,res:=some (.bool true),after:=args }=some (.bool (true == true)) from w_eq_bool (w_res rfl) w_lit) rfl
theorem attach_call{l:OpenLaw}{n:Nat}{q:Program}{loose:List Str}{XP:(Str->Option Value)->Heap->Prop}{YP:World->Heap->Prop}{d:DefRec}
  (hn:l.most=some n) (hdf:d.params.defaults=[])
  (call:∀(w:World) (s₀ s₁:Shared) (mg mb:Str->Option Value) (fa:Addr) (o:Obj) (pm cd doc:Value) (a:Addr) (vs:List Value) (ns:List Int),
   Ground q loose [] XP w s₀ mg mb s₁.heap->YP w s₁.heap ->
   s₁.heap.get? fa=some o->o.data=.func (docDef d.name d.params d.body d.scope pm cd doc)->s₁.heap.CodeRec cd d.name->mg d.name=some (.ref fa) ->
   s₁.heap.get? a=some { cls:=.type "list",data:=.seq vs.toArray }->IntsAre vs ns->ns.length<=n->s₁.gens=#[] ->
   codeAny (model l.prog w) callerA (.call (.ref fa) ⟨[.ref a],[]⟩) (fun r s'=>r=.ok (.ret (.bool true))/\OldK s₁.heap s'.heap/\s'.os=s₁.os/\AllBare s'.gens) s₁) :
  WalkO q loose XP YP l.row.toRowW d [] (fun f vs=>PySem.call f vs):=by
 intro w s₀ s₁ mg mb G Y fa o pm cd doc dV kV ho hd hcd hD hmg hg args vals as hpre hlay hrd hwl hlo;obtain rfl:dV=.none:=Dflts.none hD hdf;obtain rfl:kV=.none:=Dflts.noKw hD;obtain⟨a,vs,ns,rfl,rfl,hobj,hints,hlen⟩:=kL hn hpre hwl;refine enter_call (codeAny_mono (call w s₀ s₁ mg mb fa o pm cd doc a vs ns G Y ho (fd_plain hd) hcd hmg hobj hints hlen hg) fun r s' hq=>?_);obtain⟨rfl,h2,h3,h4⟩:=hq;exact⟨.inl ⟨.bool true,.bool true,[],rfl,fun _=>rfl,.bool true,kM l _,fun _=>⟨List.Pairwise.nil,fun _ hm=>(nomatch hm)⟩⟩,h2,h3,h4⟩
end Att
namespace L2
open PySem PySem.Spec PyProof.Rows
theorem il:∀{vs:List Value}{ns:List Int},IntsAre vs ns->bo (ns.map V.int) vs
 | _,_,.nil=>.nil
 | _,_,.cons n t h=>.cons ⟨t,rfl⟩ (il h)
def sM(H:Hp):Prop:=∀b,H b=none\/∃o xs,H b=some (.frz o (.lst xs))
theorem ml{P:Program}{w:World}{K:PySem.W.Frag}{mg mb:Str->Option Value}{CX:CXT}{k:Nat}{fa a:Addr}{fd:FuncData}{x:Str}{sp:Sp}{s₁:Shared}{vs:List Value}{ns:List Int}
  (KX:K.In s₁.heap) (hns:s₁.heap.Ns mainGlobals mg) (hb:s₁.heap.Ns builtinsNs mb) (hbb:∀x:Str,x≠"__name__"->mb x=bootBuiltins x) (hlim:s₁.heap.NoLimit) (hg:s₁.gens=#[])
  (ha:s₁.heap.get? a=some { cls:=.type "list",data:=.seq vs.toArray }) (hi:IntsAre vs ns) (hl:ns.length<=sizeLine) (hr:dU k callerA)
  (F:∀base:Heap,K.In base->base.Ns mainGlobals mg->iW P w K mg base CX k fa fd [x] sp) (hbind:∀(s:Shared) (u:Value),BindsTo s fd ⟨[u],[]⟩ [(x,u)])
  (hsp:∀H:Hp,sM H->SqL K H a (ns.map V.int)->sp [.ref a] H (fun v _=>v=.bl true) fun _ _ _=>False)
  (hCX:∀H e s',CX [] H s₁ (fun _ _ _=>False) e s'->False) :
  codeAny (model P w) callerA (.call (.ref fa) ⟨[.ref a],[]⟩) (fun r s'=>r=.ok (.ret (.bool true))/\OldK s₁.heap s'.heap/\s'.os=s₁.os/\AllBare s'.gens) s₁:=by
 have rv:=il hi;have lenV:=hi.length
 -- from an abstract heap in which nothing but the script may be tracked
 have core:∀H:Hp,sM H->SqL K H a (ns.map V.int)->HOk P w H s₁.heap->(∀b,H b≠none->b=a)->(H a≠none->K.lookup a=none) ->
   codeAny (model P w) callerA (.call (.ref fa) ⟨[.ref a],[]⟩) (fun r s'=>r=.ok (.ret (.bool true))/\OldK s₁.heap s'.heap/\s'.os=s₁.os/\AllBare s'.gens) s₁:=by
  intro H hO hS hok hA hK;have base_of:∀{b:Addr}{o:Obj},s₁.heap.get? b=some o->H b=none->(l4 s₁.heap H).get? b=some o:=fun e n=>l5 e n
  have noA:∀{b:Addr}{o:Obj}{es:Array DictEntry}{ep:Nat},s₁.heap.get? b=some o->o.data=.dict es ep->H b=none:=fun {b o es ep} e d=>by
   cases q:H b with
   | none=>rfl
   | some u =>
    have e':b=a:=hA b (by rw [q];simp);subst e';rw [ha] at e;cases e;have d':Data.seq vs.toArray _=Data.dict es ep:=d;cases d'
  have nsK:∀{b:Addr}{m:Str->Option Value},s₁.heap.Ns b m->(l4 s₁.heap H).Ns b m:=fun {b m} ⟨o,es,ep,e,d,r⟩=>⟨o,es,ep,base_of e (noA e d),d,r⟩
  have hKb:K.In (l4 s₁.heap H):=fun b o e=>base_of (KX b o e) (by
   cases q:H b with
   | none=>rfl
   | some u =>
    have e':b=a:=hA b (by rw [q];simp);subst e';rw [hK (by rw [q];simp)] at e;cases e)
  have hM:Mod K mg (l4 s₁.heap H):=⟨hKb,nsK hns,⟨mb,nsK hb,hbb⟩,let ⟨mc,h1,h2⟩:=hlim;⟨mc,nsK h1,h2⟩⟩
  have e0:mf P w K mg (l4 s₁.heap H) callerA [] s₁ H:=⟨rfl,hM,fun b o e=>nQ e,le_of_eq (kq _ _),trivial,fun b hb=>absurd (show b∈([]:List Addr) from hb) (by simp),hok,.of_eq hg⟩
  refine codeAny_mono ((F _ hKb (nsK hns)).run callerA [] s₁ H ⟨[.ref a],[]⟩ [.ref a] [.ref a] _ _ hr e0 (hbind s₁ (.ref a)) (.cons rfl .nil) (hsp H hO hS)) fun r s' h=>?_
  cases r with
  | error e=>exact (hCX H e s' h).elim
  | ok fl =>
   cases fl with
   | next=>exact False.elim h
   | brk=>exact False.elim h
   | cont=>exact False.elim h
   | ret u =>
    obtain⟨v,H',os,bare,un,hok',r',q⟩:=h;have q':v=.bl true:=q;subst q';obtain rfl:u=Value.bool true:=r';refine⟨rfl,OldK.of_keep fun b o e=>?_,os,bare⟩
    cases q:H b with
    | none=>exact un.keep b o e q (by intro z;exact absurd (show b∈([]:List Addr) from z) (by simp)) (by simp)
    | some u =>
     rcases hO b with z|⟨ob,xs,z⟩
     .rw [q] at z;cases z
     .have z2:=un.frzs b ob _ z;obtain⟨e1,_⟩:=hok b _ z;obtain⟨e2,_⟩:=hok' b _ z2;rw [e] at e1;cases e1;exact e2
 cases hk:K.lookup a with
 | some o =>
  -- the script is one of the module's own objects
  have e:=KX a o hk;rw [ha] at e;cases e;refine core (fun _=>none) (fun _=>.inl rfl) (.inr ⟨_,vs.toArray,_,hk,rfl,rfl,rfl,by rw [size_toArray,lenV];exact hl,by simpa using rv⟩) (fun b u z=>by have z':(none:Option HO)=some u:=z;cases z') (fun b z=>absurd rfl z) fun z=>absurd rfl z
 | none =>
  refine core (fun b=>if b=a then some (.frz { cls:=.type "list",data:=.seq vs.toArray } (.lst (ns.map V.int))) else none) (fun b=>?_) (.inl (.inr ⟨{ cls:=.type "list",data:=.seq vs.toArray },if_pos rfl⟩)) (fun b u z=>?_) (fun b z=>?_) fun _=>hk
  .by_cases hb:b=a
   .exact .inr ⟨_,_,if_pos hb⟩
   .exact .inl (if_neg hb)
  .by_cases hb:b=a
   .have z':=(if_pos hb).symm.trans z;cases z';subst hb;exact⟨ha,by rw [length_map];exact hl,vs,_,rv,ha⟩
   .have z':=(if_neg hb).symm.trans z;cases z'
  .by_cases hb:b=a
   .exact hb
   .exact absurd (if_neg hb) z
theorem oq{l:PySem.W.OpenLaw}{n k:Nat}{q:Program}{loose:List Str}{XP:(Str->Option Value)->Heap->Prop}{YP:World->Heap->Prop}{d:DefRec}{K:Params->PySem.W.Frag}{CX:World->CXT}{sp:World->Sp}{x:Str}
  (hn:l.most=some n) (hn2:n<=sizeLine) (hdf:d.params.defaults=[]) (hr:dU k callerA)
  (hY:∀(w:World) (h:Heap),YP w h->(K w.params).In h)
  (F:∀(w:World) (mg:Str->Option Value) (fa:Addr) (h:Heap),(K w.params).In h->h.Ns mainGlobals mg->mg d.name=some (.ref fa) ->
   ∃fd:FuncData,(∀(s:Shared) (u:Value),BindsTo s fd ⟨[u],[]⟩ [(x,u)]) /\
    ∀base:Heap,(K w.params).In base->base.Ns mainGlobals mg->iW l.prog w (K w.params) mg base (CX w) k fa fd [x] (sp w))
  (hsp:∀(w:World) (H:Hp) (a:Addr) (ns:List Int),ns.length<=n->sM H->SqL (K w.params) H a (ns.map V.int)->sp w [.ref a] H (fun v _=>v=.bl true) fun _ _ _=>False)
  (hCX:∀(w:World) (H:Hp) (s:Shared) (e:Value) (s':Shared),CX w [] H s (fun _ _ _=>False) e s'->False) :
  PySem.W.WalkO q loose XP YP l.row.toRowW d [] (fun f vs=>PySem.call f vs):=by
 refine Att.attach_call hn hdf fun w s₀ s₁ mg mb fa o pm cd doc a vs ns G Y ho hd hcd hmg hobj hints hlen hg=>?_;have KX:=hY w _ Y;obtain⟨fd,hb,hF⟩:=F w mg fa _ KX G.T.g hmg;exact ml KX G.T.g G.T.b G.T.builtins G.T.nolimit hg hobj hints (le_trans hlen hn2) hr hF hb (fun H hO hS=>hsp w H a ns hlen hO hS) fun H e s'=>hCX w H s₁ e s'
def cJ(s:Stmt)(j:Nat):Stmt:=match s with
 | .ClassDef _ _ _ body _ _ _ _ _ _ _=>body.getD j (.Pass ⟨0,0,0,0⟩)
 | _=>.Pass ⟨0,0,0,0⟩
def a5(s:Stmt):Arguments:=match s with
 | .FunctionDef _ a _ _ _ _ _ _ _ _=>a
 | _=>{ posonlyargs:=[],args:=[],vararg:=none,kwonlyargs:=[],kw_defaults:=[],kwarg:=none,defaults:=[] }
def aT(s:Stmt):List Stmt:=match s with
 | .FunctionDef _ _ b _ _ _ _ _ _ _=>b
 | _=>[]
def ae(s:Stmt):Scope:=match s with
 | .FunctionDef _ _ _ _ _ _ sc _ _ _=>sc
 | _=>{ kind:=.function,names:=[],isGenerator:=false,isCoroutine:=false }
abbrev CX0:CXT:=fun _ _ _ _ _ _=>False
abbrev E0:XK:=fun _ _ _=>False
theorem sN{X:Cx}:kH CX0 X E0:=fun _ _ _ _ _ _ _ h=>h.elim
structure Fun (K:PySem.W.Frag) (x qual:Str) (st:Stmt) (f:Addr) (fd:FuncData):Prop where
 ex:∃(oc:Value) (od:Option Addr) (kV doc pm:Value) (an:Option Addr) (cdv ct:Value) (osl:Array (Option Value)),
  fd=PySem.W.fnOf x qual (a5 st) (aT st) (ae st) .none kV doc pm an cdv ct/\K.lookup f=some ⟨oc,od,.func fd,osl⟩/\PySem.W.codeIn K cdv qual=true
 kp:PySem.W.keepIn K (.ref f)=true
section
variable {P:Program}{w:World}{K:PySem.W.Frag}{mg:Str->Option Value}{base:Heap}
theorem Fun.ok{x qual:Str}{st:Stmt}{f:Addr}{fd:FuncData}{N ps:List Str}{k:Nat}{sp:Sp}(F:Fun K x qual st f fd)(S:aI N ps (ae st))(len:∀vs H Q E,sp vs H Q E->vs.length=ps.length)
  (hbody:∀(cdv:Value) (A:Around) (outer:List Env) (s:Shared) (H:Hp) (vs:List V) (Q:VK) (E:XK),dU k (A.deeper (envOfC qual (ae st) s.heap.objs.size f cdv))->sp vs H Q E ->
   ∃t,PSs (jB CX0 P w K mg base N qual (ae st) f cdv A outer s H E).nox (aT st) t/\t { nx:=fun _ H'=>Q .non H',rt:=Q } (start N vs) H):iW P w K mg base CX0 (k+1) f fd ps sp:=by
 obtain⟨oc,od,kV,doc,pm,an,cdv,ct,osl,rfl,lk,hcd⟩:=F.ex;refine qH lk hcd S len fun A outer s H vs Q E hr hsp=>?_;obtain⟨t,h,q⟩:=hbody cdv A outer s H vs Q E hr hsp;exact⟨t,h.nox,q⟩
theorem Fun.binds{x qual:Str}{st:Stmt}{f:Addr}{fd:FuncData}{ps:List Str}(F:Fun K x qual st f fd)
  (h:∀(kV doc pm:Value) (an:Option Addr) (cdv ct:Value) (us:List Value),us.length=ps.length->bindArgs (PySem.W.fnOf x qual (a5 st) (aT st) (ae st) .none kV doc pm an cdv ct) ⟨us,[]⟩=pure (ps.zip us)):gF K fd ps []:=by
 obtain⟨oc,od,kV,doc,pm,an,cdv,ct,osl,rfl,lk,hcd⟩:=F.ex;exact .all (h kV doc pm an cdv ct)
theorem dy{x qual:Str}{st:Stmt}{f:Addr}{oc:Value}{od an:Option Addr}{osl:Array (Option Value)}{kV doc pm cdv ct:Value}(l:K.lookup f=some ⟨oc,od,.func (PySem.W.fnOf x qual (a5 st) (aT st) (ae st) .none kV doc pm an cdv ct),osl⟩)
  (c:PySem.W.codeIn K cdv qual=true) (k:PySem.W.keepIn K (.ref f)=true):Fun K x qual st f (PySem.W.fnOf x qual (a5 st) (aT st) (ae st) .none kV doc pm an cdv ct):=⟨⟨oc,od,kV,doc,pm,an,cdv,ct,osl,rfl,l,c⟩,k⟩
end
section
variable {X:Cx}
theorem pv(i:Nat){x:Str}{pos:Pos}(hN:X.N[i]?=some x:=by rfl)(hv:Vis X.env.scope x:=by first|exact Or.inl rfl|exact Or.inr (Or.inl rfl)|exact Or.inr (Or.inr rfl))(hd:(x == ("__debug__":Str))=false:=by decide)
  (hcd:(x == ("__classdict__":Str))=false:=by decide):PE X (.Name x pos) (j0 i):=ql hN hv hd hcd
end
def S(l:List Nat):Str:=⟨l.toArray⟩
theorem ez(l:List Nat):(S l).length=l.length:=by simp [S,Str.length]
theorem sO(a b:List Nat):S a++S b=S (a++b):=by
 show (⟨a.toArray++b.toArray⟩:Str)=⟨(a++b).toArray⟩
 rw [append_toArray]
theorem sP{a b:List Nat}(h:S a=S b):a=b:=by
 have h':=congrArg (fun x:Str=>x.cps.toList) h;simpa [S] using h'
theorem qQ{a b:List Nat}:V.str (S a)=V.str (S b) ↔ a=b:=⟨fun h=>sP (V.str.inj h),fun h=>by rw [h]⟩
theorem qR(a b:List Nat):decide (V.str (S a)=V.str (S b))=decide (a=b):=by
 by_cases h:a=b
 .rw [decide_eq_true h,decide_eq_true (qQ.mpr h)]
 .rw [decide_eq_false h,decide_eq_false (fun z=>h (qQ.mp z))]
def dW{α:Type}(xs:List α)(lo hi:Option Int):List α:=(xs.drop (HT.sIx xs.length 0 lo)).take (HT.sIx xs.length xs.length hi - HT.sIx xs.length 0 lo)
theorem bS{α:Type}(xs:List α)(lo hi:Option Int):(dW xs lo hi).length<=xs.length:=by
 unfold dW;rw [length_take,length_drop];omega
theorem kN(xs:List V)(lo hi:Option Int):n6 xs lo hi=dW xs lo hi:=rfl
theorem qS(lo hi:Option Int)(n:Nat):Builtin.Str.strSliceIndices lo hi 1 n=(List.range (HT.sIx n n hi - HT.sIx n 0 lo)).map (fun k=>HT.sIx n 0 lo+k):=by
 have key:∀(o:Option Int) (d:Nat),d<=n->(match o with|none=>(d:Int)|some i=>max 0 (min (if i<0 then i+(n:Int) else i) (n:Int)))=((HT.sIx n d o:Nat):Int):=by
  intro o d hd
  cases o with
  | none=>rfl
  | some i =>
   show max 0 (min (if i<0 then i+(n:Int) else i) (n:Int))=_;rw [<- HT.clip_eq i n d]
   by_cases h:i<0
   .rw [if_pos h,if_pos h];omega
   .rw [if_neg h,if_neg h];omega
 have k1:=key lo 0 (zero_le _);have k2:=key hi n (le_refl _);unfold Builtin.Str.strSliceIndices;simp only [show (1:Int) > 0 by decide,if_true];refine Eq.trans (congrArg (fun a=>sliceRange a _ 1) k1) (Eq.trans (congrArg (fun b=>sliceRange _ b 1) k2) ?_);unfold sliceRange;simp only [show (1:Int) > 0 by decide,if_true];generalize HT.sIx n 0 lo=a;generalize HT.sIx n n hi=b
 have ec:(if (a:Int)<(b:Int) then ((b:Int) - (a:Int)+1 - 1) / 1 else 0).toNat=b - a:=by
  split <;> omega
 rw [ec];apply map_congr_left;intro k _;omega
theorem kO{α:Type}(l:List α)(a m:Nat):((List.range m).map (fun k=>a+k)).filterMap (fun i=>l[i]?)=(l.drop a).take m:=by
 induction m generalizing a with
 | zero=>simp
 | succ m ih =>
  rw [range_succ_eq_map,map_cons,map_map,filterMap_cons];have e:((fun k=>a+k) ∘ Nat.succ)=fun k=>(a+1)+k:=by funext k;simp;omega
  rw [e,ih (a+1)]
  cases h:l[a+0]? with
  | none =>
   have hl:l.length<=a:=by simpa using List.getElem?_eq_none_iff.mp h
   rw [drop_eq_nil_of_le hl,drop_eq_nil_of_le (by omega)];simp
  | some v =>
   have hl:a<l.length:=by simpa using (List.getElem?_eq_some_iff.mp h).1
   have hv:l[a]=v:=by simpa using (List.getElem?_eq_some_iff.mp h).2
   rw [drop_eq_getElem_cons hl,hv];rfl
theorem ou(l:List Nat)(lo hi:Option Int):Txt.slice (S l) lo hi=S (dW l lo hi):=by
 have e1:(Builtin.Str.strSliceIndices lo hi 1 (S l).length).filterMap ((S l).cps[·]?)=dW l lo hi:=by
  rw [qS,ez];have e:(fun i:Nat=>(S l).cps[i]?)=fun i:Nat=>l[i]?:=by funext i;simp [S]
  rw [e];exact kO l _ _
 unfold Txt.slice
 split
 .rename_i h;have h2:(Builtin.Str.strSliceIndices lo hi 1 (S l).length).length=(S l).length:=by simpa using h
  rw [qS,ez,length_map,length_range] at h2;have a0:=HT.sIx_le l.length 0 (zero_le _) lo;have b0:=HT.sIx_le l.length l.length (le_refl _) hi;unfold dW
  by_cases hz:l.length=0
  .have:l=[]:=length_eq_zero_iff.mp hz;subst this;simp
  .have ha:HT.sIx l.length 0 lo=0:=by omega
   have hb:HT.sIx l.length l.length hi=l.length:=by omega
   rw [ha,hb];simp
 .rw [e1];rfl
theorem gH{α:Type}(l:List α)(k:Nat):dW l none (some (k:Int))=l.take k:=by
 unfold dW;rw [HT.sIx_nat];show (l.drop 0).take (min k l.length - 0)=l.take k;rw [drop_zero,sub_zero]
 by_cases h:k<=l.length
 .rw [min_eq_left h]
 .rw [min_eq_right (by omega),take_of_length_le (le_refl _),take_of_length_le (by omega)]
theorem fq{α:Type}(l:List α)(k:Nat):dW l (some (k:Int)) none=l.drop k:=by
 unfold dW;rw [HT.sIx_nat];show (l.drop (min k l.length)).take (l.length - min k l.length)=l.drop k
 by_cases h:k<=l.length
 .rw [min_eq_left h,take_of_length_le (by rw [length_drop];exact le_refl _)]
 .rw [min_eq_right (by omega),sub_self,take_zero,drop_eq_nil_of_le (by omega)]
section
variable {X:Cx}
def uw:V->Option Int->Option Int->Hp->VK->Prop:=fun x lo hi H Q=>∃l,x=.str (S l)/\l.length<=sizeLine/\Q (.str (S (dW l lo hi))) H
theorem qT:SlR X uw:=by
 intro pins s σ H x v vl vu lo hi sl Q I rx hs pl pu h;obtain⟨l,rfl,hz,q⟩:=h;obtain⟨t,rfl⟩:=rx;refine⟨"str",_,slot_str_getitem.lookup,typeIs_str s _ t,?_⟩
 obtain⟨l',hl',el⟩:∃l':Option (Int×Tok),vl=partValue l'/\l'.map (·.1)=lo:=by
  cases pl with
  | none=>exact⟨none,rfl,rfl⟩
  | int i t=>exact⟨some (i,t),rfl,rfl⟩
 obtain⟨u',hu',eu⟩:∃l':Option (Int×Tok),vu=partValue l'/\l'.map (·.1)=hi:=by
  cases pu with
  | none=>exact⟨none,rfl,rfl⟩
  | int i t=>exact⟨some (i,t),rfl,rfl⟩
 subst hl' hu';refine wpAny_getItem_str_slice (l:=l') (u:=u') (st:=none) hs rfl ?_;have hm:∀t' k,EP X pins σ Q (.str (Txt.slice (S l) lo hi) t') { s with toks:=k }:=fun t' k=>⟨.str (S (dW l lo hi)),H,I.tok _,⟨t',by rw [ou]⟩,q⟩
 have hlen:(Txt.slice (S l) lo hi).length<=sizeLine:=le_trans (Txt.slice_le _ _ _) (by rw [ez];exact hz);subst el eu;exact post_val_or_str ⟨hlen,hm⟩
def gI{α:Type}(l:List α)(n:Int):List α:=(List.replicate n.toNat l).flatten
theorem kP(k:Nat)(l acc:List Nat):(List.replicate k l.toArray).foldl (·++·) acc.toArray=(acc++(List.replicate k l).flatten).toArray:=by
 induction k generalizing acc with
 | zero=>simp
 | succ k ih =>
  rw [replicate_succ,foldl_cons,append_toArray,ih (acc++l),replicate_succ,flatten_cons,append_assoc]
theorem sQ(l:List Nat)(n:Int):Txt.mul (S l) n=S (gI l n):=by
 unfold Txt.mul gI
 by_cases h:n<1
 .rw [if_pos h];have:n.toNat=0:=by omega
  rw [this];rfl
 .rw [if_neg h]
  split
  .rename_i h2;rw [ez] at h2;simp only [or_eq_true,beq_iff_eq] at h2
   rcases h2 with h2|h2
   .subst h2;simp [S]
   .have:l=[]:=length_eq_zero_iff.mp h2;subst this;simp [S]
  .have e:=kP n.toNat l [];show (⟨_⟩:Str)=_
   have e':(List.replicate n.toNat (S l).cps).foldl (·++·) #[]=((List.replicate n.toNat l).flatten).toArray:=by
    simpa [S] using e
   rw [e'];rfl
theorem fu{α:Type}(l:List α)(n:Int):(gI l n).length=n.toNat*l.length:=by
 unfold gI;rw [length_flatten,map_replicate,sum_replicate_nat]
theorem ka:OpR X (binaryOp .Mult) (fun x y H Q=>∃l n,x=.str (S l)/\y=.int n/\-1000000<=n/\n<=1000000/\n.toNat*l.length<=sizeLine/\Q (.str (S (gI l n))) H):=by
 intro pins s σ H x y v u Q I rx ry h;obtain⟨l,n,rfl,rfl,h1,h2,hz,q⟩:=h;obtain⟨t,rfl⟩:=rx;obtain⟨t',rfl⟩:=ry;have hs:sizeLine=16777216:=sizeLine_eq;have hz':n.toNat*l.length<=16777216:=by rw [<- hs];exact hz
 refine SB.mul ⟨?_,fun hn hc=>?_,fun hn hc=>?_⟩ fun t' k=>⟨.str (S (gI l n)),H,I.tok _,⟨t',by rw [sQ]⟩,q⟩
 .rw [decide_eq_false (by omega),decide_eq_false (by omega)];rfl
 .rw [ez];intro hgt
  have hl:l.length<=16777216:=by
   have:1*l.length<=n.toNat*l.length:=mul_le_mul_right _ (by omega);omega
  have hdiv:(2^63 - 1:Int) / 1000000<=(2^63 - 1) / n:=by
   apply le_ediv_of_mul_le (by omega);have:=mul_le_mul_of_nonneg_left h2 (show (0:Int)<=(2^63 - 1) / 1000000 by decide);have e2:((2^63 - 1:Int) / 1000000)*1000000<=2^63 - 1:=by decide
   omega
  have e3:(2^63 - 1:Int) / 1000000=9223372036854:=by decide
  omega
 .rw [ez];have:l.length*n.toNat<=16777216:=by rw [mul_comm];exact hz'
  exact decide_eq_false (by omega)
theorem kQ:OpR X (compareOp .LtE) (fun x y H Q=>∃i j,x=.str i/\y=.str j/\Q (.bl (!decide (j.cps.toList<i.cps.toList))) H):=by
 intro pins s σ H x y v u Q I rx ry h;obtain⟨i,j,rfl,rfl,q⟩:=h;obtain⟨t,rfl⟩:=rx;obtain⟨t',rfl⟩:=ry;exact PySem.P.le_str ⟨.bl _,H,I,rfl,q⟩
end
def Its(xs:List V):It:=⟨fun i _=>i<xs.length,fun i H x H'=>H'=H/\xs[i]?=some x,fun i _=>xs.length=i⟩
theorem kR{M:Model}{A:Around}{E:Value->Shared->Prop}{s:Shared}{tg:Expr}{it:Addr}{u:Value}{Q:Unit->Shared->Prop}(hu:∀a,u≠.ref a)(hQ:Q () s):wpAny M A (letOwnedTupleGo tg (.ref it) u) Q E s:=by
 unfold letOwnedTupleGo
 cases tg <;> first
  | exact wpAny_pure hQ
  | (cases u <;> first
    | exact wpAny_pure hQ
    | exact absurd rfl (hu _))
theorem im{P:Program}{w:World}{K:PySem.W.Frag}{tg:Expr}{it:Addr}{xs:List V}{n:Nat}{Pt:Nat->Value->Prop}{St:Nat->Heap->Prop}
  (W:∀A:Around,A.handled=none->Walks P w A it [it] [it] n Pt St) (hn:xs.length=n)
  (hv:∀i v,i<n->Pt i v->∃x,xs[i]?=some x/\ck x v) (hsc:∀i v,Pt i v->∀a,v≠.ref a)
  (hobj:∀i h,St i h->∃o,h.get? it=some o/\∀v,o.data≠.cell v)
  (hfr:∀i h h',St i h->(∀b∈[it],∀o,h.get? b=some o->h'.get? b=some o)->St i h')
  (hself:∀(A:Around) (i:Nat) (s:Shared) (Q:Value->Shared->Prop) (E:Value->Shared->Prop),St i s.heap->Q (.ref it) s->wpAny (model P w) A (pyIter (.ref it)) Q E s) :
  qw P w K tg (Its xs) [it] it St where
 mem:=by simp
 obj:=fun i h st b hb=>by
  have e:b=it:=by simpa using hb
  subst e;exact hobj i h st
 keep:=fun i h h' st k=>hfr i h h' st k
 item:=by
  intro X hP hw hK hc i pins s σ H E I hf st hg;subst hP hw hK;obtain⟨f0,f1,f2,f3,f4,f5⟩:=hf it (by simp);refine (W X.A (I.ok.hd hc)).item i s _ _ (by rw [<- hn];exact hg) st fun v h' tk hp st' kk=>?_;obtain⟨x,hx,rx⟩:=hv i v (by rw [<- hn];exact hg) hp;have I1:Inv X pins σ H { s with heap:=h',toks:=tk }:=I.turned (fun b o hb e=>kk b o (by simpa using hb) e) f0 f1 f3 f4 f5;exact⟨v,rfl,kR (s:={ s with heap:=h',toks:=tk }) (hsc i v hp) ⟨x,H,I1,rx,⟨rfl,hx⟩,st',fun b hb=>(hf b hb).1⟩⟩
 done:=by
  intro X hP hw hK hc i pins s σ H E I hf st hg;subst hP hw hK;obtain⟨f0,f1,f2,f3,f4,f5⟩:=hf it (by simp);have e:n=i:=hn.symm.trans hg;subst e;exact (W X.A (I.ok.hd hc)).done s _ _ st fun h' tk kk=>⟨rfl,I.turned (fun b o hb e=>kk b o (by simpa using hb) e) f0 f1 f3 f4 f5⟩
 self:=hself
section
variable {X:Cx}{tg:Expr}
def de(l:List Nat):List V:=l.map fun c=>V.str (S [c])
theorem kc{l:List Nat}{i:Nat}{x:V}(h:(de l)[i]?=some x):∃c,l[i]?=some c/\x=.str (S [c]):=by
 unfold de at h;rw [getElem?_map] at h
 cases e:l[i]? with
 | none=>rw [e] at h;cases h
 | some c=>rw [e] at h;exact⟨c,rfl,(Option.some.inj h).symm⟩
theorem eA(l:List Nat):(de l).length=l.length:=length_map _
end
section
variable {X:Cx}
theorem iY:bG X (.builtin "isinstance") (fun xs H Q=>∃x n t b,xs=[x,.ty n]/\iV X.K H x t/\PySem.W.kitOne X.K t (.type n)=some b/\Q (.bl b) H):=by
 intro pins s σ H xs us Q I r h;obtain⟨x,n,t,b,rfl,ty,e,q⟩:=h;obtain⟨u,w',rfl,rx,ry⟩:=md r;cases (show w'=Value.type n from ry);exact kG I rx ty e fun tk=>⟨.bl b,H,I.tok _,rfl,q⟩
mutual
inductive DV (K:PySem.W.Frag) (H:Hp):V->PyData->Prop
 | non:DV K H .non .none
 | bl (b:Bool):DV K H (.bl b) (.bool b)
 | int (i:Int):DV K H (.int i) (.int i)
 | str (x:Str):DV K H (.str x) (.str x)
 | lst {a:Addr}{xs:List V}{ds:List PyData}:SqL K H a xs->DVs K H xs ds->DV K H (.ref a) (.list ds)
 | tup {a:Addr}{xs:List V}{ds:List PyData}:SqT K H a xs->DVs K H xs ds->DV K H (.ref a) (.tuple ds)
inductive DVs (K:PySem.W.Frag) (H:Hp):List V->List PyData->Prop
 | nil:DVs K H [] []
 | cons {x:V}{d:PyData}{xs:List V}{ds:List PyData}:DV K H x d->DVs K H xs ds->DVs K H (x::xs) (d::ds)
end
mutual
theorem DV.reads{pins:List (Addr×Obj)}{σ:St}{H:Hp}{s:Shared}(I:Inv X pins σ H s):∀{x:V}{d:PyData}{u:Value},DV X.K H x d->ck x u->∃as,Reads s.heap u d as
 | _,_,u,.non,r=>by cases (show u=Value.none from r);exact⟨_,.none⟩
 | _,_,u,.bl b,r=>by cases (show u=Value.bool b from r);exact⟨_,.bool b⟩
 | _,_,u,.int i,r=>by obtain⟨t,e⟩:=(show ∃t,u=Value.int i t from r);subst e;exact⟨_,.int i t⟩
 | _,_,u,.str x,r=>by obtain⟨t,e⟩:=(show ∃t,u=Value.str x t from r);subst e;exact⟨_,.str x t⟩
 | _,_,u,.lst (a:=a) hq hs,r=>by
  cases (show u=Value.ref a from r);obtain⟨its,rv,pl,_⟩:=I.list hq;obtain⟨o,ho,hc,n,hd⟩:=pl.isList;obtain⟨as,ra⟩:=DVs.reads I hs rv;exact⟨_,.list ho hc hd ra⟩
 | _,_,u,.tup (a:=a) hq hs,r=>by
  cases (show u=Value.ref a from r);obtain⟨its,rv,pl,_⟩:=I.tuple hq;obtain⟨o,ho,hc,n,hd⟩:=pl;obtain⟨as,ra⟩:=DVs.reads I hs rv;exact⟨_,.tuple ho hc hd ra⟩
theorem DVs.reads{pins:List (Addr×Obj)}{σ:St}{H:Hp}{s:Shared}(I:Inv X pins σ H s):∀{xs:List V}{ds:List PyData}{us:List Value},DVs X.K H xs ds->bo xs us->∃as,ReadsAll s.heap us ds as
 | _,_,_,.nil,.nil=>⟨_,.nil⟩
 | _,_,_,.cons h hs,.cons r rs=>by
  obtain⟨as,ra⟩:=DV.reads I h r;obtain⟨bs,rb⟩:=DVs.reads I hs rs;exact⟨_,.cons ra rb⟩
end
def sR(K:PySem.W.Frag)(neg:Bool):R2:=fun x y H Q=>∃da db,DV K H x da/\DV K H y db/\SeqAt.shaped da=true/\SeqAt.shaped db=true/\Q (.bl (if neg then !PyData.eqv da db else PyData.eqv da db)) H
theorem qU(hu:X.A.units+64<cLine):OpR X (compareOp .Eq) (sR X.K false):=by
 intro pins s σ H x y v u Q I rx ry h;obtain⟨da,db,ha,hb,sa,sb,q⟩:=h;obtain⟨as,ra⟩:=DV.reads I ha rx;obtain⟨bs,rb⟩:=DV.reads I hb ry;exact eq_dataH ra rb sa sb hu ⟨.bl _,H,I,rfl,q⟩
theorem qV(hu:X.A.units+64<cLine):OpR X (compareOp .NotEq) (sR X.K true):=by
 intro pins s σ H x y v u Q I rx ry h;obtain⟨da,db,ha,hb,sa,sb,q⟩:=h;obtain⟨as,ra⟩:=DV.reads I ha rx;obtain⟨bs,rb⟩:=DV.reads I hb ry;exact ne_dataH ra rb sa sb hu ⟨.bl _,H,I,rfl,q⟩
theorem DVs.ints{K:PySem.W.Frag}{H:Hp}:∀ns:List Int,DVs K H (ns.map V.int) (ns.map PyData.int)
 | []=>.nil
 | n::ns=>.cons (.int n) (DVs.ints ns)
theorem iZ:MtR X "str.endswith" (fun x xs H Q=>∃a b,x=.str (S a)/\xs=[.str (S b)]/\Q (.bl (decide (b <:+ a))) H):=by
 intro pins s σ H x xs v us Q I rx rs h;obtain⟨a,b,rfl,rfl,q⟩:=h;obtain⟨t,rfl⟩:=rx;obtain⟨u,rfl,t',rfl⟩:=iU rs
 have e:Txt.endswith (S a) (S b)=decide (b <:+ a):=by
  unfold Txt.endswith Builtin.Str.subAt;rw [ez,ez]
  have e1:((S a).cps.extract (a.length - b.length) (a.length - b.length+b.length))=((a.drop (a.length - b.length)).take b.length).toArray:=by
   show a.toArray.extract _ _=_;rw [extract_toArray,extract_eq_take_drop];have e2:a.length - b.length+b.length - (a.length - b.length)=b.length:=by omega
   rw [e2]
  rw [e1]
  by_cases h:b <:+ a
  .rw [decide_eq_true h];have hl:=h.length_le;have hd:a.drop (a.length - b.length)=b:=(suffix_iff_eq_drop.mp h).symm;rw [hd];simp [S,hl]
  .rw [decide_eq_false h]
   by_cases hl:b.length<=a.length
   .have hne:¬ (a.drop (a.length - b.length)).take b.length=b:=fun z=>h (by
     rw [take_of_length_le (by rw [length_drop];omega)] at z;exact suffix_iff_eq_drop.mpr z.symm)
    simp only [and_eq_false_imp];intro _;show (((a.drop (a.length - b.length)).take b.length).toArray == b.toArray)=false;rw [beq_eq_false_iff_ne];intro z;exact hne (by simpa using congrArg Array.toList z)
   .rw [decide_eq_false (by omega)];rfl
 exact SC.endswith ⟨.bl _,H,I,rfl,by rw [e];exact q⟩
end
section
variable {X:Cx}{a b:Expr}{ta tb:TE}{pos:Pos}
theorem gJ{x:Str}{l:List Nat}{j:Nat}(h:x=S l):PE X (.Constant (.str x) j pos) (tC (.str (S l))):=by
 subst h;exact qm
theorem kS:bG X (.builtin "len") (fun xs H Q=>∃l,xs=[.str (S l)]/\l.length<=sizeLine/\Q (.int l.length) H):=by
 intro pins s σ H xs us Q I r h;obtain⟨l,rfl,hz,q⟩:=h;exact ii pins s σ H _ us Q I r ⟨S l,rfl,by rw [ez];exact hz,by rw [ez];exact q⟩
def qW:R2:=fun x y H Q=>∃l i c,x=.str (S l)/\y=.int i/\l.length<=sizeLine/\atI l i=some c/\Q (.str (S [c])) H
theorem oy:IxR X qW:=by
 intro value slice pins s σ H x y v u Q I rx ry q hs;obtain⟨l,i,c,rfl,rfl,hz,ha,q⟩:=q;exact qM value slice pins s σ H _ _ v u Q I rx ry ⟨S l,i,c,rfl,rfl,by rw [ez];exact hz,ha,q⟩ hs
theorem oz:OpR X (binaryOp .Add) (fun x y H Q=>∃i j,x=.str (S i)/\y=.str (S j)/\i.length+j.length<=sizeLine/\Q (.str (S (i++j))) H):=by
 intro pins s σ H x y v u Q I rx ry h;obtain⟨i,j,rfl,rfl,hz,q⟩:=h;exact j3 pins s σ H _ _ v u Q I rx ry ⟨S i,S j,rfl,rfl,by rw [ez,ez];exact hz,by rw [sO];exact q⟩
theorem qX:OpR X (compareOp .Eq) (fun x y H Q=>∃i j,x=.str (S i)/\y=.str (S j)/\Q (.bl (decide (i=j))) H):=by
 intro pins s σ H x y v u Q I rx ry h;obtain⟨i,j,rfl,rfl,q⟩:=h;exact sF pins s σ H _ _ v u Q I rx ry ⟨rfl,by rw [qR];exact q⟩
theorem qY:OpR X (compareOp .NotEq) (fun x y H Q=>∃i j,x=.str (S i)/\y=.str (S j)/\Q (.bl (!decide (i=j))) H):=by
 intro pins s σ H x y v u Q I rx ry h;obtain⟨i,j,rfl,rfl,q⟩:=h;exact sG pins s σ H _ _ v u Q I rx ry ⟨rfl,by rw [qR];exact q⟩
theorem qZ:OpR X (compareOp .Eq) (rI0 fun i j=>.bl (decide (i=j))):=qz fun _ _ _ _ _ _ _ q=>eq_int (by rw [beq_eq_decide_eq];exact q)
theorem q0:OpR X (compareOp .NotEq) (rI0 fun i j=>.bl (!decide (i=j))):=qz fun _ _ _ _ _ _ _ q=>ne_int (by rw [bne,beq_eq_decide_eq];exact q)
theorem kT:bG X (.builtin "len") (fun xs H Q=>∃p ys,xs=[.ref p]/\SqL X.K H p ys/\Q (.int ys.length) H):=by
 intro pins s σ H xs us Q I r h;obtain⟨p,ys,e,hq,q⟩:=h;exact eN pins s σ H xs us Q I r ⟨p,ys,e,.inl hq,q⟩
theorem kU:bG X (.builtin "len") (fun xs H Q=>∃p ys,xs=[.ref p]/\SqT X.K H p ys/\Q (.int ys.length) H):=by
 intro pins s σ H xs us Q I r h;obtain⟨p,ys,e,hq,q⟩:=h;exact eN pins s σ H xs us Q I r ⟨p,ys,e,.inr hq,q⟩
end
structure Cal (P:Program) (w:World) (K:PySem.W.Frag) (mg:Str->Option Value) (base:Heap) (k:Nat) (x:Str) (ps:List Str) (sp:Sp):Prop where
 ex:∃(f:Addr) (fd:FuncData),iW P w K mg base CX0 k f fd ps sp/\gF K fd ps []/\PySem.W.keepIn K (.ref f)=true/\mg x=some (.ref f)/\∃oc od osl,K.lookup f=some ⟨oc,od,.func fd,osl⟩
structure b3 (K:PySem.W.Frag) (mg:Str->Option Value) (x:Str) (st:Stmt):Prop where
 ex:∃(f:Addr) (fd:FuncData),Fun K x x st f fd/\mg x=some (.ref f)
section
variable {P:Program}{w:World}{K:PySem.W.Frag}{mg:Str->Option Value}{base:Heap}{x:Str}{st:Stmt}{N ps:List Str}{k:Nat}{sp:Sp}
theorem b3.ok(D:b3 K mg x st)(S:aI N ps (ae st))
  (hb:∀(kV doc pm:Value) (an:Option Addr) (cdv ct:Value) (us:List Value),us.length=ps.length->bindArgs (PySem.W.fnOf x x (a5 st) (aT st) (ae st) .none kV doc pm an cdv ct) ⟨us,[]⟩=pure (ps.zip us))
  (len:∀vs H Q E,sp vs H Q E->vs.length=ps.length)
  (hbody:∀(f:Addr) (cdv:Value) (A:Around) (outer:List Env) (s:Shared) (H:Hp) (vs:List V) (Q:VK) (E:XK),dU k (A.deeper (envOfC x (ae st) s.heap.objs.size f cdv))->sp vs H Q E ->
   ∃t,PSs (jB CX0 P w K mg base N x (ae st) f cdv A outer s H E).nox (aT st) t/\t { nx:=fun _ H'=>Q .non H',rt:=Q } (start N vs) H):Cal P w K mg base (k+1) x ps sp:=by
 obtain⟨f,fd,F,hm⟩:=D.ex
 have lk:∃oc od osl,K.lookup f=some ⟨oc,od,.func fd,osl⟩:=by
  obtain⟨oc,od,kV,doc,pm,an,cdv,ct,osl,rfl,lk,hcd⟩:=F.ex;exact⟨oc,od,osl,lk⟩
 exact⟨f,fd,F.ok S len fun cdv A outer s H vs Q E hr h=>hbody f cdv A outer s H vs Q E hr h,F.binds hb,F.kp,hm,lk⟩
theorem b3.mk'{K:PySem.W.Frag}{h:Heap}{mg:Str->Option Value}{x:Str}{st:Stmt}{f:Addr}{oc:Value}{od an:Option Addr}{osl:Array (Option Value)}{kV doc pm cdv ct:Value}(X:K.In h)(G:h.Ns mainGlobals mg)
  (a:PySem.W.nsIn K mainGlobals x=some (some (.ref f))) (l:K.lookup f=some ⟨oc,od,.func (PySem.W.fnOf x x (a5 st) (aT st) (ae st) .none kV doc pm an cdv ct),osl⟩)
  (c:PySem.W.codeIn K cdv x=true) (k:PySem.W.keepIn K (.ref f)=true):b3 K mg x st:=⟨f,_,dy (st:=st) l c k,PySem.W.mg_of X G a⟩
end
section
variable {X:Cx}{k:Nat}{x:Str}{ps:List Str}{sp:Sp}{p pos:Pos}{e:Expr}{es:List Expr}{t:TA}
theorem rc(C:Cal X.prog X.w X.K X.mg X.base k x ps sp)(hr:dU k X.A)(ha:PA X (e::es) t)(hg:Gl X x:=by rfl)(hdb:(x == ("__debug__":Str))=false:=by decide)(he:starEach (e::es) X.env=(false,eval e X.env)::starEach es X.env:=by rfl)
  (hpl:(backTo pos (starEach es X.env)).any (·.1)=false:=by rfl):PE X (.Call (.Name x p) (e::es) [] pos) (j6 sp [] E0 t):=by
 obtain⟨f,fd,F,hb,hk,hm,_⟩:=C.ex;exact n5 F hr hg hm hk hb .nil sN ha hdb he hpl
end
def kd(K:PySem.W.Frag):Sp:=fun vs H Q _=>∃(a:Addr) (ns:List Int),vs=[.ref a]/\SqL K H a (ns.map V.int)/\ns.length<=63/\∀H',Q (.bl true) H'
theorem rd{P:Program}{w:World}{K:PySem.W.Frag}{mg:Str->Option Value}{fa:Addr}{st:Stmt}{k:Nat}{x:Str}(hfa:mg "law"=some (.ref fa))(D:b3 K mg "law" st)
  (hbind:∀(kV doc pm:Value) (an:Option Addr) (cdv ct:Value) (s:Shared) (v:Value),BindsTo s (PySem.W.fnOf "law" "law" (a5 st) (aT st) (ae st) .none kV doc pm an cdv ct) ⟨[v],[]⟩ [(x,v)])
  (h:∀base:Heap,Cal P w K mg base k "law" [x] (kd K)) :
  ∃fd:FuncData,(∀(s:Shared) (v:Value),BindsTo s fd ⟨[v],[]⟩ [(x,v)])/\∀base:Heap,K.In base->base.Ns mainGlobals mg->iW P w K mg base CX0 k fa fd [x] (kd K):=by
 obtain⟨f,fd,F,hm⟩:=D.ex;have e:=hfa.symm.trans hm;cases e;obtain⟨oc,od,kV,doc,pm,an,cdv,ct,osl,rfl,lk,hcd⟩:=F.ex;refine⟨_,fun s v=>hbind kV doc pm an cdv ct s v,fun base kb nb=>?_⟩;obtain⟨f',fd',F',_,_,hm',oc',od',osl',lk'⟩:=(h base).ex;have e:=hfa.symm.trans hm';cases e;rw [lk] at lk';cases lk';exact F'
theorem re{l:PySem.W.OpenLaw}{q:Program}{loose:List Str}{XP:(Str->Option Value)->Heap->Prop}{YP:World->Heap->Prop}{d:DefRec}{K:Params->PySem.W.Frag}{k:Nat}{x:Str}(hn:l.most=some 63)(hdf:d.params.defaults=[])(hr:dU k callerA)
  (hY:∀(w:World) (h:Heap),YP w h->(K w.params).In h)
  (F:∀(w:World) (mg:Str->Option Value) (fa:Addr) (h:Heap),(K w.params).In h->h.Ns mainGlobals mg->mg d.name=some (.ref fa) ->
   ∃fd:FuncData,(∀(s:Shared) (u:Value),BindsTo s fd ⟨[u],[]⟩ [(x,u)])/\∀base:Heap,(K w.params).In base->base.Ns mainGlobals mg->iW l.prog w (K w.params) mg base CX0 k fa fd [x] (kd (K w.params))) :
  PySem.W.WalkO q loose XP YP l.row.toRowW d [] (fun f vs=>PySem.call f vs) :=
 oq (n:=63) (k:=k) (x:=x) (CX:=fun _=>CX0) (sp:=fun w=>kd (K w.params)) hn (by decide) hdf hr hY F (fun _ _ a ns hl _ hS=>⟨a,ns,rfl,hS,hl,fun _=>rfl⟩) fun _ _ _ _ _ z=>z
theorem oA{α β:Type}{f:α->β}{xs:List α}{i:Int}{v:α}(h:atI xs i=some v):atI (xs.map f) i=some (f v):=by
 unfold atI at h ⊢;rw [length_map]
 cases e:ixN xs.length i with
 | none=>rw [e] at h;cases h
 | some j =>
  rw [e] at h;show (xs.map f)[j]?=some (f v);have h':xs[j]?=some v:=h;rw [getElem?_map,h'];rfl
theorem fw{α:Type}{xs:List α}{i:Int}{j:Nat}{v:α}(h:xs[j]?=some v)(e:i=(j:Int)):atI xs i=some v:=by subst e;exact og h
theorem sz(n:Nat)(h:n<=1000000):n<=sizeLine:=by rw [sizeLine_eq];omega
theorem mm{ns:List Int}{i:Nat}{x:V}(h:(ns.map V.int)[i]?=some x):∃z,ns[i]?=some z/\x=.int z:=by
 rw [getElem?_map] at h
 cases e:ns[i]? with
 | none=>rw [e] at h;cases h
 | some z=>rw [e] at h;exact⟨z,rfl,(Option.some.inj h).symm⟩
section
variable {X:Cx}{st:Stmt}{t:TS}
def rf(t:TS):TS:=fun D σ H=>∃J:St->Hp->Prop,t { D with nx:=J } σ H/\∀σ' H',J σ' H'->D.nx σ' H'
theorem cK(h:PS X st t):PS X st (rf t):=by
 intro pins s σ H D I q;obtain⟨J,q1,q2⟩:=q;refine thn (h pins s σ H _ I q1) fun f s' r=>?_
 cases f with
 | next=>obtain⟨σ',H',I',r'⟩:=r;exact⟨σ',H',I',q2 σ' H' r'⟩
 | brk=>exact r
 | cont=>exact r
 | ret u=>exact r
end
theorem mn{α β:Type}(f:α->β)(xs:List α)(lo hi:Option Int):dW (xs.map f) lo hi=(dW xs lo hi).map f:=by
 unfold dW;rw [length_map,map_take,map_drop]
theorem gK{α:Type}(l:List α){k:Int}(h:0<=k):dW l none (some k)=l.take k.toNat:=by
 have e:k=((k.toNat:Nat):Int):=by omega
 rw [e,gH];rfl
theorem cj{x:Str}{c:Addr}:∀(names:List (Str×NameKind)) (n:Nat) (acc:List (Str×Addr)),(cellsFrom n names acc).lookup x=some c->(n<=c/\(x,NameKind.cell)∈names)\/acc.lookup x=some c
 | [],n,acc,h=>.inr h
 | (y,k)::r,n,acc,h=>by
  unfold cellsFrom at h
  split at h
  .rename_i hk;have hk':k=.cell:=by simpa using hk
   subst hk'
   rcases cj r (n+1) ((y,n)::acc) h with ⟨h1,h2⟩|h1
   .exact .inl ⟨by omega,mem_cons_of_mem _ h2⟩
   .rw [lookup_cons] at h1
    cases e:x == y with
    | true =>
     rw [e] at h1;have:n=c:=Option.some.inj h1;have ex:x=y:=by simpa using e
     subst ex;exact .inl ⟨by omega,mem_cons_self⟩
    | false=>rw [e] at h1;exact .inr h1
  .rcases cj r n acc h with ⟨h1,h2⟩|h1
   .exact .inl ⟨h1,mem_cons_of_mem _ h2⟩
   .exact .inr h1
theorem cL{x:Str}:∀(names:List (Str×NameKind)) (n:Nat) (acc:List (Str×Addr)),(x,NameKind.cell)∉names->(cellsFrom n names acc).lookup x=acc.lookup x
 | [],_,_,_=>rfl
 | (y,k)::r,n,acc,h=>by
  unfold cellsFrom
  split
  .rename_i hk;have hk':k=.cell:=by simpa using hk
   subst hk';rw [cL r (n+1) _ (fun z=>h (mem_cons_of_mem _ z)),lookup_cons]
   have:(x == y)=false:=by
    rw [beq_eq_false_iff_ne];intro e;subst e;exact h mem_cons_self
   rw [this]
  .exact cL r n acc (fun z=>h (mem_cons_of_mem _ z))
theorem cM{x y:Str}{c:Addr}:∀(names:List (Str×NameKind)) (n:Nat) (acc:List (Str×Addr)),(∀z d,acc.lookup z=some d->d<n) ->
  (cellsFrom n names acc).lookup x=some c->(cellsFrom n names acc).lookup y=some c->n<=c->x=y
 | [],n,acc,ha,h1,h2,hc=>absurd (ha x c h1) (not_lt.mpr hc)
 | (z,k)::r,n,acc,ha,h1,h2,hc=>by
  unfold cellsFrom at h1 h2
  split at h1
  .rename_i hk;rw [if_pos hk] at h2
   have ha':∀w d,((z,n)::acc).lookup w=some d->d<n+1:=fun w d e=>by
    rw [lookup_cons] at e
    cases q:w == z with
    | true=>rw [q] at e;cases e;exact lt_succ_self _
    | false=>rw [q] at e;exact lt_succ_of_lt (ha w d e)
   by_cases hcn:n+1<=c
   .exact cM r (n+1) _ ha' h1 h2 hcn
   .have e:c=n:=le_antisymm (not_lt.mp hcn) hc;subst e
    have key:∀w:Str,(cellsFrom (c+1) r ((z,c)::acc)).lookup w=some c->w=z:=fun w hw=>by
     rcases cj r (c+1) _ hw with ⟨q,_⟩|q
     .exact absurd q (not_succ_le_self _)
     .rw [lookup_cons] at q
      cases q2:w == z with
      | true=>simpa using q2
      | false=>rw [q2] at q;exact absurd (ha w c q) (lt_irrefl _)
    rw [key x h1,key y h2]
  .rename_i hk;rw [if_neg hk] at h2;exact cM r n acc ha h1 h2 hc
def dZ(env:Env):List (Str×NameKind)->List (Str×Addr)->List (Str×Addr)
 | [],acc=>acc
 | (n,k)::r,acc=>if (k == .free)=true then dZ env r ((n,(env.cells.lookup n).getD 0)::acc) else dZ env r acc
theorem cN{env:Env}{x:Str}{c:Addr}:∀(names:List (Str×NameKind)) (acc:List (Str×Addr)),(dZ env names acc).lookup x=some c->((x,NameKind.free)∈names/\c=(env.cells.lookup x).getD 0)\/acc.lookup x=some c
 | [],acc,h=>.inr h
 | (y,k)::r,acc,h=>by
  unfold dZ at h
  split at h
  .rename_i hk;have hk':k=.free:=by simpa using hk
   subst hk'
   rcases cN r _ h with ⟨h1,h2⟩|h1
   .exact .inl ⟨mem_cons_of_mem _ h1,h2⟩
   .rw [lookup_cons] at h1
    cases e:x == y with
    | true =>
     rw [e] at h1;have ex:x=y:=by simpa using e
     subst ex;exact .inl ⟨mem_cons_self,(Option.some.inj h1).symm⟩
    | false=>rw [e] at h1;exact .inr h1
  .rcases cN r acc h with ⟨h1,h2⟩|h1
   .exact .inl ⟨mem_cons_of_mem _ h1,h2⟩
   .exact .inr h1
theorem ef{env:Env}{x:Str}:∀(names:List (Str×NameKind)) (acc:List (Str×Addr)),((x,NameKind.free)∈names\/(acc.lookup x).isSome=true)->((dZ env names acc).lookup x).isSome=true
 | [],acc,h=>h.elim (fun z=>nomatch z) id
 | (y,k)::r,acc,h=>by
  unfold dZ
  split
  .rename_i hk;refine ef r _ ?_
   by_cases e:(x == y)=true
   .exact .inr (by rw [lookup_cons,e];rfl)
   .rcases h with h|h
    .rcases mem_cons.mp h with z|z
     .cases z;exact absurd (by simp) e
     .exact .inl z
    .exact .inr (by rw [lookup_cons];rw [not_eq_true] at e;rw [e];exact h)
  .rename_i hk;refine ef r acc ?_
   rcases h with h|h
   .rcases mem_cons.mp h with z|z
    .cases z;exact absurd rfl hk
    .exact .inl z
   .exact .inr h
theorem eX{scope:Scope}{env:Env}(h:∀x∈scope.names,x.2=.free->∃c,env.cells.lookup x.1=some c):closureFor scope env=pure (dZ env scope.names []):=by
 unfold closureFor
 have key:∀(names:List (Str×NameKind)) (acc:List (Str×Addr)),(∀x∈names,x.2=.free->∃c,env.cells.lookup x.1=some c) ->
   (forIn names acc fun (x:Str×NameKind) (r:List (Str×Addr))=>(if (x.2 == NameKind.free)=true then do let y <- cellOf env x.1;pure (ForInStep.yield ((x.1,y)::r)) else pure (ForInStep.yield r):Sem _))=pure (dZ env names acc):=by
  intro names
  induction names with
  | nil=>intro acc _;rfl
  | cons p r ih =>
   intro acc hp;obtain⟨n,k⟩:=p;rw [forIn_cons];have hr:∀x∈r,x.2=.free->∃c,env.cells.lookup x.1=some c:=fun x hx=>hp x (mem_cons_of_mem _ hx);unfold dZ
   by_cases hk:(k == NameKind.free)=true
   .obtain⟨c,hc⟩:=hp (n,k) mem_cons_self (by simpa using hk);have hc':env.cells.lookup n=some c:=hc;have e1:cellOf env n=pure c:=by unfold cellOf;rw [hc']
    simp only [hk,if_true];rw [e1,hc'];simp only [pure_bind];exact ih _ hr
   .rw [if_neg hk,if_neg hk];simp only [pure_bind];exact ih _ hr
 have e:=key scope.names [] h;have e2:∀(m:Sem (List (Str×Addr))),(m >>= fun r=>pure r)=m:=fun m=>bind_pure m;rw [<- e]
 first
  | rfl
  | exact (e2 _)
def kW(scope:Scope)(C:Addr)(env:Env):Env :=
 { scope:=relabel scope env,locals:=C,globals:=env.globals,cells:=cellsFrom (C+1) scope.names (dZ env scope.names []),qual:=env.qual,func:=none,code:=env.code,frame:=env.frame,builtins:=env.builtins }
def bP(X:Cx)(N':List Str)(scope:Scope)(s:Shared)(H:Hp)(fp:List Addr)(pins:List (Addr×Obj)):Cx :=
 { X with N:=N',s₀:=s,H₀:=H,env:=kW scope s.heap.objs.size X.env,outer:=X.stack,stack:=X.stack,ex:=fp,fn:=fun x=>decide ((x,NameKind.cell)∈scope.names),pn:=X.pn++pins,xe:=fun _ _=>False }
def i3(sc0:Scope)(N:List Str)(scope:Scope)(N':List Str)(ix:List (Option Nat)):Bool :=
 decide (scope.kind=.function) && scope.names.all (fun y=>(!decide (y.2=.local) || decide (scope.names.lookup y.1=some .local)) &&
  (!decide (y.2=.free) || ((decide (sc0.names.lookup y.1=some .cell) || decide (sc0.names.lookup y.1=some .free)) && !decide ((y.1,NameKind.cell)∈scope.names)))) &&
 decide (N'.length=ix.length) && (N'.zip ix).all (fun p=>match p.2 with|none=>true|some j=>decide (N[j]?=some p.1) && decide (scope.names.lookup p.1=some .free))
structure kX (env:Env) (N:List Str) (scope:Scope) (N':List Str) (ix:List (Option Nat)):Prop where
 kind:scope.kind=.function
 loc:∀y∈scope.names,y.2=.local->scope.names.lookup y.1=some .local
 free:∀y∈scope.names,y.2=.free->(env.kindOf y.1=some .cell\/env.kindOf y.1=some .free)/\(y.1,NameKind.cell)∉scope.names
 len:N'.length=ix.length
 slot:∀(i:Nat) (x:Str) (j:Nat),N'[i]?=some x->ix[i]?=some (some j)->N[j]?=some x/\scope.names.lookup x=some .free
theorem kY{env:Env}{N:List Str}{scope:Scope}{N':List Str}{ix:List (Option Nat)}(h:i3 env.scope N scope N' ix=true):kX env N scope N' ix:=by
 unfold i3 at h;simp only [and_eq_true,decide_eq_true_eq,all_eq_true] at h;obtain⟨⟨⟨h1,h2⟩,h3⟩,h4⟩:=h
 refine⟨h1,fun y hy e=>?_,fun y hy e=>?_,h3,fun i x j e1 e2=>?_⟩
 .have:=(h2 y hy).1;rw [e] at this;simpa using this
 .have:=(h2 y hy).2;rw [e] at this;simpa [Env.kindOf] using this
 .have hm:(x,some j)∈N'.zip ix:=by
   refine mem_of_getElem? (i:=i) ?_;rw [getElem?_zip_eq_some];exact⟨e1,e2⟩
  have:=h4 _ hm;simpa using this
def rlf(env:Env)(p:Str×NameKind):Str×NameKind:=match p with|(n,k)=>if (k == NameKind.free && env.scope.kind == .function && env.kindOf n == some .cell) then (n,.cell) else (n,k)
theorem kZ(env:Env)(n:Str)(k:NameKind):∃k',rlf env (n,k)=(n,k')/\(k'=k\/(k=.free/\k'=.cell)):=by
 unfold rlf
 by_cases c:(k == NameKind.free && env.scope.kind == .function && env.kindOf n == some .cell)=true
 .refine⟨.cell,if_pos c,.inr ⟨?_,rfl⟩⟩;simp only [and_eq_true,beq_iff_eq] at c;exact c.1.1
 .exact⟨k,if_neg c,.inl rfl⟩
theorem jD{env:Env}:∀{names:List (Str×NameKind)}{x:Str},names.lookup x=some .free->(names.map (rlf env)).lookup x=some .cell\/(names.map (rlf env)).lookup x=some .free
 | [],_,h=>by simp at h
 | (n,k)::r,x,h=>by
  have ih:=@jD env r x;obtain⟨k',e,hk'⟩:=kZ env n k;rw [map_cons,e]
  cases hx:x == n with
  | true =>
   simp only [lookup_cons,hx] at h ⊢;have hk:k=.free:=Option.some.inj h
   rcases hk' with z|z
   .right;rw [z,hk]
   .left;rw [z.2]
  | false =>
   simp only [lookup_cons,hx] at h ⊢;exact ih h
theorem gL{env:Env}:∀{names:List (Str×NameKind)}{x:Str}{k':NameKind},(names.map (rlf env)).lookup x=some k'->k'=.cell\/k'=.free->names.lookup x=some .cell\/names.lookup x=some .free
 | [],_,_,h,_=>by simp at h
 | (n,k)::r,x,k',h,hk'=>by
  have ih:=@gL env r x k';obtain⟨k2,e,hk2⟩:=kZ env n k;rw [map_cons,e] at h
  cases hx:x == n with
  | true =>
   simp only [lookup_cons,hx] at h ⊢;have:k2=k':=Option.some.inj h;subst this
   rcases hk2 with z|z
   .rw [<- z]
    rcases hk' with q|q
    .left;rw [q]
    .right;rw [q]
   .right;rw [z.1]
  | false =>
   simp only [lookup_cons,hx] at h ⊢;exact ih h hk'
theorem io{x:Str}{c:Addr}:∀(names:List (Str×NameKind)) (n:Nat) (acc:List (Str×Addr)),(cellsFrom n names acc).lookup x=some c->(x,c)∈cellsFrom n names []\/acc.lookup x=some c:=by
 have app:∀(names:List (Str×NameKind)) (n:Nat) (acc:List (Str×Addr)),cellsFrom n names acc=cellsFrom n names []++acc:=by
  intro names
  induction names with
  | nil=>intro n acc;rfl
  | cons p r ih =>
   intro n acc;obtain⟨y,k⟩:=p;unfold cellsFrom
   split
   .rw [ih (n+1) ((y,n)::acc),ih (n+1) [(y,n)],append_assoc];rfl
   .exact ih n acc
 intro names n acc h;rw [app] at h;rw [lookup_append] at h
 cases e:(cellsFrom n names []).lookup x with
 | some d =>
  rw [e] at h;have:d=c:=by simpa using h
  subst this;exact .inl (mem_of_lookup e)
 | none=>rw [e] at h;exact .inr (by simpa using h)
def k6(ix:List (Option Nat))(σ:St):St:=ix.map fun o=>match o with
 | none=>none
 | some j=>match σ[j]? with
  | some v=>v
  | none=>none
section
variable {X:Cx}{pins:List (Addr×Obj)}{σ:St}{H:Hp}{s:Shared}
theorem mq{N':List Str}{ix:List (Option Nat)}{scope:Scope}{fp:List Addr}(ok:kX X.env X.N scope N' ix)(I:Inv X pins σ H s)(hf:∀b∈fp,lV X pins H b)(hfl:∀b∈fp,b<s.heap.objs.size) :
  Inv (bP X N' scope s H fp pins) [] (k6 ix σ) H { s with heap:=pushCells (s.heap.push { cls:=.type "dict",data:=.dict #[] }) scope.names }:=by
 have hk4:∀b o,s.heap.get? b=some o->(pushCells (s.heap.push { cls:=.type "dict",data:=.dict #[] }) scope.names).get? b=some o:=fun b o e=>pushCells_keeps _ _ b o (Heap.get?_push_of_some _ e)
 have hclo:∀x c,(dZ X.env scope.names []).lookup x=some c->X.env.cells.lookup x=some c:=fun x c e=>by
  rcases cN scope.names [] e with ⟨h1,h2⟩|h1
  .obtain⟨d,hd⟩:=I.ok.has x (ok.free _ h1 rfl).1;rw [hd] at h2 ⊢;rw [h2];rfl
  .cases h1
 have hcl:∀x c,X.env.cells.lookup x=some c->c<s.heap.objs.size:=fun x c e=>by
  obtain⟨v,q⟩:=I.cell x c e;exact q.lt
 have own:=cellsFrom_ok scope.names (s.heap.push { cls:=.type "dict",data:=.dict #[] }) (s.heap.objs.size+1) [] ⟨fun _ _ hm=>(nomatch hm),List.Pairwise.nil⟩ (by rw [Heap.size_push];exact le_refl _);rw [Heap.size_push] at own
 have cases:∀x c,(cellsFrom (s.heap.objs.size+1) scope.names (dZ X.env scope.names [])).lookup x=some c ->
   ((pushCells (s.heap.push { cls:=.type "dict",data:=.dict #[] }) scope.names).IsCell c none/\s.heap.objs.size+1<=c)\/X.env.cells.lookup x=some c:=fun x c e=>by
  rcases io _ _ _ e with h|h
  .exact .inl (own.empty x c h)
  .exact .inr (hclo x c h)
 have fs':∀b,b∈frs X.stack->b<s.heap.objs.size:=fun b hb=>by
  rcases mem_cons.mp (I.stkSub b hb) with z|z
  .rw [z];exact I.lt
  .by_cases q:b<s.heap.objs.size
   .exact q
   .exact absurd z (I.nofs (not_lt.mp q))
 have cix:(bP X N' scope s H fp pins).Ok:=by
  refine⟨I.ok.mod,ok.kind,I.ok.glob,I.ok.blt,le_refl _,fun x y c h1 h2=>?_,fun x hx=>?_,fun x c hx e=>?_,I.ok.hd,I.ok.frames,.inl rfl,fun b hb=>⟨ne_of_lt (hfl b hb),fun x c e=>?_⟩,fun b o e=>I.bs b o e,le_trans I.ok.bsz I.sz,fun b o e hb=>?_,fun b hb=>?_,I.stack,I.stkFree⟩
  .rcases cases x c h1 with ⟨_,z⟩|z
   .exact cM scope.names _ _ (fun w d e=>lt_succ_of_lt (hcl w d (hclo w d e))) h1 h2 z
   .rcases cases y c h2 with ⟨_,z2⟩|z2
    .exact absurd (hcl x c z) (not_lt.mpr (le_of_succ_le z2))
    .exact I.ok.inj x y c z z2
  .have hx':scope.names.lookup x=some .cell\/scope.names.lookup x=some .free:=by
    rcases hx with z|z
    .exact gL (env:=X.env) z (.inl rfl)
    .exact gL (env:=X.env) z (.inr rfl)
   rcases hx' with z|z
   .exact Option.isSome_iff_exists.mp (PySem.W.cellsFrom_some scope.names _ _ (.inl z))
   .exact Option.isSome_iff_exists.mp (PySem.W.cellsFrom_some scope.names _ _ (.inr (ef _ _ (.inl (mem_of_lookup z)))))
  .have hx':(x,NameKind.cell)∈scope.names:=of_decide_eq_true hx
   rcases cases x c e with ⟨_,z⟩|z
   .exact le_of_succ_le z
   .rcases io _ _ _ e with h|h
    .exact le_of_succ_le (own.empty x c h).2
    .rcases cN scope.names [] h with ⟨h1,_⟩|h1
     .exact absurd hx' (ok.free _ h1 rfl).2
     .cases h1
  .intro z
   rcases cases x c e with ⟨_,z2⟩|z2
   .rw [z] at z2;exact absurd (hfl b hb) (not_lt.mpr (le_of_succ_le z2))
   .exact (hf b hb).2.2.2.2.1 x c z2 z
  .rcases (hf b hb).2.2.2.1 with z|z
   .exact I.ok.noex b o e z
   .exact absurd (Heap.lt_size (I.ok.bs b o e).1) (not_lt.mpr z)
  .intro z
   rcases mem_cons.mp (I.stkSub b z) with q|q
   .exact (hf b hb).2.1 q
   .exact (hf b hb).2.2.1 q
 refine⟨cix,rfl,I.bare,Un.kept hk4,⟨fun _=>none,?_,fun i x v e1 e2 e3=>?_⟩,fun x c e=>?_,I.hok.fresh (le_refl _),fun x c e=>?_,fun p hp=>?_,I.hok.kept hk4,?_⟩
 .exact (Heap.Ns.new s.heap (.type "dict")).keeps (pushCells_keeps _ _)
 .have e2':∃j,ix[i]?=some (some j)/\σ[j]?=some (some v):=by
   unfold k6 at e2;rw [getElem?_map] at e2
   cases q:ix[i]? with
   | none=>rw [q] at e2;cases e2
   | some o =>
    rw [q] at e2
    cases o with
    | none=>cases (Option.some.inj e2)
    | some j =>
     refine⟨j,rfl,?_⟩;have e2'':(match σ[j]? with|some v=>v|none=>none)=some v:=Option.some.inj e2
     cases r:σ[j]? with
     | none=>rw [r] at e2'';cases e2''
     | some w=>rw [r] at e2'';exact congrArg some e2''
  obtain⟨j,hj,hv⟩:=e2';obtain⟨hN,hfr⟩:=ok.slot i x j e1 hj;have hk:=(ok.free _ (mem_of_lookup hfr) rfl).1
  have hvis:Vis X.env.scope x:=by
   rcases hk with z|z
   .exact .inr (.inl z)
   .exact .inr (.inr z)
  obtain⟨m,hn,hl⟩:=I.loc;obtain⟨u,ru,lk⟩:=hl j x v hN hv hvis
  refine⟨u,ru,.inr ⟨?_,?_⟩⟩
  .exact jD (env:=X.env) hfr
  .rcases lk with ⟨z,_⟩|⟨_,c,hc,hcell⟩
   .rcases hk with q|q
    .rw [z] at q;cases q
    .rw [z] at q;cases q
   .refine⟨c,?_,hcell.keeps hk4⟩;show (cellsFrom (s.heap.objs.size+1) scope.names (dZ X.env scope.names [])).lookup x=some c;rw [cL scope.names _ _ (ok.free _ (mem_of_lookup hfr) rfl).2];obtain⟨d,hd⟩:=Option.isSome_iff_exists.mp (ef (env:=X.env) scope.names [] (.inl (mem_of_lookup hfr)));rw [hd,<- hclo x d hd,hc]
 .rcases cases x c e with ⟨z,_⟩|z
  .exact⟨none,z⟩
  .obtain⟨v,q⟩:=I.cell x c z;exact⟨v,q.keeps hk4⟩
 .rcases cases x c e with ⟨_,z⟩|z
  .exact I.hok.fresh (le_of_succ_le z)
  .exact I.freeC x c z
 .have hp':p∈X.pn++pins:=by simpa [bP] using hp
  obtain⟨q1,q2,q3,q4,q5⟩:=I.pin p hp';refine⟨hk4 _ _ q1,q2,ne_of_lt (Heap.lt_size q1),fun z=>?_,q5⟩
  rcases mem_cons.mp (I.stkSub p.1 z) with q|q
  .exact q3 q
  .exact q4 q
 .unfold k6;rw [length_map];exact ok.len.symm
end
section
variable {M:Model}{A:Around}{E:Value->Shared->Prop}{s:Shared}
theorem dM{scope:Scope}{globals:Addr}{cl:List (Str×Addr)}{qual:Str}{func:Option Addr}{code:Value}{env:Env}{Q:Env->Shared->Prop}
  (hQ:Q { scope:=scope,locals:=s.heap.objs.size,globals:=globals,cells:=cellsFrom (s.heap.objs.size+1) scope.names cl,qual:=qual,func:=func,code:=env.code,frame:=env.frame,builtins:=env.builtins }
   { s with heap:=pushCells (s.heap.push { cls:=.type "dict",data:=.dict #[] }) scope.names }) :
  wpAny M A (newFunctionEnv scope globals cl [] qual func code (some env)) Q E s:=by
 simp only [newFunctionEnv,Option.isSome_some,if_true];refine wpAny_bind (wpAny_alloc ?_);refine wpAny_bind (wpAny_layCells _ (fun name kind cells=>by cases hkc:kind == NameKind.cell <;> simp [hkc]) _ _ _ _ ?_);rw [show ({ s with heap:=s.heap.push { cls:=.type "dict",data:=.dict #[] } }:Shared).heap.objs.size=s.heap.objs.size+1 from Heap.size_push ..];simp only [forIn_nil];exact wpAny_bind (wpAny_pure (wpAny_pure hQ))
end
section
variable {prog:Program}{w:World}{A:Around}{R:Result->Shared->Prop}{s:Shared}
theorem ip{elt target iter:Expr}{ifs:List Expr}{scope:Scope}{pos:Pos}{it acc:Value}{env:Env}(I:Nat->Shared->Prop)
  (turn:∀n s,I n s->wpAny (model prog w) A (pyNext it) (fun r s₁=>match r with
   | none=>R (.ok .next) s₁
   | some v=>wpAny (model prog w) A (letOwnedTupleGo target it v) (fun _ s₂=>wpAny (model prog w) A (assign target env v) (fun _ s₃ =>
     wpAny (model prog w) A (forIn ifs true fun c r=>if r=true then do let ok <- isTrue c env (eval c env);pure (ForInStep.yield ok) else pure (ForInStep.yield r)) (fun ok s₄ =>
      if ok=true then wpAny (model prog w) A (eval elt env) (fun x s₅ =>
       wpAny (model prog w) A (call (.builtin "list.append") [acc,x]) (fun _ s₆=>∃m,m<n/\I m s₆) (fun _ _=>False) s₅) (fun _ _=>False) s₄
      else ∃m,m<n/\I m s₄) (fun _ _=>False) s₃) (fun _ _=>False) s₂) (fun _ _=>False) s₁) (fun _ _=>False) s)
  (n:Nat) (h:I n s) :
  codeAny (model prog w) A (.compLoop (.ListComp elt [⟨target,iter,ifs,0⟩] scope pos) 0 it acc env) R s:=by
 refine codeAny_loop rfl I (fun n s hI=>?_) n h;show wpAny _ A ((compTurn (.ListComp elt [⟨target,iter,ifs,0⟩] scope pos) 0 it acc env).onRaise (fun x=>do noteFrame x env;theTreesLotGoes x)) _ _ s;refine wpAny_noted ?_;rw [compTurn_list];refine wpAny_bind (wpAny_standAt (wpAny_bind (wpAny_mono (turn n s hI) (fun r s₁ h₁=>?_) fun _ _ h'=>h'.elim)))
 cases r with
 | none=>exact wpAny_pure h₁
 | some v =>
  refine wpAny_bind (wpAny_mono h₁ (fun _ s₂ h₂=>?_) fun _ _ h'=>h'.elim);refine wpAny_bind (wpAny_mono h₂ (fun _ s₃ h₃=>wpAny_bind (wpAny_mono h₃ (fun ok s₄ h₄=>?_) fun _ _ h'=>h'.elim)) fun _ _ h'=>h'.elim)
  cases ok with
  | false=>exact wpAny_pure ⟨rfl,h₄⟩
  | true =>
   exact wpAny_bind (wpAny_bind (wpAny_mono h₄ (fun x s₅ h₅=>wpAny_bind (wpAny_mono h₅ (fun _ s₆ h₆=>wpAny_pure (wpAny_pure ⟨rfl,h₆⟩)) fun _ _ h'=>h'.elim)) fun _ _ h'=>h'.elim))
end
def PIf(X:Cx)(ifs:List Expr)(t:TT):Prop :=
 ∀(pins:List (Addr×Obj)) (s:Shared) (σ:St) (H:Hp) (Q:Bool->Hp->Prop),Inv X pins σ H s->t σ H Q ->
  wpAny (model X.prog X.w) X.A (forIn ifs true fun c r=>if r=true then do let ok <- isTrue c X.env (eval c X.env);pure (ForInStep.yield ok) else pure (ForInStep.yield r)) (TP X pins σ Q) X.xe s
def sS:TT:=fun _ H Q=>Q true H
section
variable {X:Cx}
theorem oB:PIf X [] sS:=fun _ _ _ H _ I h=>wpAny_tests_nil ⟨H,I,h⟩
end
def oC(ix:List (Option Nat))(wi:TI)(g:TG)(tts:TT)(te:TE):TE:=fun σ H Q=>wi σ H fun J H1=>∀D,H1 D=none->∃W:Nat->Nat->St->Hp->Prop,(∃m,W 0 m (k6 ix σ) (upd H1 D (.lst [])))/\∀i m τ H2,W i m τ H2 ->
 (J.stop i H2/\Q (.ref D) H2)\/(J.go i H2/\∀x H3,J.yld i H2 x H3->g x τ H3 fun τ2 H4=>tts τ2 H4 fun ok H5=>if ok=true then te τ2 H5 fun v H6=>∃ys,H6 D=some (.lst ys)/\ys.length<sizeLine/\∃m',m'<m/\W (i+1) m' τ2 (upd H6 D (.lst (ys++[v])))
  else ∃m',m'<m/\W (i+1) m' τ2 H5)
section
variable {X:Cx}{tg iter elt:Expr}{ifs:List Expr}{scope:Scope}{N':List Str}{ix:List (Option Nat)}{wi:TI}{g:TG}{tts:TT}{te:TE}
theorem k7{use:Option (Value->Sem Unit)}{Qf:Value->Shared->Prop}{pos p':Pos}{pins:List (Addr×Obj)}{σ:St}{H:Hp}{s:Shared}{Q:VK}(hc:X.calm=true)(ok:kX X.env X.N scope N' ix)(hi:PI X tg iter wi)
  (blk:∀s H fp pn,PG (bP X N' scope s H fp pn) tg g/\PIf (bP X N' scope s H fp pn) ifs tts/\PE (bP X N' scope s H fp pn) elt te)
  (hs:∀x,foldedSetIterable iter X.env x=pure x) (I:Inv X pins σ H s) (hw:oC ix wi g tts te σ H Q)
  (fin:∀D C H' s',Inv X pins σ H' s'->Q (.ref D) H'->(∃m,s'.heap.Ns C m)->H' C=none->X.s₀.heap.objs.size<=C->C≠X.env.locals->(∀x c,X.env.cells.lookup x=some c->c≠C)->C∉X.fs->(∀p∈X.pn++pins,p.1≠C) ->
   compPost (model X.prog X.w) X.A X.xe use Qf (.ref D) C (.ok .next) s') :
  wpAny (model X.prog X.w) X.A (comprehension (.ListComp elt [⟨tg,iter,ifs,0⟩] scope pos) scope X.env p' (newList []) false (eval iter X.env) use) Qf X.xe s:=by
 have hclos:closureFor scope X.env=pure (dZ X.env scope.names []):=eX fun y hy e=>I.ok.has y.1 (ok.free y hy e).1;refine wpAny_comprehension_free (use:=use) rfl hs hclos ok.kind ok.loc (thn (hi pins s σ H _ I hw) fun v s1 h1=>thn h1 fun itv s2 h2=>?_);obtain⟨it,fp,tn,J,H2,e,I2,T,st2,f2,hW⟩:=h2;subst e;obtain⟨W,⟨m0,w0⟩,turn⟩:=hW s2.heap.objs.size (I2.hok.fresh (le_refl _))
 have hfl:∀b∈fp,b<s2.heap.objs.size:=fun b hb=>by
  obtain⟨o,e,_⟩:=T.obj 0 _ st2 b hb;exact Heap.lt_size e
 refine wpAny_newObj_type ?_
 have I3:Inv X pins σ (upd H2 s2.heap.objs.size (.lst [])) { s2 with heap:=s2.heap.push { cls:=.type "list",dict:=none,data:=.seq ([]:List Value).toArray } } :=
  I2.laid (t':=s2.toks) (fun b o e=>Heap.get?_push_of_some _ e) (le_refl _) (show bc X.prog X.w _ _ _ (.lst []) from ⟨zero_le _,[],0,.nil,Heap.get?_push_size _ rfl⟩)
 have st3:tn 0 (s2.heap.push { cls:=.type "list",dict:=none,data:=.seq ([]:List Value).toArray }):=T.keep 0 _ _ st2 fun b _ o e=>Heap.get?_push_of_some _ e;have f3:∀b∈fp,lV X pins (upd H2 s2.heap.objs.size (.lst [])) b:=fun b hb=>⟨by rw [ao (ne_of_lt (hfl b hb))];exact (f2 b hb).1,(f2 b hb).2⟩
 have hfl3:∀b∈fp,b<(s2.heap.push { cls:=.type "list",dict:=none,data:=.seq ([]:List Value).toArray }).objs.size:=fun b hb=>by rw [Heap.size_push];exact lt_succ_of_lt (hfl b hb)
 generalize hs3:({ s2 with heap:=s2.heap.push { cls:=.type "list",dict:=none,data:=.seq ([]:List Value).toArray } }:Shared)=s3 at I3 ⊢;have eh3:s3.heap=s2.heap.push { cls:=.type "list",dict:=none,data:=.seq ([]:List Value).toArray }:=by rw [<- hs3]
 rw [<- eh3] at st3 hfl3;generalize hH3:upd H2 s2.heap.objs.size (.lst [])=H3 at I3 f3 w0;generalize hD:s2.heap.objs.size=D at *;refine dM ?_;have I4:=mq ok I3 f3 hfl3;obtain⟨hg,ht,he⟩:=blk s3 H3 fp pins;have st4:tn 0 (pushCells (s3.heap.push { cls:=.type "dict",data:=.dict #[] }) scope.names):=T.keep 0 _ _ st3 fun b _ o e=>pushCells_keeps _ _ b o (Heap.get?_push_of_some _ e)
 have stat:∀{H':Hp},(∀b∈fp,H' b=none)->∀b∈fp,lV (bP X N' scope s3 H3 fp pins) [] H' b:=fun hn b hb=>by
  refine⟨hn b hb,ne_of_lt (hfl3 b hb),I4.ok.exfs b hb,.inl hb,(I4.ok.exf b hb).2,fun p hp=>?_⟩;have hp':p∈X.pn++pins:=by simpa [bP] using hp
  exact (f2 b hb).2.2.2.2.2 p hp'
 have loop:∀(s4:Shared),Inv (bP X N' scope s3 H3 fp pins) [] (k6 ix σ) H3 s4->tn 0 s4.heap ->
   codeAny (model X.prog X.w) X.A (.compLoop (.ListComp elt [⟨tg,iter,ifs,0⟩] scope pos) 0 (.ref it) (.ref D) (kW scope s3.heap.objs.size X.env)) (compPost (model X.prog X.w) X.A X.xe use Qf (.ref D) s3.heap.objs.size) s4:=by
  intro s4 I4 st4;refine ip (fun n s'=>∃i τ H',Inv (bP X N' scope s3 H3 fp pins) [] τ H' s'/\tn i s'.heap/\(∀b∈fp,H' b=none)/\W i n τ H') ?_ m0 ⟨0,_,H3,I4,st4,fun b hb=>(f3 b hb).1,w0⟩;rintro n s5 ⟨i,τ,H5,I5,st5,fr5,w5⟩
  rcases turn i n τ H5 w5 with ⟨stop,qn⟩|⟨go,step⟩
  .refine thn (T.done (bP X N' scope s3 H3 fp pins) rfl rfl rfl hc i [] s5 τ H5 (fun _ _=>False) I5 (stat fr5) st5 stop) fun r s6 ⟨hr,I6⟩=>?_;subst hr;have I7:Inv X pins σ H5 s6:=I3.call' (ch:=fp) I6.os I6.base I6.hok I6.bare fun b hb=>⟨(f2 b hb).2.2.2.1,(f2 b hb).2.1,(f2 b hb).2.2.2.2.1,(f2 b hb).2.2.2.2.2⟩
   obtain⟨m6,hn6,_⟩:=I6.loc
   refine fin D s3.heap.objs.size H5 s6 I7 qn ⟨m6,hn6⟩ I6.free ?_ ?_ ?_ ?_ ?_
   .exact I3.sz
   .exact ne_of_gt I3.lt
   .intro x c e z;obtain⟨v,q⟩:=I3.cell x c e;have:=q.lt;rw [z] at this;exact lt_irrefl _ this
   .exact I3.nofs (le_refl _)
   .intro p hp z;have:=Heap.lt_size (I3.pin p hp).1;rw [z] at this;exact lt_irrefl _ this
  .refine thn (T.item (bP X N' scope s3 H3 fp pins) rfl rfl rfl hc i [] s5 τ H5 (fun _ _=>False) I5 (stat fr5) st5 go) fun r s6 ⟨u,hr,h6⟩=>?_;subst hr;refine thn h6 fun _ s7 ⟨x,H7,I7,r7,y7,st7,fr7⟩=>?_;have I7':=I7.pinned (stat fr7) (T.obj _ _ st7)
   have again:∀{s8:Shared}{τ8:St}{H8:Hp},Inv (bP X N' scope s3 H3 fp pins) ([]++h7 fp s7.heap) τ8 H8 s8->(∃m',m'<n/\W (i+1) m' τ8 H8) ->
     ∃m,m<n/\∃i τ H',Inv (bP X N' scope s3 H3 fp pins) [] τ H' s8/\tn i s8.heap/\(∀b∈fp,H' b=none)/\W i m τ H':=fun {s8 τ8 H8} I8 ⟨m',hm,w8⟩=>by
    refine⟨m',hm,i+1,τ8,H8,I8.unpinned,T.keep _ _ _ st7 fun b hb o e=>(I8.pin (b,o) (mem_append_right _ (mem_append_right _ (dn hb e)))).1,fun b hb=>?_,w8⟩;obtain⟨o,e,d⟩:=T.obj _ _ st7 b hb;exact (I8.pin (b,o) (mem_append_right _ (mem_append_right _ (dn hb e)))).2.1
   refine thn (hg _ s7 τ H7 x u _ I7' r7 (step x H7 y7)) fun _ s8 ⟨τ8,H8,I8,q8⟩=>?_;refine thn (ht _ s8 τ8 H8 _ I8 q8) fun okb s9 ⟨H9,I9,q9⟩=>?_
   cases okb with
   | false =>
    rw [if_neg Bool.false_ne_true] at q9;rw [if_neg Bool.false_ne_true];exact again I9 q9
   | true =>
    rw [if_pos rfl] at q9;rw [if_pos rfl];refine thn (he _ s9 τ8 H9 _ I9 q9) fun v10 s10 ⟨x10,H10,I10,r10,q10⟩=>?_;obtain⟨ys,hD10,hz,m',hm,w10⟩:=q10;refine thn (fm (X:=bP X N' scope s3 H3 fp pins) _ s10 τ8 H10 (.ref D) [x10] (.ref D) [v10] (fun _ H'=>∃m',m'<n/\W (i+1) m' τ8 H') I10 rfl (.cons r10 .nil) ⟨D,ys,x10,rfl,rfl,hD10,hz,m',hm,w10⟩) fun _ s11 ⟨_,H11,I11,_,q11⟩=>?_;exact again I11 q11
 exact codeAny_compStart_list (loop _ I4 st4) (T.self X.A 0 _ _ _ st4 (loop _ I4 st4))
theorem oE{pos:Pos}(N':List Str)(ix:List (Option Nat))(hc:X.calm=true)(hi:PI X tg iter wi)
  (blk:∀s H fp pn,PG (bP X N' scope s H fp pn) tg g/\PIf (bP X N' scope s H fp pn) ifs tts/\PE (bP X N' scope s H fp pn) elt te)
  (chk:i3 X.env.scope X.N scope N' ix=true) (hs:∀x,foldedSetIterable iter X.env x=pure x:=by intro _;rfl) :
  PE X (.ListComp elt [⟨tg,iter,ifs,0⟩] scope pos) (oC ix wi g tts te):=by
 intro pins s σ H Q I hw;rw [eval_ListComp];refine k7 (use:=none) hc (kY chk) hi blk hs I hw fun D C H' s' I' q hm hn h1 h2 h3 h4 h5=>?_;obtain⟨m,hm⟩:=hm;refine⟨m,hm,fun h' sb=>⟨.ref D,H',?_,rfl,q⟩⟩;exact I'.turned (t':=s'.toks) (fun b o hb e=>(sb.2 b hb).trans e) hn h2 (.inr h1) h3 h5
end
def m8(p:Addr)(a b c:Int):HO:=.ext fun h=>∃t u v,IsRange h p a b c t u v
def i4(a c:Int)(n:Nat):List V:=(List.range n).map fun (k:Nat)=>V.int (a+k*c)
theorem ke{a c:Int}{n:Nat}{acc:Array Value}(h:ItemsOf (fun i v=>∃t,v=.int (a+i*c) t) acc n):bo (i4 a c n) acc.toList:=by
 obtain⟨hn,hi⟩:=h
 have key:∀(m:Nat) (us:List Value) (f:Nat->Int),us.length=m->(∀i u,us[i]?=some u->∃t,u=Value.int (f i) t)->bo ((List.range m).map fun k=>V.int (f k)) us:=by
  intro m
  induction m with
  | zero=>intro us f hl _;rw [length_eq_zero_iff] at hl;subst hl;exact .nil
  | succ m ih =>
   intro us f hl hu
   cases us with
   | nil=>simp at hl
   | cons u r =>
    rw [range_succ_eq_map,map_cons,map_map];refine .cons (hu 0 u rfl) (ih r (fun k=>f (k+1)) (by simpa using hl) fun i v e=>hu (i+1) v (by simpa using e))
 refine key n acc.toList (fun k=>a+k*c) (by simpa using hn) fun i u e=>?_;exact hi i u (by simpa using e)
theorem k8(a c:Int)(n:Nat):(i4 a c n).length=n:=by simp [i4]
section
variable {X:Cx}
theorem mr{pins:List (Addr×Obj)}{σ:St}{H:Hp}{s:Shared}{a b c:Int}{t u v:Tok}{tk:Nat}(I:Inv X pins σ H s) :
  Inv X pins σ (upd H s.heap.objs.size (m8 s.heap.objs.size a b c)) { s with heap:=s.heap.push { cls:=.type "range",data:=.fields #[.int a t,.int b u,.int c v] },toks:=tk }:=by
 refine I.laid (fun b o e=>Heap.get?_push_of_some _ e) (le_refl _) ⟨⟨t,u,v,IsRange.new ..⟩,⟨_,Heap.get?_push_size _ rfl⟩,fun h1 h2 ⟨t,u,v,z⟩ k=>⟨t,u,v,k _ z⟩⟩
theorem k9{a b:Expr}{ta:TA}{p pos:Pos}(hg:Gl X "range")(hm:X.mg "range"=none)(ha:PA X [a,b] ta)(hs:starEach [a,b] X.env=[(false,eval a X.env),(false,eval b X.env)]:=by rfl)(hs2:starEach [b] X.env=[(false,eval b X.env)]:=by rfl) :
  PE X (.Call (.Name "range" p) [a,b] [] pos) (fun σ H Q=>ta σ H fun vs H1=>∃i j:Int,vs=[.int i,.int j]/\∀p,H1 p=none->Q (.ref p) (upd H1 p (m8 p i j 1))):=by
 intro pins s σ H Q I h;refine Call_ (eM I hg hm boot_range (PyProof.Rows.callWith_type1 (thn (ha pos pins s σ H _ I h) fun us s1 ⟨vs,H1,I1,r1,q1⟩=>?_) (by rw [hs,hs2]) (by rw [hs2];rfl)));obtain⟨i,j,e,q⟩:=q1;subst e
 cases r1 with
 | cons r rr =>
  cases rr with
  | cons r' rr =>
   cases rr;obtain⟨t,rfl⟩:=r;obtain⟨t',rfl⟩:=r';exact call_range_2 ⟨.ref s1.heap.objs.size,_,mr I1,rfl,q _ (I1.hok.fresh (le_refl _))⟩
def sU(K:PySem.W.Frag)(mk:List V->HO):List V->Hp->VK->Prop:=fun xs H Q=>∃p a b c n,xs=[.ref p]/\H p=some (m8 p a b c)/\Builtin.Range.small a b c=true/\Builtin.Range.rangeSize a b c=((n:Nat):Int)/\n<=1000000/\∀l,H l=none->Q (.ref l) (upd H l (mk (i4 a c n)))
theorem kf(hc:X.calm=true):bG X (.type "list") (sU X.K .lst):=by
 intro pins s σ H xs us Q I r h;obtain⟨p,a,b,c,n,rfl,hp,hsm,hsz,hn,q⟩:=h;obtain⟨u,rfl,rx⟩:=iU r;cases rx;obtain⟨⟨t,u,v,hr⟩,_,_⟩:=(show bc X.prog X.w H s.heap p (m8 p a b c) from I.hok p _ hp)
 have hs:sizeLine=16777216:=sizeLine_eq;refine call_list_range (I.ok.hd hc) hr hsm hsz (by omega) fun h' tk acc c' hk e hacc=>?_;exact⟨.ref s.heap.objs.size,_,I.laid (t':=tk) hk (le_refl _) (show bc X.prog X.w _ h' _ (.lst (i4 a c n)) from ⟨by rw [k8];omega,acc.toList,c',ke hacc,by simpa using e⟩),rfl,q _ (I.hok.fresh (le_refl _))⟩
end
theorem la:typeLookup (.type "list_reverseiterator") "__len__"=pure none:=by rw [typeLookup_type,builtinLookup_eq_fast];kernel_rfl
theorem ms:typeLookup (.type "list_reverseiterator") "__length_hint__"=pure (some (.builtin "list_reverseiterator.__length_hint__")):=by rw [typeLookup_type,builtinLookup_eq_fast];kernel_rfl
section
variable {prog:Program}{w:World}{A:Around}{E:Value->Shared->Prop}{s:Shared}{I l:Addr}{items:Array Value}
theorem mw{Q:Bool->Shared->Prop}{i:Int}(hit:s.heap.IsRevIter I l i)(h:Q false s):wpAny (model prog w) A (Builtin.List.listLengthHint (.ref I)) Q E s:=by
 unfold Builtin.List.listLengthHint;refine wpAny_bind (wpAny_specialOf hit.typeIs la ?_);show wpAny _ A (specialOf (Value.ref I) (Str.ofString "__length_hint__") >>= _) _ _ _;refine wpAny_bind (wpAny_specialOf hit.typeIs ms ?_)
 (generalize hid:("list_reverseiterator.__length_hint__":String)=id0;(fail_if_success (clear hid id0));wp_delta;rw [show splitId id0=some ("list_reverseiterator","__length_hint__") from by subst hid;decide +kernel];subst hid)
 refine wpAny_bind (wpAny_isInstance (b:=true) hit.typeIs (by rw [isSubtype_type];kernel_rfl) ?_);exact wpAny_pure h
theorem kg{R:Result->Shared->Prop}(hh:A.handled=none)(hit:s.heap.IsRevIter I l ((items.size:Int) - 1))(hl:s.heap.IsList l items)(hlI:l≠I)(hsz:items.size<=sizeLine)(Sx:Addr)(res:Value)(c₀:Nat)
  (hS:s.heap.get? Sx=some { cls:=.type "list",data:=.seq #[] c₀ }) (hSI:Sx≠I) (hSl:Sx≠l)
  (hR:∀h' tk acc' c',(∀b o,b≠Sx->b≠I->s.heap.get? b=some o->h'.get? b=some o)->h'.get? Sx=some { cls:=.type "list",dict:=none,data:=.seq acc' c',slots:=#[] } ->
   ItemsOf (fun i v=>items[items.size - 1 - i]?=some v) acc' items.size->R (.ok (.ret res)) { s with heap:=h',toks:=tk }) :
  wpAny (model prog w) A.in1 (Builtin.List.listExtendWith (.ref Sx) (.ref I) res)
   (fun fin s'=>match fin with|.done f=>R (.ok f) s'|.again c'=>c'.quiet=true/\codeAny (model prog w) A c' R s') (fun e s'=>R (.error e) s') s:=by
 have hSf:Sx∉[I,l]:=fun hm=>by
  rcases mem_cons.mp hm with e|e
  .exact hSI e
  .exact hSl (mem_singleton.mp e)
 have W:=(Walks.listRev (prog:=prog) (w:=w) (A:=A.in1) hh I l hlI items).toS;unfold Builtin.List.listExtendWith;refine wpAny_bind (wpAny_typeOf (T:="list_reverseiterator") hit.typeIs ?_);have h1:Builtin.List.listSameRef (.ref Sx) (.ref I)=false:=by simp [Builtin.List.listSameRef,hSI]
 have h2:(Value.type "list_reverseiterator" == Value.type "list")=false:=by decide
 have h3:(Value.type "list_reverseiterator" == Value.type "tuple")=false:=by decide
 simp only [h1,h2,h3,Bool.or_false,false_eq_true,if_false];refine wpAny_bind (wpAny_pyIter_revIter hit ?_);refine wpAny_bind (wpAny_holding (mw hit ?_));refine wpAny_ite_split (fun hab=>absurd hab (by decide)) (fun _=>?_);refine wpAny_pure ⟨plainId_quiet F.plain_extend_loop _,codeAny_extend_loopS W hsz Sx hSf res items.size 0 _ #[] c₀ rfl (zero_le _) ⟨zero_le _,by simpa using hit,hl⟩ hS (ItemsOf.nil _) fun s' acc' c' hm hS' hacc=>?_⟩
 rw [Moved.eq_with hm];refine hR s'.heap s'.toks acc' c' (fun b o hb hbI e=>hm.heap b o (fun hmem=>?_) e) hS' hacc
 rcases mem_cons.mp hmem with e'|hmem
 .exact hb e'
 .exact hbI (mem_singleton.mp hmem)
theorem gM{R:Result->Shared->Prop}(hh:A.handled=none)(hit:s.heap.IsRevIter I l ((items.size:Int) - 1))(hl:s.heap.IsList l items)(hlI:l≠I)(hsz:items.size<=sizeLine)(Sx:Addr)
  (hS:s.heap.get? Sx=some { cls:=.type "list",data:=.seq #[] }) (hSI:Sx≠I) (hSl:Sx≠l)
  (hR:∀h' tk acc' c',(∀b o,b≠Sx->b≠I->s.heap.get? b=some o->h'.get? b=some o)->h'.get? Sx=some { cls:=.type "list",dict:=none,data:=.seq acc' c',slots:=#[] } ->
   ItemsOf (fun i v=>items[items.size - 1 - i]?=some v) acc' items.size->R (.ok (.ret .none)) { s with heap:=h',toks:=tk }) :
  wpAny (model prog w) A.in1 (Builtin.«list.__init__» ⟨[.ref Sx,.ref I],[]⟩)
   (fun fin s'=>match fin with|.done f=>R (.ok f) s'|.again c'=>c'.quiet=true/\codeAny (model prog w) A c' R s') (fun e s'=>R (.error e) s') s:=by
 show wpAny _ _ (do let old <- Builtin.List.listItems (.ref Sx);Builtin.List.listUpdate (.ref Sx) (fun _=>#[]);letGo old.toList.reverse;Builtin.List.listExtendWith (.ref Sx) (.ref I) .none) _ _ s;refine wpAny_bind ?_;unfold Builtin.List.listItems;refine wpAny_bind (wpAny_seqItems hS rfl (wpAny_pure ?_));show wpAny _ _ (updateSeq Sx (fun _=>#[]) >>= fun _=>letGo (#[]:Array Value).toList.reverse >>= fun _=>Builtin.List.listExtendWith (.ref Sx) (.ref I) .none) _ _ s
 refine wpAny_bind (wpAny_updateSeq hS rfl ?_);have hS₂:=Heap.get?_update_self (Obj.mapSeq (fun _=>(#[]:Array Value))) hS rfl
 have oth:∀b o,b≠Sx->s.heap.get? b=some o->(s.heap.update Sx (Obj.mapSeq (fun _=>(#[]:Array Value)))).get? b=some o :=
  fun b o hb e=>(Heap.get?_update_other _ _ (Ne.symm hb)).trans e
 refine wpAny_bind (wpAny_letGo ?_);refine kg hh (hit.at fun o e=>oth I o (Ne.symm hSI) e) (hl.at fun o e=>oth l o (Ne.symm hSl) e) hlI hsz Sx .none _ hS₂ hSI hSl fun h' tk acc' c' hk hS' hacc=>?_;exact hR h' tk acc' c' (fun b o hb hbI e=>hk b o hb hbI (oth b o hb e)) hS' hacc
theorem gN{Q:Value->Shared->Prop}(hh:A.handled=none)(hit:s.heap.IsRevIter I l ((items.size:Int) - 1))(hl:s.heap.IsList l items)(hlI:l≠I)(hsz:items.size<=sizeLine)
  (hQ:∀h' tk acc' c',(∀b o,b≠I->s.heap.get? b=some o->h'.get? b=some o) ->
   h'.get? s.heap.objs.size=some { cls:=.type "list",dict:=none,data:=.seq acc' c',slots:=#[] }->ItemsOf (fun i v=>items[items.size - 1 - i]?=some v) acc' items.size->Q (.ref s.heap.objs.size) { s with heap:=h',toks:=tk }) :
  wpAny (model prog w) A (call (.type "list") [.ref I]) Q E s:=by
 refine callType_codes (Q₁:=fun obj s₁=>obj=.ref s.heap.objs.size/\s₁={ s with heap:=s.heap.push { cls:=.type "list",data:=.seq #[] } }) F.called_list (F.typeCall_list_1 _) F.entry_list_init
  (code_list_new _ ⟨rfl,rfl⟩) fun obj s₁ h₁=>?_
 obtain⟨rfl,rfl⟩:=h₁;have hS:(s.heap.push { cls:=.type "list",data:=.seq #[] }).get? s.heap.objs.size=some { cls:=.type "list",data:=.seq #[] }:=Heap.get?_push_size _ rfl
 have hSI:s.heap.objs.size≠I:=by
  obtain⟨o,ho,_⟩:=hit;exact ne_of_gt (Heap.lt_size ho)
 have hSl:s.heap.objs.size≠l:=by
  obtain⟨o,ho,_⟩:=hl;exact ne_of_gt (Heap.lt_size ho)
 refine⟨⟨_,hS,rfl⟩,F.args_list_init_2 _ _,gM (A:=A.in1) hh (hit.at fun o e=>Heap.get?_push_of_some _ e) (hl.push _) hlI hsz _ hS hSI hSl fun h' tk acc' c' hk hS' hacc=>?_⟩;exact⟨rfl,hQ h' tk acc' c' (fun b o hb e=>hk b o (ne_of_lt (Heap.lt_size e)) hb (Heap.get?_push_of_some _ e)) hS' hacc⟩
end
theorem mx{xs:List V}{its:List Value}(r:bo xs its){acc:Array Value}(h:ItemsOf (fun i v=>its.toArray[its.toArray.size - 1 - i]?=some v) acc its.toArray.size):bo xs.reverse acc.toList:=by
 have e:acc.toList=its.reverse:=by
  obtain⟨hn,hi⟩:=h;apply ext_getElem?;intro i
  by_cases hil:i<its.length
  .have hia:i<acc.size:=by rw [hn];simpa using hil
   have:=hi i acc[i] (by simp);rw [getElem?_reverse hil];have e1:acc.toList[i]?=some acc[i]:=by simp
   rw [e1,<- this];simp
  .have hna:acc.toList.length=its.length:=by simpa using hn
   rw [getElem?_eq_none (by omega),getElem?_eq_none (by rw [length_reverse];omega)]
 rw [e];exact r.reverse
section
variable {X:Cx}{e:Expr}{te:TE}{p p1 p2 pos:Pos}
theorem kh(hc:X.calm=true)(he:PE X e te)(hg1:Gl X "list")(hm1:X.mg "list"=none)(hg2:Gl X "reversed")(hm2:X.mg "reversed"=none)
  (hs:starEach [.Call (.Name "reversed" p1) [e] [] p2] X.env=[(false,eval (.Call (.Name "reversed" p1) [e] [] p2) X.env)]:=by rfl) (hs2:starEach [e] X.env=[(false,eval e X.env)]:=by rfl) :
  PE X (.Call (.Name "list" p) [.Call (.Name "reversed" p1) [e] [] p2] [] pos) (fun σ H Q=>te σ H fun x H1=>∃a xs,x=.ref a/\SqL X.K H1 a xs/\∀l,H1 l=none->Q (.ref l) (upd H1 l (.lst xs.reverse))):=by
 intro pins s σ H Q I h;refine Call_ (eM I hg1 hm1 boot_list (PyProof.Rows.callWith_type1 ?_ hs rfl));rw [hs];show wpAny _ _ (spliced ((false,eval (.Call (.Name "reversed" p1) [e] [] p2) X.env)::backTo pos [])) _ _ s;refine Calls.spliced_cons ?_;refine Call_ (eM I hg2 hm2 boot_reversed (PyProof.Rows.callWith_type1 ?_ hs2 rfl));rw [hs2];show wpAny _ _ (spliced ((false,eval e X.env)::backTo p2 [])) _ _ s
 refine Calls.spliced_cons (thn (he pins s σ H _ I h) fun u s1 ⟨x,H1,I1,r1,q1⟩=>Calls.spliced_nil ?_);obtain⟨a,xs,rfl,hS,q⟩:=q1;cases r1;obtain⟨its,rv,pl,hz⟩:=I1.list hS;have hlen:=rv.length;refine call_reversed_list pl.isList ?_;refine Calls.spliced_nil ?_
 have hal:a<s1.heap.objs.size:=by
  obtain⟨o,ho,_⟩:=pl.isList;exact Heap.lt_size ho
 have I2:Inv X pins σ H1 { s1 with heap:=s1.heap.push (revObj a ((its.toArray.size:Int) - 1)) }:=I1.kept (t':=s1.toks) fun b o e=>Heap.get?_push_of_some _ e;refine gN (I1.ok.hd hc) (I:=s1.heap.objs.size) (l:=a) (items:=its.toArray) ⟨_,Heap.get?_push_size _ rfl,rfl,rfl⟩ (pl.isList.push _) (ne_of_lt hal) (by rw [size_toArray];omega) fun h' tk acc' c' hk eL hacc=>?_;have hfI:=I1.fpOk (H':=H1) (le_refl s1.heap.objs.size) (I1.hok.fresh (le_refl _))
 obtain⟨f0,f1,f2,f3,f4,f5⟩:=hfI;have hLn:H1 (s1.heap.push (revObj a ((its.toArray.size:Int) - 1))).objs.size=none:=I2.hok.fresh (le_refl _);have hLlt:∀b o,(s1.heap.push (revObj a ((its.toArray.size:Int) - 1))).get? b=some o->b≠(s1.heap.push (revObj a ((its.toArray.size:Int) - 1))).objs.size:=fun b o e=>ne_of_lt (Heap.lt_size e);have nit:∀b u,H1 b=some u->b≠s1.heap.objs.size:=fun b u e z=>by rw [z,f0] at e;cases e
 have neL:∀b u,H1 b=some u->b≠(s1.heap.push (revObj a ((its.toArray.size:Int) - 1))).objs.size:=fun b u e z=>by rw [z,hLn] at e;cases e
 have hokT:HOk X.prog X.w H1 h':=fun b u e=>by
  refine (I2.hok b u e).stay (fun c v hc q=>hk c v ?_ q) (fun _ q=>q) fun _ _ q=>q
  rcases hc with z|z
  .rw [z];exact nit b u e
  .exact nit c _ z
 refine⟨.ref _,upd H1 (s1.heap.push (revObj a ((its.toArray.size:Int) - 1))).objs.size (.lst xs.reverse),?_,rfl,q _ hLn⟩
 refine I2.step (g':=s1.gens) (d':=s1.drawn) (t':=tk) (ch:=[s1.heap.objs.size]) (fun b hb=>?_) (fun b o _ _ hc e _=>hk b o (fun z=>hc (by simp [z])) e) (fun b o _ _ hc e _=>⟨o.slots,hk b o (fun z=>hc (by simp [z])) e⟩)
  (fun b o _ e n=>by rw [ao (hLlt b o e)];exact n) (fun b o hc e=>⟨o,hk b o (fun z=>hc (by simp [z])) e⟩) (fun b ys e=>by rw [ao (neL b _ e)];exact e) (fun b o u e=>by rw [ao (neL b _ e)];exact e)
  (fun b ps e=>⟨#[],by rw [ao (neL b _ e),e];simp⟩) (fun m hm=>?_) ?_ I2.bare
 .have e:b=s1.heap.objs.size:=by simpa using hb
  subst e;exact⟨f3,f1,f4,f5⟩
 .obtain⟨o,es,ep,ho,r⟩:=hm;exact⟨o,es,ep,hk _ o (Ne.symm f1) ho,r⟩
 .intro b u e
  by_cases hb:b=(s1.heap.push (revObj a ((its.toArray.size:Int) - 1))).objs.size
  .subst hb;rw [aF] at e;cases e;exact⟨by rw [length_reverse];exact hz,acc'.toList,c',mx rv hacc,by simpa using eL⟩
  .rw [ao hb] at e
   refine (hokT b u e).stay (fun c v _ q=>q) (fun c q=>?_) fun c ys q=>?_
   .rw [ao (neL c _ q)];exact q
   .rw [ao (neL c _ q)];exact q
end
def Sq(k:Bool)(K:PySem.W.Frag)(H:Hp)(a:Addr)(xs:List V):Prop:=cond k (SqT K H a xs) (SqL K H a xs)
section
variable {X:Cx}{tg:Expr}
def Itk(k:Bool)(K:PySem.W.Frag)(a:Addr):It:=cond k (Itt K a) (Itl K a)
def rg(K:PySem.W.Frag):R2:=fun x y H Q=>∃l b xs zs,x=.ref l/\y=.ref b/\SqL K H l xs/\SqL K H b zs/\xs.length+zs.length<=sizeLine/\∀p,H p=none->Q (.ref p) (upd H p (.lst (xs++zs)))
theorem oF:OpR X (binaryOp .Add) (rg X.K):=by
 intro pins s σ H x y v u Q I rx ry h;obtain⟨l,b,xs,zs,rfl,rfl,hH,hB,hz,q⟩:=h;cases rx;cases ry;obtain⟨its,r,pl,hl⟩:=I.list hH;obtain⟨its2,r2,pl2,hl2⟩:=I.list hB;obtain⟨⟨cls,dd,data,sl⟩,ho,hc,n,hd⟩:=pl.isList;obtain⟨⟨cls2,dd2,data2,sl2⟩,ho2,hc2,n2,hd2⟩:=pl2.isList;simp only at hc hd hc2 hd2;subst hc hd hc2 hd2;have n1:=r.length;have n2':=r2.length;have ea:its.toArray++its2.toArray=(its++its2).toArray:=by simp
 have fin:EP X pins σ Q (.ref s.heap.objs.size) { s with heap:=s.heap.push { cls:=.type "list",data:=.seq (its.toArray++its2.toArray) } }:=by
  rw [ea];exact⟨.ref _,_,I.lnew (t':=s.toks) (r.append r2) (by rw [length_append];omega),rfl,q _ I.fresh⟩
 exact concat_meets ⟨_,ho,rfl⟩ ⟨_,ho2,rfl⟩ noFill_list_add seq_list_add PySem.F.slot_list_add PySem.F.entry_list_add (PySem.F.args_list_add_2 _ _) (list_addW l b its.toArray its2.toArray n n2 dd dd2 sl sl2 (by simp;omega)) ⟨ho,ho2,fin⟩
end
def Lts(l:List Nat):Prop:=∀c∈l,97<=c/\c<=122
theorem Lts.nil:Lts []:=fun c h=>nomatch h
theorem Lts.app{a b:List Nat}(x:Lts a)(y:Lts b):Lts (a++b):=fun c h=>(mem_append.mp h).elim (x c) (y c)
theorem Lts.one{c:Nat}(h:97<=c/\c<=122):Lts [c]:=fun d hd=>by
 have:d=c:=by simpa using hd
 subst this;exact h
theorem Lts.take{a:List Nat}(x:Lts a)(n:Nat):Lts (a.take n):=fun c h=>x c (mem_of_mem_take h)
theorem Lts.drop{a:List Nat}(x:Lts a)(n:Nat):Lts (a.drop n):=fun c h=>x c (mem_of_mem_drop h)
theorem Lts.cut{a:List Nat}(x:Lts a)(lo hi:Option Int):Lts (dW a lo hi):=(x.drop _).take _
theorem Lts.rep{a:List Nat}(x:Lts a)(n:Int):Lts (gI a n):=fun c h=>by
 unfold gI at h;obtain⟨l,h1,h2⟩:=mem_flatten.mp h;rw [eq_of_mem_replicate h1] at h2;exact x c h2
section
variable {κ:Type} [DecidableEq κ]
theorem KV.length{kvs:List (κ×V)}{vs:List (κ×Value)}(r:KV kvs vs):kvs.length=vs.length:=Paired.length r
end
section
variable {P:Program}{w:World}{H:Hp}{h:Heap}{a:Addr}
theorem sV{u:HO}(ok:HOk P w H h)(e:Rd H a u):bc P w H h a u:=e.ok ok
theorem sW{kvs:List (Key×V)}(ok:HOk P w H h)(e:Rd H a (.dK kvs)):kvs.length<=sizeLine/\(a == sysModules)=false/\∃vs,KV kvs vs/\h.DictOf (iS P w) a vs :=
 show bc P w H h a (.dK kvs) from sV ok e
end
section
variable {X:Cx}{pins:List (Addr×Obj)}{σ:St}{H:Hp}{s:Shared}{a:Addr}{kvs:List (Key×V)}{k:Key}{u:Value}{A:Around}{E:Value->Shared->Prop}
theorem sX{Q:Value->Shared->Prop}(I:Inv X pins σ H s)(e:Rd H a (.dK kvs))(h:∀t s',Inv X pins σ H s'->Q (.int kvs.length t) s'):wpAny (model X.prog X.w) A (call (.builtin "len") [.ref a]) Q E s:=by
 obtain⟨z,hd,vs,rel,dd⟩:=sW I.hok e;refine call_len_dict hd dd (by rw [<- rel.length];rw [sizeLine_eq] at z;omega) ?_;rw [<- rel.length];exact h _ _ (I.tok _)
end
section
variable {X:Cx}{o e f:Expr}{apos cpos:Pos}{td ty tx:TE}
theorem lb:bG X (.builtin "len") (fun xs H Q=>∃p kvs,xs=[.ref p]/\Rd H p (.dK kvs)/\Q (.int kvs.length) H):=by
 intro pins s σ H xs us Q I r h;obtain⟨p,kvs,rfl,hd,q⟩:=h;obtain⟨u,rfl,ru⟩:=iU r;cases (show u=Value.ref p from ru);exact sX I hd fun t s' I'=>⟨.int kvs.length,H,I',⟨t,rfl⟩,q⟩
end
def ax(K:PySem.W.Frag)(x:Str):Addr:=match PySem.W.nsIn K mainGlobals x with
 | some (some (.ref C))=>C
 | _=>0
theorem a9{K:PySem.W.Frag}{x:Str}{C:Addr}(h:PySem.W.nsIn K mainGlobals x=some (some (.ref C))):ax K x=C:=by unfold ax;rw [h]
section
variable {X:Cx}{e:Expr}{ta:TE}{f:Str}{pos:Pos}
def sY(K:PySem.W.Frag):List V->Hp->VK->Prop:=fun xs H Q=>∃p ys,xs=[.ref p]/\SqL K H p ys/\Q (.int ys.length) H
def sZ(K:PySem.W.Frag):List V->Hp->VK->Prop:=fun xs H Q=>∃p ys,xs=[.ref p]/\SqT K H p ys/\Q (.int ys.length) H
def ux(K:PySem.W.Frag):List V->Hp->VK->Prop:=fun xs H Q=>∃x n t b,xs=[x,.ty n]/\iV K H x t/\PySem.W.kitOne K t (.type n)=some b/\Q (.bl b) H
def lf(K:PySem.W.Frag):List V->Hp->VK->Prop:=fun xs H Q=>∃p ys,xs=[.ref p]/\(SqL K H p ys\/SqT K H p ys)/\∀l,H l=none->Q (.ref l) (upd H l (.lst ys))
end
section
variable {X:Cx}{o e:Expr}{es:List Expr}{to:TE}{t:TA}{name:Str}{apos cpos:Pos}{T id:String}{r:V->List V->Hp->VK->Prop}
theorem jE(K:PySem.W.Frag)(eK:X.K=K)(pa:PlainAttrs T)(slot:Slot T name id)(hty:typeOf (.builtin id)=pure (.type "method_descriptor"))(hm:MtR X id r)(ho:PE X o to)(ha:PA X (e::es) t)
  (hbase:attributeBase o name X.env (eval o X.env)=eval o X.env:=by rfl)
  (hfew:((backTo cpos (starEach (e::es) X.env)).all (fun x=>!x.1) && (backToKw cpos (keywordEach [] X.env)).all (fun x=>x.1.isSome)
   && decide ((e::es).length+([]:List Keyword).length+(if ([]:List Keyword).isEmpty then 0 else 1)<30))=true:=by rfl)
  (hline:(apos.endLine == cpos.line)=true:=by rfl) (hs:starEach (e::es) X.env=(false,eval e X.env)::starEach es X.env:=by rfl) (hplain:(backTo cpos (starEach es X.env)).any (·.1)=false:=by rfl) :
  PE X (.Call (.Attribute o name apos) (e::es) [] cpos) (tBM K T r to t):=eK ▸ sL pa slot hty hm ho ha hbase hfew hline hs hplain
end
def eO(c:Bool)(A B:Prop):Prop:=match c with|true=>A|false=>B
theorem uy{c:Bool}{A B:Prop}(h1:c=true->A)(h2:c=false->B):eO c A B:=by
 cases c with
 | true=>exact h1 rfl
 | false=>exact h2 rfl
theorem cm{p:Prop}[Decidable p]{A B:Prop}(h1:p->A)(h2:¬ p->B):eO (decide p) A B:=uy (fun h=>h1 (of_decide_eq_true h)) (fun h=>h2 (of_decide_eq_false h))
theorem oG{p:Prop}[Decidable p]{A B:Prop}(h1:¬ p->A)(h2:p->B):eO (!decide p) A B:=uy (fun h=>h1 fun z=>by rw [decide_eq_true z] at h;cases h) (fun h=>h2 (by
 by_cases z:p
 .exact z
 .rw [decide_eq_false z] at h;cases h))
theorem tq{p:Prop}[Decidable p]{A B:Prop}(h:p)(hA:A):eO (decide p) A B:=cm (fun _=>hA) (fun z=>absurd h z)
theorem tu{p:Prop}[Decidable p]{A B:Prop}(h:¬ p)(hB:B):eO (decide p) A B:=cm (fun z=>absurd z h) (fun _=>hB)
theorem rh{p:Prop}[Decidable p]{A B:Prop}(h:¬ p)(hA:A):eO (!decide p) A B:=oG (fun _=>hA) (fun z=>absurd z h)
theorem ri{p:Prop}[Decidable p]{A B:Prop}(h:p)(hB:B):eO (!decide p) A B:=oG (fun z=>absurd h z) (fun _=>hB)
theorem lg{c:Bool}{A B:Prop}(h:eO c B A):eO (!c) A B:=by
 cases c <;> exact h
theorem uS{c:Bool}{A B:Prop}(h:c=true)(hA:A):eO c A B:=by subst h;exact hA
theorem uT{c:Bool}{A B:Prop}(h:c=false)(hB:B):eO c A B:=by subst h;exact hB
theorem tw{c:Bool}{A B:Prop}(h:c=false)(hA:A):eO (!c) A B:=by subst h;exact hA
theorem tz{c:Bool}{A B:Prop}(h:c=true)(hB:B):eO (!c) A B:=by subst h;exact hB
inductive D where
 | non|bl (b:Bool)|int (i:Int)|str (l:List Nat)|ty (n:String)
 | lst (ds:List D)|tup (ds:List D)|scr (ns:List Int)|dic (ks:List Key) (ds:List D)|obj (c:Str) (ns:List Str) (ds:List D)|exc (c:Str) (ns:List Str) (ds:List D)
def XAt(x C:Addr)(dd:Option Addr)(new:Bool)(h:Heap):Prop:=∃o vs,h.get? x=some o/\o.cls=.ref C/\o.dict=dd/\o.data=.fields vs/\1<vs.size/\(new=true->vs[1]?=some .none)
def c8(A:Addr->Prop)(a:Addr):Addr->Prop:=fun b=>A b\/b=a
def p4(K:PySem.W.Frag)(O:Addr->Prop)(H:Hp)(a:Addr)(xs:List V):Prop :=
 (¬ O a/\Rd H a (.lst xs))\/∃(o:Obj) (its:Array Value) (n:Nat),K.lookup a=some o/\o.cls=.type "list"/\o.dict=none/\o.data=.seq its n/\its.size<=sizeLine/\bo xs its.toList
theorem p4.sq{K:PySem.W.Frag}{O:Addr->Prop}{H:Hp}{a:Addr}{xs:List V}(h:p4 K O H a xs):SqL K H a xs:=h.elim (fun z=>.inl z.2) .inr
def aK(O:Addr->Prop)(H:Hp)(O':Addr->Prop)(H':Hp):Prop:=∀b o,¬ O b->H b=some o->¬ O' b/\H' b=some o
theorem Rd.keeps{O O':Addr->Prop}{H H':Hp}{a:Addr}{u:HO}(k:aK O H O' H')(n:¬ O a)(r:Rd H a u):¬ O' a/\Rd H' a u:=by
 rcases r with e|⟨o,e⟩
 .exact⟨(k _ _ n e).1,.inl (k _ _ n e).2⟩
 .exact⟨(k _ _ n e).1,.inr ⟨o,(k _ _ n e).2⟩⟩
theorem p4.keeps{K:PySem.W.Frag}{O O':Addr->Prop}{H H':Hp}{a:Addr}{xs:List V}(k:aK O H O' H')(h:p4 K O H a xs):p4 K O' H' a xs:=by
 rcases h with ⟨n,r⟩|r
 .exact .inl (r.keeps k n)
 .exact .inr r
mutual
inductive FV (K:PySem.W.Frag) (O:Addr->Prop) (H:Hp):V->D->Prop
 | non:FV K O H .non .non
 | bl (b:Bool):FV K O H (.bl b) (.bl b)
 | int (i:Int):FV K O H (.int i) (.int i)
 | str (l:List Nat):l.length<=1000000->FV K O H (.str (S l)) (.str l)
 | ty (n:String):FV K O H (.ty n) (.ty n)
 | scr {a:Addr}{ns:List Int}:p4 K O H a (ns.map V.int)->FV K O H (.ref a) (.scr ns)
 | lst {a:Addr}{xs:List V}{ds:List D}:¬ O a->H a=some (.lst xs)->FVs K O H xs ds->FV K O H (.ref a) (.lst ds)
 | tup {a:Addr}{xs:List V}{ds:List D}:¬ O a->H a=some (.tup xs)->FVs K O H xs ds->FV K O H (.ref a) (.tup ds)
 | dic {a:Addr}{kvs:List (Key×V)}{ks:List Key}{ds:List D}:¬ O a->H a=some (.dK kvs)->kvs.map Prod.fst=ks->FVs K O H (kvs.map Prod.snd) ds->FV K O H (.ref a) (.dic ks ds)
 | obj {a dx:Addr}{c:Str}{fs:List (Str×V)}{ns:List Str}{ds:List D}:¬ O a->H a=some (.ins (ax K c) dx fs)->fs.map Prod.fst=ns->FVs K O H (fs.map Prod.snd) ds->FV K O H (.ref a) (.obj c ns ds)
 | exc0 {a:Addr}{c:Str}{new:Bool}:¬ O a->H a=some (.ext (XAt a (ax K c) none new))->FV K O H (.ref a) (.exc c [] [])
 | exc1 {a dx:Addr}{c:Str}{new:Bool}{fs:List (Str×V)}{ns:List Str}{ds:List D}:¬ O a->¬ O dx->H a=some (.ext (XAt a (ax K c) (some dx) new))->H dx=some (.xd fs)->fs.map Prod.fst=ns->FVs K O H (fs.map Prod.snd) ds->FV K O H (.ref a) (.exc c ns ds)
inductive FVs (K:PySem.W.Frag) (O:Addr->Prop) (H:Hp):List V->List D->Prop
 | nil:FVs K O H [] []
 | cons {x:V}{d:D}{xs:List V}{ds:List D}:FV K O H x d->FVs K O H xs ds->FVs K O H (x::xs) (d::ds)
end
section
variable {K:PySem.W.Frag}{O O':Addr->Prop}{H H':Hp}
mutual
theorem FV.keeps(k:aK O H O' H'):∀{v:V}{d:D},FV K O H v d->FV K O' H' v d
 | _,_,.non=>.non
 | _,_,.bl b=>.bl b
 | _,_,.int i=>.int i
 | _,_,.str l h=>.str l h
 | _,_,.ty n=>.ty n
 | _,_,.scr s=>.scr (s.keeps k)
 | _,_,.lst n e f=>.lst (k _ _ n e).1 (k _ _ n e).2 (FVs.keeps k f)
 | _,_,.tup n e f=>.tup (k _ _ n e).1 (k _ _ n e).2 (FVs.keeps k f)
 | _,_,.dic n e m f=>.dic (k _ _ n e).1 (k _ _ n e).2 m (FVs.keeps k f)
 | _,_,.obj n e m f=>.obj (k _ _ n e).1 (k _ _ n e).2 m (FVs.keeps k f)
 | _,_,.exc0 n e=>.exc0 (k _ _ n e).1 (k _ _ n e).2
 | _,_,.exc1 n n2 e e2 m f=>.exc1 (k _ _ n e).1 (k _ _ n2 e2).1 (k _ _ n e).2 (k _ _ n2 e2).2 m (FVs.keeps k f)
theorem FVs.keeps(k:aK O H O' H'):∀{vs:List V}{ds:List D},FVs K O H vs ds->FVs K O' H' vs ds
 | _,_,.nil=>.nil
 | _,_,.cons a b=>.cons (FV.keeps k a) (FVs.keeps k b)
end
theorem FVs.length:∀{vs:List V}{ds:List D},FVs K O H vs ds->vs.length=ds.length
 | _,_,.nil=>rfl
 | _,_,.cons _ b=>by rw [length_cons,length_cons,b.length]
theorem FVs.get:∀{vs:List V}{ds:List D}{i:Nat}{v:V},FVs K O H vs ds->vs[i]?=some v->∃d,ds[i]?=some d/\FV K O H v d
 | _,_,0,_,.cons a _,e=>by simp at e;subst e;exact⟨_,rfl,a⟩
 | _,_,i+1,v,.cons _ b,e=>by
  obtain⟨d,h1,h2⟩:=b.get (i:=i) (v:=v) (by simpa using e);exact⟨d,by simpa using h1,h2⟩
theorem FVs.getD:∀{vs:List V}{ds:List D}{i:Nat}{d:D},FVs K O H vs ds->ds[i]?=some d->∃v,vs[i]?=some v/\FV K O H v d
 | _,_,0,_,.cons a _,e=>by simp at e;subst e;exact⟨_,rfl,a⟩
 | _,_,i+1,v,.cons _ b,e=>by
  obtain⟨d,h1,h2⟩:=b.getD (i:=i) (d:=v) (by simpa using e);exact⟨d,by simpa using h1,h2⟩
theorem FVs.append:∀{vs ws:List V}{ds es:List D},FVs K O H vs ds->FVs K O H ws es->FVs K O H (vs++ws) (ds++es)
 | _,_,_,_,.nil,s=>s
 | _,_,_,_,.cons a b,s=>.cons a (b.append s)
theorem FVs.take:∀{vs:List V}{ds:List D} (n:Nat),FVs K O H vs ds->FVs K O H (vs.take n) (ds.take n)
 | _,_,0,_=>.nil
 | _,_,_+1,.nil=>.nil
 | _,_,n+1,.cons r t=>.cons r (t.take n)
theorem FVs.drop:∀{vs:List V}{ds:List D} (n:Nat),FVs K O H vs ds->FVs K O H (vs.drop n) (ds.drop n)
 | _,_,0,r=>r
 | _,_,_+1,.nil=>.nil
 | _,_,n+1,.cons _ t=>t.drop n
theorem FVs.reverse:∀{vs:List V}{ds:List D},FVs K O H vs ds->FVs K O H vs.reverse ds.reverse
 | _,_,.nil=>.nil
 | _,_,.cons r t=>by rw [reverse_cons,reverse_cons];exact t.reverse.append (.cons r .nil)
theorem FVs.of_ints:∀ns:List Int,FVs K O H (ns.map V.int) (ns.map D.int)
 | []=>.nil
 | n::r=>.cons (.int n) (FVs.of_ints r)
theorem FVs.bls:∀{vs:List V}{bs:List Bool},FVs K O H vs (bs.map D.bl)->vs=bs.map V.bl
 | _,[],.nil=>rfl
 | _,n::r,h=>by
  cases h with
  | cons a b=>cases a;rw [FVs.bls b];rfl
end
inductive PV where
 | dat (d:D)|own (ds:List D)|ins (c:Str) (ns:List Str) (ds:List D)
def PV.isOwn:PV->Bool
 | .dat _=>false
 | _=>true
def PV.d:PV->D
 | .dat d=>d
 | .own ds=>.lst ds
 | .ins c ns ds=>.obj c ns ds
abbrev PSt:=List (Option PV)
def Wr(ρ:PSt)(σ:St)(b:Addr):Prop:=∃(i:Nat) (p:PV),ρ[i]?=some (some p)/\p.isOwn=true/\σ[i]?=some (some (.ref b))
def OO(A:Addr->Prop)(ρ:PSt)(σ:St)(b:Addr):Prop:=A b\/Wr ρ σ b
def RS(K:PySem.W.Frag)(O:Addr->Prop)(H:Hp):PV->V->Prop
 | .dat d,v=>FV K O H v d
 | .own ds,v=>∃a xs,v=.ref a/\H a=some (.lst xs)/\FVs K O H xs ds
 | .ins c ns ds,v=>∃a dx fs,v=.ref a/\H a=some (.ins (ax K c) dx fs)/\fs.map Prod.fst=ns/\FVs K O H (fs.map Prod.snd) ds
structure Rel (K:PySem.W.Frag) (A:Addr->Prop) (ρ:PSt) (σ:St) (H:Hp):Prop where
 len:ρ.length=σ.length
 get:∀(i:Nat) (p:PV),ρ[i]?=some (some p)->∃v,σ[i]?=some (some v)/\RS K (OO A ρ σ) H p v
 dj:∀(i j:Nat) (p q:PV) (v:V),ρ[i]?=some (some p)->ρ[j]?=some (some q)->p.isOwn=true->q.isOwn=true->σ[i]?=some (some v)->σ[j]?=some (some v)->i=j
 dom:∀b,A b->H b≠none
 sep:∀b,A b->¬ Wr ρ σ b
structure Fr (ρ:PSt) (σ:St) (H:Hp) (ρ':PSt) (H':Hp):Prop where
 kp:∀b o,¬ Wr ρ σ b->H b=some o->H' b=some o
 dm:∀b,H b≠none->H' b≠none
 ow:∀b,Wr ρ' σ b->Wr ρ σ b
theorem Fr.refl(ρ:PSt)(σ:St)(H:Hp):Fr ρ σ H ρ H:=⟨fun _ _ _ h=>h,fun _ h=>h,fun _ h=>h⟩
theorem Fr.trans{ρ ρ1 ρ2:PSt}{σ:St}{H H1 H2:Hp}(a:Fr ρ σ H ρ1 H1)(b:Fr ρ1 σ H1 ρ2 H2):Fr ρ σ H ρ2 H2 :=
 ⟨fun c o n h=>b.kp c o (fun z=>n (a.ow c z)) (a.kp c o n h),fun c h=>b.dm c (a.dm c h),fun c h=>a.ow c (b.ow c h)⟩
theorem Fr.keeps{ρ ρ':PSt}{σ:St}{H H':Hp}{A:Addr->Prop}(f:Fr ρ σ H ρ' H'):aK (OO A ρ σ) H (OO A ρ' σ) H':=fun b o n h =>
 ⟨fun z=>z.elim (fun z=>n (.inl z)) (fun z=>n (.inr (f.ow b z))),f.kp b o (fun z=>n (.inr z)) h⟩
theorem Fr.new{ρ:PSt}{σ:St}{H:Hp}{p:Addr}{o:HO}(h:H p=none):Fr ρ σ H ρ (upd H p o) :=
 ⟨fun b u _ e=>by rw [ao (aQ e h)];exact e,fun b e=>by
  by_cases z:b=p
  .rw [z,aF];exact nofun
  .rw [ao z];exact e,fun _ h=>h⟩
theorem aK.fresh{O:Addr->Prop}{H:Hp}{p:Addr}{o:HO}(h:H p=none):aK O H (c8 O p) (upd H p o):=fun b u n e =>
 ⟨fun z=>z.elim n (fun z=>by rw [z,h] at e;cases e),by rw [ao (aQ e h)];exact e⟩
theorem aK.less{O O':Addr->Prop}{H:Hp}(h:∀b,O' b->O b):aK O H O' H:=fun b o n e=>⟨fun z=>n (h b z),e⟩
theorem RS.keeps{K:PySem.W.Frag}{O O':Addr->Prop}{H H':Hp}{p:PV}{v:V}(k:aK O H O' H')(w:p.isOwn=true->∀a,v=.ref a->H' a=H a)(h:RS K O H p v):RS K O' H' p v:=by
 cases p with
 | dat d=>exact FV.keeps k h
 | own ds =>
  obtain⟨a,xs,e,g,f⟩:=h;exact⟨a,xs,e,by rw [w rfl a e];exact g,f.keeps k⟩
 | ins c ns ds =>
  obtain⟨a,dx,fs,e,g,m,f⟩:=h;exact⟨a,dx,fs,e,by rw [w rfl a e];exact g,m,f.keeps k⟩
theorem RS.ref{K:PySem.W.Frag}{O:Addr->Prop}{H:Hp}{p:PV}{v:V}(h:RS K O H p v)(o:p.isOwn=true):∃a u,v=.ref a/\H a=some u:=by
 cases p with
 | dat d=>cases o
 | own ds=>obtain⟨a,xs,e,g,f⟩:=h;exact⟨a,_,e,g⟩
 | ins c ns ds=>obtain⟨a,dx,fs,e,g,m,f⟩:=h;exact⟨a,_,e,g⟩
theorem Rel.wr{K:PySem.W.Frag}{A:Addr->Prop}{ρ:PSt}{σ:St}{H:Hp}(R:Rel K A ρ σ H){b:Addr}(h:Wr ρ σ b):H b≠none:=by
 obtain⟨i,p,e,o,s⟩:=h;obtain⟨v,s',r⟩:=R.get i p e;rw [s] at s';cases s';obtain⟨a,u,e1,e2⟩:=r.ref o;cases e1;rw [e2];exact nofun
theorem Rel.oo{K:PySem.W.Frag}{A:Addr->Prop}{ρ:PSt}{σ:St}{H:Hp}(R:Rel K A ρ σ H){b:Addr}(h:H b=none):¬ OO A ρ σ b:=fun z=>z.elim (fun z=>R.dom b z h) (fun z=>R.wr z h)
theorem Rel.grow{K:PySem.W.Frag}{A:Addr->Prop}{ρ:PSt}{σ:St}{H:Hp}(R:Rel K A ρ σ H){p:Addr}{o:HO}(h:H p=none):Rel K A ρ σ (upd H p o):=by
 have k:aK (OO A ρ σ) H (OO A ρ σ) (upd H p o):=Fr.keeps (Fr.new h);refine⟨R.len,fun i q e=>?_,R.dj,fun b z=>(Fr.new (ρ:=ρ) (σ:=σ) h).dm b (R.dom b z),R.sep⟩;obtain⟨v,s,r⟩:=R.get i q e;refine⟨v,s,r.keeps k fun ow a ea=>?_⟩;obtain⟨a',u,e1,e2⟩:=r.ref ow;rw [ea] at e1;cases e1;rw [ao (aQ e2 h)]
theorem Rel.less{K:PySem.W.Frag}{A A':Addr->Prop}{ρ:PSt}{σ:St}{H:Hp}(R:Rel K A ρ σ H)(h:∀b,A' b->A b):Rel K A' ρ σ H:=by
 refine⟨R.len,fun i q e=>?_,R.dj,fun b z=>R.dom b (h b z),fun b z=>R.sep b (h b z)⟩;obtain⟨v,s,r⟩:=R.get i q e;exact⟨v,s,r.keeps (aK.less fun b z=>z.imp (h b) id) fun _ _ _=>rfl⟩
theorem Rel.write{K:PySem.W.Frag}{A:Addr->Prop}{ρ:PSt}{σ:St}{H:Hp}(R:Rel K A ρ σ H){i:Nat}{p q:PV}{a:Addr}{o:HO}(e:ρ[i]?=some (some p))(ow:p.isOwn=true)(ow':q.isOwn=true)(es:σ[i]?=some (some (.ref a)))
  (new:RS K (OO A ρ σ) (upd H a o) q (.ref a)):Rel K A (ρ.set i (some q)) σ (upd H a o)/\Fr ρ σ H (ρ.set i (some q)) (upd H a o):=by
 have hi:i<ρ.length:=(List.getElem?_eq_some_iff.mp e).1;have wa:Wr ρ σ a:=⟨i,p,e,ow,es⟩
 have weq:∀b,Wr (ρ.set i (some q)) σ b ↔ Wr ρ σ b:=fun b=>by
  constructor
  .rintro⟨j,r,e1,o1,s1⟩
   by_cases z:i=j
   .subst z;exact⟨i,p,e,ow,s1⟩
   .rw [getElem?_set_ne z] at e1;exact⟨j,r,e1,o1,s1⟩
  .rintro⟨j,r,e1,o1,s1⟩
   by_cases z:i=j
   .subst z;exact⟨i,q,getElem?_set_self hi,ow',s1⟩
   .exact⟨j,r,by rw [getElem?_set_ne z];exact e1,o1,s1⟩
 have oeq:OO A (ρ.set i (some q)) σ=OO A ρ σ:=funext fun b=>propext (or_congr Iff.rfl (weq b));have kp:∀b u,¬ Wr ρ σ b->H b=some u->upd H a o b=some u:=fun b u n h=>by rw [ao (fun z=>n (by rw [z];exact wa))];exact h
 have k:aK (OO A ρ σ) H (OO A ρ σ) (upd H a o):=fun b u n h=>⟨n,kp b u (fun z=>n (.inr z)) h⟩
 have dm:∀b,H b≠none->upd H a o b≠none:=fun b n=>by
  by_cases z:b=a
  .rw [z,aF];exact nofun
  .rw [ao z];exact n
 refine⟨⟨by rw [length_set];exact R.len,fun j r e1=>?_,fun j l p1 q1 v e1 e2 o1 o2 s1 s2=>?_,fun b z=>dm b (R.dom b z),fun b z w=>R.sep b z ((weq b).mp w)⟩,⟨kp,dm,fun b w=>(weq b).mp w⟩⟩
 .rw [oeq]
  by_cases z:i=j
  .subst z;rw [getElem?_set_self hi] at e1;cases e1;exact⟨_,es,new⟩
  .rw [getElem?_set_ne z] at e1;obtain⟨v,s,rr⟩:=R.get j r e1;refine⟨v,s,rr.keeps k fun ow2 b eb=>?_⟩;rw [ao];intro zz;subst zz;rw [eb] at s;exact z (R.dj i j p r _ e e1 ow ow2 es s)
 .have ex:∀(m:Nat) (x:PV),(ρ.set i (some q))[m]?=some (some x)->x.isOwn=true->∃y:PV,ρ[m]?=some (some y)/\y.isOwn=true:=fun m x em ox=>by
   by_cases z:i=m
   .subst z;exact⟨p,e,ow⟩
   .rw [getElem?_set_ne z] at em;exact⟨x,em,ox⟩
  obtain⟨y1,h1,h2⟩:=ex j p1 e1 o1;obtain⟨y2,h3,h4⟩:=ex l q1 e2 o2;exact R.dj j l y1 y2 v h1 h3 h2 h4 s1 s2
theorem Rel.frz{K:PySem.W.Frag}{A:Addr->Prop}{ρ:PSt}{σ:St}{H:Hp}(R:Rel K A ρ σ H){i:Nat}{p:PV}(e:ρ[i]?=some (some p)) :
  Rel K A (ρ.set i (some (.dat p.d))) σ H/\Fr ρ σ H (ρ.set i (some (.dat p.d))) H:=by
 have hi:i<ρ.length:=(List.getElem?_eq_some_iff.mp e).1
 have ex:∀(m:Nat) (x:PV),(ρ.set i (some (.dat p.d)))[m]?=some (some x)->x.isOwn=true->m≠i/\ρ[m]?=some (some x):=fun m x em ox=>by
  by_cases z:i=m
  .subst z;rw [getElem?_set_self hi] at em;cases em;cases ox
  .rw [getElem?_set_ne z] at em;exact⟨fun q=>z q.symm,em⟩
 have ow:∀b,Wr (ρ.set i (some (.dat p.d))) σ b->Wr ρ σ b:=fun b ⟨j,r,e1,o1,s1⟩=>⟨j,r,(ex j r e1 o1).2,o1,s1⟩
 have k:aK (OO A ρ σ) H (OO A (ρ.set i (some (.dat p.d))) σ) H:=aK.less fun b z=>z.imp id (ow b);refine⟨⟨by rw [length_set];exact R.len,fun j r e1=>?_,fun j l p1 q1 v e1 e2 o1 o2 s1 s2=>R.dj j l p1 q1 v (ex j p1 e1 o1).2 (ex l q1 e2 o2).2 o1 o2 s1 s2,R.dom,fun b z w=>R.sep b z (ow b w)⟩,⟨fun _ _ _ h=>h,fun _ h=>h,ow⟩⟩
 by_cases z:i=j
 .subst z;rw [getElem?_set_self hi] at e1;cases e1;obtain⟨v,s,r⟩:=R.get i p e;refine⟨v,s,?_⟩
  have na:∀a,v=.ref a->p.isOwn=true->¬ OO A (ρ.set i (some (.dat p.d))) σ a:=fun a ea oo z=>by
   subst ea
   rcases z with z|⟨j,r,e1,o1,s1⟩
   .exact R.sep a z ⟨i,p,e,oo,s⟩
   .obtain⟨n1,n2⟩:=ex j r e1 o1;exact n1 (R.dj j i r p _ n2 e o1 oo s1 s)
  cases p with
  | dat d=>exact FV.keeps k r
  | own ds =>
   obtain⟨a,xs,rfl,g,f⟩:=r;exact .lst (na a rfl rfl) g (f.keeps k)
  | ins c ns ds =>
   obtain⟨a,dx,fs,rfl,g,m,f⟩:=r;exact .obj (na a rfl rfl) g m (f.keeps k)
 .rw [getElem?_set_ne z] at e1;obtain⟨v,s,r⟩:=R.get j _ e1;exact⟨v,s,r.keeps k fun _ _ _=>rfl⟩
abbrev PKt:=PV->PSt->Prop
abbrev PTE:=PSt->PKt->Prop
abbrev PTT:=PSt->(Bool->PSt->Prop)->Prop
inductive AV where
 | v (d:D)|sl (i:Nat)
abbrev PA1:=PSt->(AV->PSt->Prop)->Prop
abbrev PTA:=PSt->(List AV->PSt->Prop)->Prop
def Out(K:PySem.W.Frag)(A:Addr->Prop)(ρ:PSt)(σ:St)(H0 H:Hp):PV->V->Prop
 | .dat d,v=>Rel K A ρ σ H/\FV K (OO A ρ σ) H v d
 | .own ds,v=>∃a xs,v=.ref a/\¬ A a/\H0 a=none/\H a=some (.lst xs)/\Rel K (c8 A a) ρ σ H/\FVs K (OO (c8 A a) ρ σ) H xs ds
 | .ins c ns ds,v=>∃a dx fs,v=.ref a/\¬ A a/\H0 a=none/\H a=some (.ins (ax K c) dx fs)/\fs.map Prod.fst=ns/\Rel K (c8 A a) ρ σ H/\FVs K (OO (c8 A a) ρ σ) H (fs.map Prod.snd) ds
def LE(K:PySem.W.Frag)(te:TE)(pe:PTE):Prop:=∀(A:Addr->Prop) (ρ:PSt) (σ:St) (H:Hp) (Q:PKt) (Q':VK),Rel K A ρ σ H->pe ρ Q ->
 (∀v H' p ρ',Q p ρ'->Fr ρ σ H ρ' H'->Out K A ρ' σ H H' p v->Q' v H')->te σ H Q'
def LT(K:PySem.W.Frag)(tt:TT)(pt:PTT):Prop:=∀(A:Addr->Prop) (ρ:PSt) (σ:St) (H:Hp) (Q:Bool->PSt->Prop) (Q':Bool->Hp->Prop),Rel K A ρ σ H->pt ρ Q ->
 (∀b H' ρ',Q b ρ'->Fr ρ σ H ρ' H'->Rel K A ρ' σ H'->Q' b H')->tt σ H Q'
def AOk(K:PySem.W.Frag)(O:Addr->Prop)(σ:St)(H:Hp):AV->V->Prop
 | .v d,v=>FV K O H v d
 | .sl i,v=>σ[i]?=some (some v)
def LA1(K:PySem.W.Frag)(te:TE)(pa:PA1):Prop:=∀(A:Addr->Prop) (ρ:PSt) (σ:St) (H:Hp) (Q:AV->PSt->Prop) (Q':VK),Rel K A ρ σ H->pa ρ Q ->
 (∀v H' av ρ',Q av ρ'->Fr ρ σ H ρ' H'->Rel K A ρ' σ H'->AOk K (OO A ρ' σ) σ H' av v->Q' v H')->te σ H Q'
inductive oH (K:PySem.W.Frag) (O:Addr->Prop) (σ:St) (H:Hp):List AV->List V->Prop
 | nil:oH K O σ H [] []
 | cons {a:AV}{v:V}{as:List AV}{vs:List V}:AOk K O σ H a v->oH K O σ H as vs->oH K O σ H (a::as) (v::vs)
def LAs(K:PySem.W.Frag)(ta:TA)(pa:PTA):Prop:=∀(A:Addr->Prop) (ρ:PSt) (σ:St) (H:Hp) (Q:List AV->PSt->Prop) (Q':List V->Hp->Prop),Rel K A ρ σ H->pa ρ Q ->
 (∀vs H' as ρ',Q as ρ'->Fr ρ σ H ρ' H'->Rel K A ρ' σ H'->oH K (OO A ρ' σ) σ H' as vs->Q' vs H')->ta σ H Q'
section
variable {K:PySem.W.Frag}{A O O':Addr->Prop}{ρ ρ':PSt}{σ:St}{H H' H0:Hp}
theorem AOk.keeps{a:AV}{v:V}(k:aK O H O' H')(h:AOk K O σ H a v):AOk K O' σ H' a v:=by
 cases a with
 | v d=>exact FV.keeps k h
 | sl i=>exact h
theorem Out.frz{p:PV}{v:V}(h:Out K A ρ σ H0 H p v):Rel K A ρ σ H/\FV K (OO A ρ σ) H v p.d:=by
 cases p with
 | dat d=>exact h
 | own ds =>
  obtain⟨a,xs,rfl,na,_,e,R,f⟩:=h;refine⟨R.less fun b z=>.inl z,.lst (fun z=>?_) e (f.keeps (aK.less fun b z=>z.imp .inl id))⟩;exact z.elim na (fun z=>R.sep a (.inr rfl) z)
 | ins c ns ds =>
  obtain⟨a,dx,fs,rfl,na,_,e,m,R,f⟩:=h;refine⟨R.less fun b z=>.inl z,.obj (fun z=>?_) e m (f.keeps (aK.less fun b z=>z.imp .inl id))⟩;exact z.elim na (fun z=>R.sep a (.inr rfl) z)
theorem Out.h0{p:PV}{v:V}{H1:Hp}(h:Out K A ρ σ H0 H p v)(dm:∀b,H1 b≠none->H0 b≠none):Out K A ρ σ H1 H p v:=by
 have k:∀a,H0 a=none->H1 a=none:=fun a e=>by
  cases z:H1 a with
  | none=>rfl
  | some o=>exact absurd e (dm a (by rw [z];exact nofun))
 cases p with
 | dat d=>exact h
 | own ds=>obtain⟨a,xs,e1,na,e2,r⟩:=h;exact⟨a,xs,e1,na,k a e2,r⟩
 | ins c ns ds=>obtain⟨a,dx,fs,e1,na,e2,r⟩:=h;exact⟨a,dx,fs,e1,na,k a e2,r⟩
def Gr(H H':Hp):Prop:=∀b o,H b=some o->H' b=some o
theorem Gr.fr(g:Gr H H'):Fr ρ σ H ρ H':=⟨fun b o _ h=>g b o h,fun b h=>by
 cases e:H b with
 | none=>exact absurd e h
 | some o=>rw [g b o e];exact nofun,fun _ h=>h⟩
theorem Gr.new{p:Addr}{o:HO}(h:H p=none):Gr H (upd H p o):=fun b u e=>by rw [ao (aQ e h)];exact e
theorem Gr.refl(H:Hp):Gr H H:=fun _ _ h=>h
theorem Rel.gr(R:Rel K A ρ σ H)(g:Gr H H'):Rel K A ρ σ H':=by
 refine⟨R.len,fun i q e=>?_,R.dj,fun b z=>(g.fr (ρ:=ρ) (σ:=σ)).dm b (R.dom b z),R.sep⟩;obtain⟨v,s,r⟩:=R.get i q e;refine⟨v,s,r.keeps (g.fr (ρ:=ρ) (σ:=σ)).keeps fun ow a ea=>?_⟩;obtain⟨a',u,e1,e2⟩:=r.ref ow;rw [ea] at e1;cases e1;rw [e2];exact g _ _ e2
theorem Rel.grA(R:Rel K A ρ σ H)(g:Gr H H'){p:Addr}(h:H p=none)(h':H' p≠none):Rel K (c8 A p) ρ σ H':=by
 have k:aK (OO A ρ σ) H (OO (c8 A p) ρ σ) H':=fun b u n e=>by
  refine⟨fun z=>?_,g _ _ e⟩
  rcases z with (z|z)|z
  .exact n (.inl z)
  .rw [z,h] at e;cases e
  .exact n (.inr z)
 refine⟨R.len,fun i q e=>?_,R.dj,fun b z=>?_,fun b z w=>?_⟩
 .obtain⟨v,s,r⟩:=R.get i q e;refine⟨v,s,r.keeps k fun ow a ea=>?_⟩;obtain⟨a',u,e1,e2⟩:=r.ref ow;rw [ea] at e1;cases e1;rw [e2];exact g _ _ e2
 .rcases z with z|z
  .exact (g.fr (ρ:=ρ) (σ:=σ)).dm b (R.dom b z)
  .rw [z];exact h'
 .rcases z with z|z
  .exact R.sep b z w
  .exact R.wr w (by rw [z];exact h)
def iq(K:PySem.W.Frag)(O:Addr->Prop)(H0 H:Hp):PV->V->Prop
 | .dat d,v=>FV K O H v d
 | .own ds,v=>∃a xs,v=.ref a/\H0 a=none/\H a=some (.lst xs)/\FVs K (c8 O a) H xs ds
 | .ins c ns ds,v=>∃a dx fs,v=.ref a/\H0 a=none/\H a=some (.ins (ax K c) dx fs)/\fs.map Prod.fst=ns/\FVs K (c8 O a) H (fs.map Prod.snd) ds
theorem iq.out{p:PV}{v:V}(R:Rel K A ρ σ H)(g:Gr H H')(h:iq K (OO A ρ σ) H H' p v):Out K A ρ σ H H' p v:=by
 cases p with
 | dat d=>exact⟨R.gr g,h⟩
 | own ds =>
  obtain⟨a,xs,rfl,e0,e,f⟩:=h;refine⟨a,xs,rfl,fun z=>R.dom a z e0,e0,e,R.grA g e0 (by rw [e];exact nofun),f.keeps (aK.less fun b z=>?_)⟩
  rcases z with (z|z)|z
  .exact .inl (.inl z)
  .exact .inr z
  .exact .inl (.inr z)
 | ins c ns ds =>
  obtain⟨a,dx,fs,rfl,e0,e,m,f⟩:=h;refine⟨a,dx,fs,rfl,fun z=>R.dom a z e0,e0,e,m,R.grA g e0 (by rw [e];exact nofun),f.keeps (aK.less fun b z=>?_)⟩
  rcases z with (z|z)|z
  .exact .inl (.inl z)
  .exact .inr z
  .exact .inl (.inr z)
def FVc(K:PySem.W.Frag)(O:Addr->Prop)(H:Hp)(v:V)(d:D):Prop:=FV K O H v d\/(∃a xs ds,v=.ref a/\d=.lst ds/\H a=some (.lst xs)/\FVs K O H xs ds) \/
 ∃a dx c fs ns ds,v=.ref a/\d=.obj c ns ds/\H a=some (.ins (ax K c) dx fs)/\fs.map Prod.fst=ns/\FVs K O H (fs.map Prod.snd) ds
def cont(ρ:PSt):AV->Option D
 | .v d=>some d
 | .sl i=>match ρ[i]? with|some (some p)=>some p.d|_=>none
theorem Rel.cont{av:AV}{v:V}{d:D}(R:Rel K A ρ σ H)(h:AOk K (OO A ρ σ) σ H av v)(e:L2.cont ρ av=some d):FVc K (OO A ρ σ) H v d:=by
 cases av with
 | v d'=>cases e;exact .inl h
 | sl i =>
  have h:σ[i]?=some (some v):=h;simp only [L2.cont] at e
  split at e
  .rename_i p ep;cases e;obtain⟨v',s,r⟩:=R.get i p ep;rw [h] at s;cases s
   cases p with
   | dat d=>exact .inl r
   | own ds=>obtain⟨a,xs,e1,e2,f⟩:=r;exact .inr (.inl ⟨a,xs,ds,e1,rfl,e2,f⟩)
   | ins c ns ds=>obtain⟨a,dx,fs,e1,e2,m,f⟩:=r;exact .inr (.inr ⟨a,dx,c,fs,ns,ds,e1,rfl,e2,m,f⟩)
  .cases e
theorem FVc.lst{v:V}{ds:List D}(h:FVc K O H v (.lst ds)):∃a xs,v=.ref a/\H a=some (.lst xs)/\FVs K O H xs ds:=by
 rcases h with h|⟨a,xs,ds',e1,e2,e3,f⟩|⟨a,dx,c,fs,ns,ds',e1,e2,_⟩
 .cases h with
  | lst n s f=>exact⟨_,_,rfl,s,f⟩
 .cases e2;exact⟨a,xs,e1,e3,f⟩
 .cases e2
theorem FVc.fv{v:V}{d:D}(h:FVc K O H v d)(n:∀ds,d≠.lst ds)(n':∀c ns ds,d≠.obj c ns ds):FV K O H v d:=by
 rcases h with h|⟨a,xs,ds',e1,e2,e3,f⟩|⟨a,dx,c,fs,ns,ds',e1,e2,_⟩
 .exact h
 .exact absurd e2 (n _)
 .exact absurd e2 (n' _ _ _)
theorem FVc.tup{v:V}{ds:List D}(h:FVc K O H v (.tup ds)):∃a xs,v=.ref a/\¬ O a/\H a=some (.tup xs)/\FVs K O H xs ds:=by
 cases h.fv nofun nofun with
 | tup n s f=>exact⟨_,_,rfl,n,s,f⟩
theorem FVc.scr{v:V}{ns:List Int}(h:FVc K O H v (.scr ns)):∃a,v=.ref a/\SqL K H a (ns.map V.int):=by
 cases h.fv nofun nofun with
 | scr s=>exact⟨_,rfl,s.sq⟩
theorem FVc.int{v:V}{i:Int}(h:FVc K O H v (.int i)):v=.int i:=by cases h.fv nofun nofun;rfl
theorem FVc.str{v:V}{i:List Nat}(h:FVc K O H v (.str i)):v=.str (S i)/\i.length<=1000000:=by
 cases h.fv nofun nofun with
 | str _ z=>exact⟨rfl,z⟩
end
def pC(d:D):PTE:=fun ρ Q=>Q (.dat d) ρ
def bH(i:Nat):PTE:=fun ρ Q=>match ρ[i]? with
 | some (some (.dat d))=>Q (.dat d) ρ
 | some (some (.own ds))=>Q (.dat (.lst ds)) (ρ.set i (some (.dat (.lst ds))))
 | some (some (.ins c ns ds))=>Q (.dat (.obj c ns ds)) (ρ.set i (some (.dat (.obj c ns ds))))
 | _=>False
def pSl(i:Nat):PA1:=fun ρ Q=>match ρ[i]? with
 | some (some (.dat d))=>Q (.v d) ρ
 | some (some (.own _))=>Q (.sl i) ρ
 | some (some (.ins _ _ _))=>Q (.sl i) ρ
 | _=>False
def pFz(pe:PTE):PA1:=fun ρ Q=>pe ρ fun p ρ1=>Q (.v p.d) ρ1
def aH:PTA:=fun ρ Q=>Q [] ρ
def ag(pa:PA1)(pr:PTA):PTA:=fun ρ Q=>pa ρ fun a ρ1=>pr ρ1 fun as ρ2=>Q (a::as) ρ2
section
variable {K:PySem.W.Frag}{ta tb tc:TE}{pa pb pc:PA1}{pe pe':PTE}{tr:TA}{pr:PTA}
theorem tD{v:V}{d:D}(h:∀O H,FV K O H v d):LE K (tC v) (pC d):=fun A ρ σ H Q Q' R q k=>k v H (.dat d) ρ q (Fr.refl _ _ _) ⟨R,h _ _⟩
theorem le_int{i:Int}:LE K (tC (.int i)) (pC (.int i)):=tD fun _ _=>.int i
theorem ir{i:Bool}:LE K (tC (.bl i)) (pC (.bl i)):=tD fun _ _=>.bl i
theorem le_str{l:List Nat}(h:l.length<=1000000:=by decide):LE K (tC (.str (S l))) (pC (.str l)):=tD fun _ _=>.str l h
theorem az{i:Nat}:LE K (j0 i) (bH i):=by
 intro A ρ σ H Q Q' R q k;unfold bH at q
 split at q
 .rename_i d e;obtain⟨v,s,r⟩:=R.get i _ e;exact⟨v,s,k v H (.dat d) ρ q (Fr.refl _ _ _) ⟨R,r⟩⟩
 .rename_i ds e;obtain⟨R',f⟩:=R.frz e;obtain⟨v,s,r⟩:=R'.get i _ (getElem?_set_self (List.getElem?_eq_some_iff.mp e).1);exact⟨v,s,k v H (.dat (.lst ds)) _ q f ⟨R',r⟩⟩
 .rename_i c ns ds e;obtain⟨R',f⟩:=R.frz e;obtain⟨v,s,r⟩:=R'.get i _ (getElem?_set_self (List.getElem?_eq_some_iff.mp e).1);exact⟨v,s,k v H (.dat (.obj c ns ds)) _ q f ⟨R',r⟩⟩
 .exact q.elim
theorem ai{i:Nat}:LA1 K (j0 i) (pSl i):=by
 intro A ρ σ H Q Q' R q k;unfold pSl at q
 split at q
 .rename_i d e;obtain⟨v,s,r⟩:=R.get i _ e;exact⟨v,s,k v H _ ρ q (Fr.refl _ _ _) R r⟩
 .rename_i e;obtain⟨v,s,r⟩:=R.get i _ e;exact⟨v,s,k v H _ ρ q (Fr.refl _ _ _) R s⟩
 .rename_i e;obtain⟨v,s,r⟩:=R.get i _ e;exact⟨v,s,k v H _ ρ q (Fr.refl _ _ _) R s⟩
 .exact q.elim
theorem ac(h:LE K ta pe):LA1 K ta (pFz pe):=fun A ρ σ H Q Q' R q k=>h A ρ σ H _ Q' R q fun v H' p ρ' q f o=>k v H' _ ρ' q f o.frz.1 o.frz.2
theorem aj:LAs K me aH:=fun A ρ σ H Q Q' R q k=>k [] H [] ρ q (Fr.refl _ _ _) R .nil
theorem aa(h:LA1 K ta pa)(hr:LAs K tr pr):LAs K (dX ta tr) (ag pa pr):=fun A ρ σ H Q Q' R q k =>
 h A ρ σ H _ _ R q fun v H1 a ρ1 q1 f1 R1 o1=>hr A ρ1 σ H1 _ _ R1 q1 fun vs H2 as ρ2 q2 f2 R2 o2=>k _ H2 _ ρ2 q2 (f1.trans f2) R2 (.cons (o1.keeps f2.keeps) o2)
def LO(K:PySem.W.Frag)(r:R2)(f:D->D->(PV->Prop)->Prop):Prop:=∀(O:Addr->Prop) (H:Hp) (x y:V) (a b:D) (Q:PV->Prop) (Q':VK),(∀b,O b->H b≠none)->FVc K O H x a->FVc K O H y b->f a b Q ->
 (∀v H' p,Q p->Gr H H'->iq K O H H' p v->Q' v H')->r x y H Q'
def op2(f:D->D->(PV->Prop)->Prop)(ρ:PSt)(x y:AV)(Q:PKt):Prop:=match cont ρ x,cont ρ y with
 | some a,some b=>f a b fun p=>Q p ρ
 | _,_=>False
def pOp(f:D->D->(PV->Prop)->Prop)(pa pb:PA1):PTE:=fun ρ Q=>pa ρ fun x ρ1=>pb ρ1 fun y ρ2=>op2 f ρ2 x y Q
theorem Rel.dom2{A:Addr->Prop}{ρ:PSt}{σ:St}{H:Hp}(R:Rel K A ρ σ H):∀b,OO A ρ σ b->H b≠none:=fun b z=>z.elim (R.dom b) R.wr
theorem ak{r:R2}{f:D->D->(PV->Prop)->Prop}(o:LO K r f)(ha:LA1 K ta pa)(hb:LA1 K tb pb):LE K (tOp r ta tb) (pOp f pa pb):=fun A ρ σ H Q Q' R q k =>
 ha A ρ σ H _ _ R q fun v H1 a ρ1 q1 f1 R1 o1=>hb A ρ1 σ H1 _ _ R1 q1 fun w H2 b ρ2 q2 f2 R2 o2=>by
  unfold op2 at q2
  split at q2
  .rename_i da db e1 e2;exact o _ H2 v w da db _ _ R2.dom2 (R2.cont (o1.keeps f2.keeps) e1) (R2.cont o2 e2) q2 fun z H3 p q3 g ov=>k z H3 p ρ2 q3 ((f1.trans f2).trans g.fr) ((ov.out R2 g).h0 fun b z=>f2.dm b (f1.dm b z))
  .exact q2.elim
def LU(K:PySem.W.Frag)(r:V->Hp->VK->Prop)(f:D->(PV->Prop)->Prop):Prop:=∀(O:Addr->Prop) (H:Hp) (x:V) (a:D) (Q:PV->Prop) (Q':VK),(∀b,O b->H b≠none)->FVc K O H x a->f a Q ->
 (∀v H' p,Q p->Gr H H'->iq K O H H' p v->Q' v H')->r x H Q'
def op1(f:D->(PV->Prop)->Prop)(ρ:PSt)(x:AV)(Q:PKt):Prop:=match cont ρ x with
 | some a=>f a fun p=>Q p ρ
 | _=>False
def pUn(f:D->(PV->Prop)->Prop)(pa:PA1):PTE:=fun ρ Q=>pa ρ fun x ρ1=>op1 f ρ1 x Q
theorem rj{r:V->Hp->VK->Prop}{f:D->(PV->Prop)->Prop}(o:LU K r f)(ha:LA1 K ta pa):LE K (tUn r ta) (pUn f pa):=fun A ρ σ H Q Q' R q k =>
 ha A ρ σ H _ _ R q fun v H1 a ρ1 q1 f1 R1 o1=>by
  unfold op1 at q1
  split at q1
  .rename_i da e1;exact o _ H1 v da _ _ R1.dom2 (R1.cont o1 e1) q1 fun z H3 p q3 g ov=>k z H3 p ρ1 q3 (f1.trans g.fr) ((ov.out R1 g).h0 fun b z=>f1.dm b z)
  .exact q1.elim
inductive p5 (K:PySem.W.Frag) (O:Addr->Prop) (H:Hp):List V->List D->Prop
 | nil:p5 K O H [] []
 | cons {x:V}{d:D}{xs:List V}{ds:List D}:FVc K O H x d->p5 K O H xs ds->p5 K O H (x::xs) (d::ds)
def conts(ρ:PSt):List AV->Option (List D)
 | []=>some []
 | a::r=>match cont ρ a,conts ρ r with
  | some d,some ds=>some (d::ds)
  | _,_=>none
theorem Rel.conts{A:Addr->Prop}{ρ:PSt}{σ:St}{H:Hp}(R:Rel K A ρ σ H):∀{as:List AV}{vs:List V}{ds:List D},oH K (OO A ρ σ) σ H as vs->L2.conts ρ as=some ds->p5 K (OO A ρ σ) H vs ds
 | _,_,_,.nil,e=>by cases e;exact .nil
 | _,_,_,.cons a b,e=>by
  unfold L2.conts at e
  split at e
  .rename_i e1 e2;cases e;exact .cons (R.cont a e1) (R.conts b e2)
  .cases e
def LC(K:PySem.W.Frag)(r:List V->Hp->VK->Prop)(f:List D->(PV->Prop)->Prop):Prop:=∀(O:Addr->Prop) (H:Hp) (xs:List V) (as:List D) (Q:PV->Prop) (Q':VK),(∀b,O b->H b≠none)->p5 K O H xs as->f as Q ->
 (∀v H' p,Q p->Gr H H'->iq K O H H' p v->Q' v H')->r xs H Q'
def opN(f:List D->(PV->Prop)->Prop)(ρ:PSt)(as:List AV)(Q:PKt):Prop:=match conts ρ as with
 | some ds=>f ds fun p=>Q p ρ
 | _=>False
def pCB(f:List D->(PV->Prop)->Prop)(pr:PTA):PTE:=fun ρ Q=>pr ρ fun as ρ1=>opN f ρ1 as Q
theorem dw{r:List V->Hp->VK->Prop}{f:List D->(PV->Prop)->Prop}(o:LC K r f)(ha:LAs K tr pr):LE K (tCB r tr) (pCB f pr):=fun A ρ σ H Q Q' R q k =>
 ha A ρ σ H _ _ R q fun vs H1 as ρ1 q1 f1 R1 o1=>by
  unfold opN at q1
  split at q1
  .rename_i ds e1;exact o _ H1 vs ds _ _ R1.dom2 (R1.conts o1 e1) q1 fun z H3 p q3 g ov=>k z H3 p ρ1 q3 (f1.trans g.fr) ((ov.out R1 g).h0 fun b z=>f1.dm b z)
  .exact q1.elim
def avD:List AV->Option (List D)
 | []=>some []
 | .v d::r=>match avD r with|some ds=>some (d::ds)|none=>none
 | .sl _::_=>none
theorem oH.avD{O:Addr->Prop}{σ:St}{H:Hp}:∀{as:List AV}{vs:List V}{ds:List D},oH K O σ H as vs->L2.avD as=some ds->FVs K O H vs ds
 | _,_,_,.nil,e=>by cases e;exact .nil
 | .v d::r,_,_,.cons a b,e=>by
  simp only [L2.avD] at e
  split at e
  .rename_i e1;cases e;exact .cons a (b.avD e1)
  .cases e
 | .sl i::r,_,_,.cons a b,e=>by cases e
def i5(pr:PTA):PTE:=fun ρ Q=>pr ρ fun as ρ1=>match avD as with
 | some ds=>ds.length<=1000000/\Q (.own ds) ρ1
 | _=>False
def uz(pr:PTA):PTE:=fun ρ Q=>pr ρ fun as ρ1=>match avD as with
 | some ds=>ds.length<=1000000/\Q (.dat (.tup ds)) ρ1
 | _=>False
theorem cq(ha:LAs K tr pr):LE K (um tr) (i5 pr):=fun A ρ σ H Q Q' R q k =>
 ha A ρ σ H _ _ R q fun vs H1 as ρ1 q1 f1 R1 o1=>by
  split at q1
  .rename_i ds e1;have fs:=o1.avD e1;refine⟨sz _ (by rw [fs.length];exact q1.1),fun p hp=>k _ _ (.own ds) ρ1 q1.2 (f1.trans (Fr.new hp)) ?_⟩;have g:Gr H1 (upd H1 p (.lst vs)):=Gr.new hp;exact (iq.out (p:=.own ds) R1 g ⟨p,vs,rfl,hp,aF,fs.keeps (aK.fresh hp)⟩).h0 fun b z=>f1.dm b z
  .exact q1.elim
theorem rk(ha:LAs K tr pr):LE K (ul tr) (uz pr):=fun A ρ σ H Q Q' R q k =>
 ha A ρ σ H _ _ R q fun vs H1 as ρ1 q1 f1 R1 o1=>by
  split at q1
  .rename_i ds e1;have fs:=o1.avD e1;refine⟨sz _ (by rw [fs.length];exact q1.1),fun p hp=>k _ _ (.dat (.tup ds)) ρ1 q1.2 (f1.trans (Fr.new hp)) ⟨R1.grow hp,?_⟩⟩;exact .tup (R1.oo hp) aF (fs.keeps (Fr.new hp).keeps)
  .exact q1.elim
def pB(pe:PTE):PTT:=fun ρ Q=>pe ρ fun p ρ1=>match p with
 | .dat (.bl b)=>Q b ρ1
 | _=>False
theorem my(h:LE K ta pe):LT K (tB ta) (pB pe):=fun A ρ σ H Q Q' R q k=>h A ρ σ H _ _ R q fun v H1 p ρ1 q1 f1 o1=>by
 split at q1
 .rename_i b;obtain⟨R1,f⟩:=o1;cases f;exact⟨b,rfl,k b H1 ρ1 q1 f1 R1⟩
 .exact q1.elim
theorem gO(h:LE K ta pe):LT K (nW ta) (pB pe):=my h
def rm(a b:PTT):PTT:=fun ρ Q=>a ρ fun c ρ1=>eO c (b ρ1 Q) (Q false ρ1)
def pOr(a b:PTT):PTT:=fun ρ Q=>a ρ fun c ρ1=>eO c (Q true ρ1) (b ρ1 Q)
def m9(a:PTT):PTT:=fun ρ Q=>a ρ fun c ρ1=>Q (!c) ρ1
variable {tta ttb:TT}{pta ptb:PTT}
theorem jF(ha:LT K tta pta)(hb:LT K ttb ptb):LT K (ue tta ttb) (rm pta ptb):=fun A ρ σ H Q Q' R q k=>ha A ρ σ H _ _ R q fun c H1 ρ1 q1 f1 R1=>by
 cases c with
 | true=>exact hb A ρ1 σ H1 _ _ R1 q1 fun b H2 ρ2 q2 f2 R2=>k b H2 ρ2 q2 (f1.trans f2) R2
 | false=>exact k false H1 ρ1 q1 f1 R1
theorem mz(ha:LT K tta pta)(hb:LT K ttb ptb):LT K (tOr tta ttb) (pOr pta ptb):=fun A ρ σ H Q Q' R q k=>ha A ρ σ H _ _ R q fun c H1 ρ1 q1 f1 R1=>by
 cases c with
 | false=>exact hb A ρ1 σ H1 _ _ R1 q1 fun b H2 ρ2 q2 f2 R2=>k b H2 ρ2 q2 (f1.trans f2) R2
 | true=>exact k true H1 ρ1 q1 f1 R1
theorem fz(ha:LT K tta pta):LT K (uf tta) (m9 pta):=fun A ρ σ H Q Q' R q k=>ha A ρ σ H _ _ R q fun c H1 ρ1 q1 f1 R1=>k _ H1 ρ1 q1 f1 R1
def lh(a b:PTE):PTE:=fun ρ Q=>a ρ fun p ρ1=>match p with
 | .dat (.bl c)=>eO c (b ρ1 Q) (Q (.dat (.bl false)) ρ1)
 | _=>False
def oI(a:PTE):PTE:=fun ρ Q=>a ρ fun p ρ1=>match p with
 | .dat (.bl c)=>Q (.dat (.bl (!c))) ρ1
 | _=>False
theorem jG(ha:LE K ta pe)(hb:LE K tb pe'):LE K (qq ta tb) (lh pe pe'):=fun A ρ σ H Q Q' R q k=>ha A ρ σ H _ _ R q fun v H1 p ρ1 q1 f1 o1=>by
 split at q1
 .rename_i c;obtain⟨R1,f⟩:=o1;cases f;refine⟨c,rfl,?_⟩
  cases c with
  | true=>exact hb A ρ1 σ H1 _ _ R1 q1 fun b H2 p2 ρ2 q2 f2 o2=>k b H2 p2 ρ2 q2 (f1.trans f2) (o2.h0 fun b z=>f1.dm b z)
  | false=>exact k _ H1 _ ρ1 q1 f1 ⟨R1,.bl false⟩
 .exact q1.elim
theorem ng(ha:LE K ta pe):LE K (qs ta) (oI pe):=fun A ρ σ H Q Q' R q k=>ha A ρ σ H _ _ R q fun v H1 p ρ1 q1 f1 o1=>by
 split at q1
 .rename_i c;obtain⟨R1,f⟩:=o1;cases f;exact⟨c,rfl,k _ H1 _ ρ1 q1 f1 ⟨R1,.bl (!c)⟩⟩
 .exact q1.elim
end
abbrev F2:=D->D->(PV->Prop)->Prop
def fI0(g:Int->Int->D):F2
 | .int i,.int j,Q=>Q (.dat (g i j))
 | _,_,_=>False
def fI(C:Int->Int->Prop)(g:Int->Int->D):F2
 | .int i,.int j,Q=>C i j/\Q (.dat (g i j))
 | _,_,_=>False
section
variable {K:PySem.W.Frag}{X:Cx}
theorem rn{g:Int->Int->V}{g':Int->Int->D}(h:∀i j O H,FV K O H (g i j) (g' i j)):LO K (rI0 g) (fI0 g'):=by
 intro O H x y a b Q Q' dom fx fy q k;unfold fI0 at q
 split at q
 .rename_i i j;exact⟨i,j,fx.int,fy.int,k _ H _ q (Gr.refl _) (h i j _ _)⟩
 .exact q.elim
theorem tE{C:Int->Int->Prop}{g:Int->Int->V}{g':Int->Int->D}(h:∀i j O H,FV K O H (g i j) (g' i j)):LO K (rI C g) (fI C g'):=by
 intro O H x y a b Q Q' dom fx fy q k;unfold fI at q
 split at q
 .rename_i i j;exact⟨i,j,fx.int,fy.int,q.1,k _ H _ q.2 (Gr.refl _) (h i j _ _)⟩
 .exact q.elim
theorem cC{O:Addr->Prop}{H:Hp}{xs:List V}{ds:List D}{p:Addr}(hp:H p=none)(f:FVs K O H xs ds):iq K O H (upd H p (.lst xs)) (.own ds) (.ref p) :=
 ⟨p,xs,rfl,hp,aF,f.keeps (aK.fresh hp)⟩
theorem i6{O:Addr->Prop}{H:Hp}{xs:List V}{ds:List D}{p:Addr}(dom:∀b,O b->H b≠none)(hp:H p=none)(f:FVs K O H xs ds):iq K O H (upd H p (.tup xs)) (.dat (.tup ds)) (.ref p) :=
 .tup (fun z=>dom p z hp) aF (f.keeps fun b o n e=>⟨n,by rw [ao (aQ e hp)];exact e⟩)
def tF:R2:=fun x y H Q=>∃i j,x=.str (S i)/\y=.str (S j)/\i.length+j.length<=sizeLine/\Q (.str (S (i++j))) H
def oJ(K:PySem.W.Frag):R2:=fun x y H Q=>rI0 (fun i j=>.int (i+j)) x y H Q\/tF x y H Q\/rg K x y H Q\/qK K x y H Q
theorem tG(K:PySem.W.Frag)(e:X.K=K):OpR X (binaryOp .Add) (oJ K):=by
 subst e;exact OpR.or qA (OpR.or oz (OpR.or oF n8))
def tH:F2
 | .int i,.int j,Q=>Q (.dat (.int (i+j)))
 | .str a,.str b,Q=>a.length+b.length<=1000000/\Q (.dat (.str (a++b)))
 | .lst a,.lst b,Q=>a.length+b.length<=1000000/\Q (.own (a++b))
 | .scr a,.lst b,Q=>a.length+b.length<=1000000/\Q (.own (a.map .int++b))
 | .tup a,.tup b,Q=>a≠[]/\a.length+b.length<=1000000/\Q (.dat (.tup (a++b)))
 | _,_,_=>False
theorem nh:LO K (oJ K) tH:=by
 intro O H x y a b Q Q' dom fx fy q k;unfold tH at q
 split at q
 .rename_i i j;exact .inl ⟨i,j,fx.int,fy.int,k _ H _ q (Gr.refl _) (.int _)⟩
 .rename_i i j;exact .inr (.inl ⟨i,j,fx.str.1,fy.str.1,sz _ q.1,k _ H _ q.2 (Gr.refl _) (.str _ (by rw [length_append];exact q.1))⟩)
 .rename_i i j;obtain⟨a,xs,rfl,e1,f1⟩:=fx.lst;obtain⟨b,ys,rfl,e2,f2⟩:=fy.lst;exact .inr (.inr (.inl ⟨a,b,xs,ys,rfl,rfl,SqL.of e1,SqL.of e2,sz _ (by rw [f1.length,f2.length];exact q.1),fun p hp=>k _ _ _ q.2 (Gr.new hp) (cC hp (f1.append f2))⟩))
 .rename_i i j;obtain⟨a,rfl,e1⟩:=fx.scr;obtain⟨b,ys,rfl,e2,f2⟩:=fy.lst;exact .inr (.inr (.inl ⟨a,b,_,ys,rfl,rfl,e1,SqL.of e2,sz _ (by rw [length_map,f2.length];exact q.1),fun p hp=>k _ _ _ q.2 (Gr.new hp) (cC hp ((FVs.of_ints i).append f2))⟩))
 .rename_i i j;obtain⟨a,xs,rfl,n1,e1,f1⟩:=fx.tup;obtain⟨b,ys,rfl,n2,e2,f2⟩:=fy.tup;have l1:=f1.length;have l2:=f2.length
  refine .inr (.inr (.inr ⟨a,b,xs,ys,rfl,rfl,SqT.of e1,SqT.of e2,fun z=>q.1 ?_,sz _ (by rw [l1,l2];exact q.2.1),fun z=>?_,fun _ p hp=>k _ _ _ q.2.2 (Gr.new hp) (i6 dom hp (f1.append f2))⟩))
  .exact length_eq_zero_iff.mp (by rw [<- l1,z];rfl)
  .have:j=[]:=length_eq_zero_iff.mp (by rw [<- l2,z];rfl);subst this;exact k _ H _ q.2.2 (Gr.refl _) (by rw [append_nil];exact .tup n1 e1 f1)
 .exact q.elim
theorem li:LO K (rI0 fun i j=>.int (i - j)) (fI0 fun i j=>.int (i - j)):=rn fun _ _ _ _=>.int _
theorem bi:LO K (rI (fun _ j=>0<j) fun i j=>.int (i % j)) (fI (fun _ j=>0<j) fun i j=>.int (i % j)):=tE fun _ _ _ _=>.int _
theorem i7:LO K (rI sD fun i j=>.int (i / j)) (fI (fun _ j=>0<j/\j<1073741824) fun i j=>.int (i / j)):=tE fun _ _ _ _=>.int _
theorem jH:LO K (rI sE fun i j=>.int (i^j.toNat)) (fI (fun i j=>0<=j/\j<=1000000/\i.natAbs<2^64) fun i j=>.int (i^j.toNat)):=tE fun _ _ _ _=>.int _
def tI:R2:=fun x y H Q=>∃l n,x=.str (S l)/\y=.int n/\-1000000<=n/\n<=1000000/\n.toNat*l.length<=sizeLine/\Q (.str (S (gI l n))) H
def oK:R2:=fun x y H Q=>rI sk (fun i j=>.int (i*j)) x y H Q\/tI x y H Q\/uv x y H Q
theorem eB:OpR X (binaryOp .Mult) oK:=OpR.or qC (OpR.or ka qP)
def i8:F2
 | .int i,.int j,Q=>((-(2^64)<i/\i<2^64)\/(-(2^64)<j/\j<2^64))/\Q (.dat (.int (i*j)))
 | .str a,.int n,Q=>(-1000000<=n/\n<=1000000/\n.toNat*a.length<=1000000)/\Q (.dat (.str (gI a n)))
 | .lst a,.int n,Q=>(-1000000<=n/\n<=1000000/\a.length*n.toNat<=1000000)/\Q (.own (gI a n))
 | _,_,_=>False
theorem FVs.rep{O:Addr->Prop}{H:Hp}{xs:List V}{ds:List D}(f:FVs K O H xs ds):∀n,FVs K O H (List.replicate n xs).flatten (List.replicate n ds).flatten
 | 0=>.nil
 | n+1=>by rw [replicate_succ,replicate_succ,flatten_cons,flatten_cons];exact f.append (f.rep n)
theorem cG:LO K oK i8:=by
 intro O H x y a b Q Q' dom fx fy q k;unfold i8 at q
 split at q
 .rename_i i j;exact .inl ⟨i,j,fx.int,fy.int,q.1,k _ H _ q.2 (Gr.refl _) (.int _)⟩
 .rename_i i j;exact .inr (.inl ⟨i,j,fx.str.1,fy.int,q.1.1,q.1.2.1,sz _ q.1.2.2,k _ H _ q.2 (Gr.refl _) (.str _ (by rw [fu];exact q.1.2.2))⟩)
 .rename_i i j;obtain⟨a,xs,rfl,e1,f1⟩:=fx.lst;exact .inr (.inr ⟨a,j,xs,rfl,fy.int,e1,by omega,by omega,sz _ (by rw [f1.length];exact q.1.2.2),fun p hp=>k _ _ _ q.2 (Gr.new hp) (cC hp (f1.rep _))⟩)
 .exact q.elim
def uA:R2:=fun x y H Q=>rI0 (fun i j=>.bl (decide (i<j))) x y H Q\/∃i j,x=.str i/\y=.str j/\Q (.bl (decide (i.cps.toList<j.cps.toList))) H
def uB:R2:=fun x y H Q=>rI0 (fun i j=>.bl (decide (i<=j))) x y H Q\/∃i j,x=.str i/\y=.str j/\Q (.bl (!decide (j.cps.toList<i.cps.toList))) H
theorem ro:OpR X (compareOp .Lt) uA:=OpR.or sH kC
theorem uC:OpR X (compareOp .LtE) uB:=OpR.or sI kQ
def fLt:F2
 | .int i,.int j,Q=>Q (.dat (.bl (decide (i<j))))
 | .str i,.str j,Q=>Q (.dat (.bl (decide (i<j))))
 | _,_,_=>False
def fLe:F2
 | .int i,.int j,Q=>Q (.dat (.bl (decide (i<=j))))
 | .str i,.str j,Q=>Q (.dat (.bl (!decide (j<i))))
 | _,_,_=>False
theorem lj:LO K uA fLt:=by
 intro O H x y a b Q Q' dom fx fy q k;unfold fLt at q
 split at q
 .rename_i i j;exact .inl ⟨i,j,fx.int,fy.int,k _ H _ q (Gr.refl _) (.bl _)⟩
 .rename_i i j;exact .inr ⟨_,_,fx.str.1,fy.str.1,k _ H _ q (Gr.refl _) (.bl _)⟩
 .exact q.elim
theorem rp:LO K uB fLe:=by
 intro O H x y a b Q Q' dom fx fy q k;unfold fLe at q
 split at q
 .rename_i i j;exact .inl ⟨i,j,fx.int,fy.int,k _ H _ q (Gr.refl _) (.bl _)⟩
 .rename_i i j;exact .inr ⟨_,_,fx.str.1,fy.str.1,k _ H _ q (Gr.refl _) (.bl _)⟩
 .exact q.elim
theorem oM:LO K (rI0 fun i j=>.bl (decide (j<i))) (fI0 fun i j=>.bl (decide (j<i))):=rn fun _ _ _ _=>.bl _
mutual
def D.py:D->PyData
 | .non=>.none|.bl b=>.bool b|.int i=>.int i|.str l=>.str (S l)|.ty _=>.none
 | .lst ds=>.list (D.pys ds)|.tup ds=>.tuple (D.pys ds)|.scr ns=>.list (ns.map .int)|.dic _ _=>.none|.obj _ _ _=>.none|.exc _ _ _=>.none
def D.pys:List D->List PyData
 | []=>[]
 | d::r=>d.py::D.pys r
end
mutual
def D.plain:D->Bool
 | .non=>true|.bl _=>true|.int _=>true|.str _=>true|.ty _=>false
 | .lst ds=>D.plains ds|.tup ds=>D.plains ds|.scr _=>true|.dic _ _=>false|.obj _ _ _=>false|.exc _ _ _=>false
def D.plains:List D->Bool
 | []=>true
 | d::r=>d.plain && D.plains r
end
mutual
theorem FV.dv{O:Addr->Prop}{H:Hp}:∀{v:V}{d:D},FV K O H v d->d.plain=true->DV K H v d.py
 | _,_,.non,_=>.non
 | _,_,.bl b,_=>.bl b
 | _,_,.int i,_=>.int i
 | _,_,.str l h,_=>.str (S l)
 | _,_,.ty n,p=>nomatch p
 | _,_,.scr s,_=>.lst s.sq (DVs.ints _)
 | _,_,.lst n e f,p=>.lst (SqL.of e) (FVs.dvs f p)
 | _,_,.tup n e f,p=>.tup (SqT.of e) (FVs.dvs f p)
 | _,_,.dic _ _ _ _,p=>nomatch p
 | _,_,.obj _ _ _ _,p=>nomatch p
 | _,_,.exc0 _ _,p=>nomatch p
 | _,_,.exc1 _ _ _ _ _ _,p=>nomatch p
theorem FVs.dvs{O:Addr->Prop}{H:Hp}:∀{vs:List V}{ds:List D},FVs K O H vs ds->D.plains ds=true->DVs K H vs (D.pys ds)
 | _,_,.nil,_=>.nil
 | _,_,.cons a b,p=>by
  have p:(_ && _)=true:=p;rw [and_eq_true] at p;exact .cons (FV.dv a p.1) (FVs.dvs b p.2)
end
theorem FVc.dv{O:Addr->Prop}{H:Hp}{v:V}{d:D}(h:FVc K O H v d)(p:d.plain=true):DV K H v d.py:=by
 rcases h with h|⟨a,xs,ds',rfl,rfl,e3,f⟩|⟨a,dx,c,fs,ns,ds',e1,rfl,_⟩
 .exact h.dv p
 .exact .lst (SqL.of e3) (f.dvs p)
 .cases p
def rq(K:PySem.W.Frag)(neg:Bool):R2:=fun x y H Q=>rI0 (fun i j=>.bl (if neg then !decide (i=j) else decide (i=j))) x y H Q\/(∃i j,x=.str (S i)/\y=.str (S j)/\Q (.bl (if neg then !decide (i=j) else decide (i=j))) H)\/sR K neg x y H Q
theorem uU(K:PySem.W.Frag)(e:X.K=K)(hu:X.A.units+64<cLine):OpR X (compareOp .Eq) (rq K false):=by
 subst e;exact OpR.or qZ (OpR.or qX (qU hu))
theorem uV(K:PySem.W.Frag)(e:X.K=K)(hu:X.A.units+64<cLine):OpR X (compareOp .NotEq) (rq K true):=by
 subst e;exact OpR.or q0 (OpR.or qY (qV hu))
def uD(a b:D):Prop:=a.plain=true/\b.plain=true/\SeqAt.shaped a.py=true/\SeqAt.shaped b.py=true
def deq(a b:D):Bool:=PyData.eqv a.py b.py
def fEq:F2
 | .int i,.int j,Q=>Q (.dat (.bl (decide (i=j))))
 | .str i,.str j,Q=>Q (.dat (.bl (decide (i=j))))
 | a,b,Q=>uD a b/\Q (.dat (.bl (deq a b)))
def fNe:F2
 | .int i,.int j,Q=>Q (.dat (.bl (!decide (i=j))))
 | .str i,.str j,Q=>Q (.dat (.bl (!decide (i=j))))
 | a,b,Q=>uD a b/\Q (.dat (.bl (!deq a b)))
theorem tJ:LO K (rq K false) fEq:=by
 intro O H x y a b Q Q' dom fx fy q k;unfold fEq at q
 split at q
 .rename_i i j;exact .inl ⟨i,j,fx.int,fy.int,k _ H _ q (Gr.refl _) (.bl _)⟩
 .rename_i i j;exact .inr (.inl ⟨i,j,fx.str.1,fy.str.1,k _ H _ q (Gr.refl _) (.bl _)⟩)
 .exact .inr (.inr ⟨_,_,fx.dv q.1.1,fy.dv q.1.2.1,q.1.2.2.1,q.1.2.2.2,k _ H _ q.2 (Gr.refl _) (.bl _)⟩)
theorem tK:LO K (rq K true) fNe:=by
 intro O H x y a b Q Q' dom fx fy q k;unfold fNe at q
 split at q
 .rename_i i j;exact .inl ⟨i,j,fx.int,fy.int,k _ H _ q (Gr.refl _) (.bl _)⟩
 .rename_i i j;exact .inr (.inl ⟨i,j,fx.str.1,fy.str.1,k _ H _ q (Gr.refl _) (.bl _)⟩)
 .exact .inr (.inr ⟨_,_,fx.dv q.1.1,fy.dv q.1.2.1,q.1.2.2.1,q.1.2.2.2,k _ H _ q.2 (Gr.refl _) (.bl _)⟩)
def tL(K:PySem.W.Frag):R2:=fun x y H Q=>up K x y H Q\/uq K x y H Q\/qW x y H Q
theorem jI(K:PySem.W.Frag)(e:X.K=K):IxR X (tL K):=by
 subst e;exact IxR.or oi (IxR.or qL oy)
def fIx:F2
 | .lst ds,.int i,Q=>∃d,atI ds i=some d/\Q (.dat d)
 | .tup ds,.int i,Q=>∃d,atI ds i=some d/\Q (.dat d)
 | .scr ns,.int i,Q=>∃d,atI ns i=some d/\Q (.dat (.int d))
 | .str l,.int i,Q=>∃c,atI l i=some c/\Q (.dat (.str [c]))
 | _,_,_=>False
theorem FVs.atI{O:Addr->Prop}{H:Hp}{vs:List V}{ds:List D}{i:Int}{d:D}(f:FVs K O H vs ds)(h:L2.atI ds i=some d):∃v,L2.atI vs i=some v/\FV K O H v d:=by
 unfold L2.atI at h ⊢;rw [f.length]
 cases e:ixN ds.length i with
 | none=>rw [e] at h;cases h
 | some j=>rw [e] at h;exact f.getD h
theorem eg:LO K (tL K) fIx:=by
 intro O H x y a b Q Q' dom fx fy q k;unfold fIx at q
 split at q
 .obtain⟨d,hd,q⟩:=q;obtain⟨p,xs,rfl,e1,f1⟩:=fx.lst;obtain⟨v,hv,fv⟩:=f1.atI hd;exact .inl ⟨p,xs,_,v,rfl,fy.int,SqL.of e1,hv,k _ H _ q (Gr.refl _) fv⟩
 .obtain⟨d,hd,q⟩:=q;obtain⟨p,xs,rfl,n1,e1,f1⟩:=fx.tup;obtain⟨v,hv,fv⟩:=f1.atI hd;exact .inr (.inl ⟨p,xs,_,v,rfl,fy.int,SqT.of e1,hv,k _ H _ q (Gr.refl _) fv⟩)
 .obtain⟨d,hd,q⟩:=q;obtain⟨p,rfl,e1⟩:=fx.scr;exact .inl ⟨p,_,_,_,rfl,fy.int,e1,oA hd,k _ H _ q (Gr.refl _) (.int d)⟩
 .obtain⟨c,hc,q⟩:=q;exact .inr (.inr ⟨_,_,c,fx.str.1,fy.int,sz _ fx.str.2,hc,k _ H _ q (Gr.refl _) (.str _ (by show 1<=1000000;decide))⟩)
 .exact q.elim
end
end L2
namespace L2
open PySem PySem.Spec PyProof.Rows _root_.HT
section
variable {prog:Program}{w:World}{A:Around}{E:Value->Shared->Prop}{s:Shared}
theorem eC{t sl:Addr}{items:Array Value}{vl vu:Value}{lo hi:Option Int}{Q:Value->Shared->Prop}(ht:IsTup s.heap t items)(hs:s.heap.IsSliceOf sl vl vu .none)(pl:IsPart vl lo)(pu:IsPart vu hi)
  (hw:sIx items.size 0 lo=0/\sIx items.size items.size hi=items.size)
  (h:Q (.ref t) s):wpAny (model prog w) A (getItem (.ref t) (.ref sl)) Q E s:=by
 obtain⟨os,hos,hcs,hds⟩:=id hs;have hTs:s.TypeIs (.ref sl) "slice":=⟨os,hos,hcs⟩
 unfold getItem
 try with_reducible refine wpAny_holding ?_
 first|refine wpAny_bind (wpAny_pure ?_)|skip
 refine wpAny_bind (wpAny_sequenceKey ht.typeIs (by decide) ?_)
 refine wpAny_bind (wpAny_callSpecial?_slot (name:=Str.ofString "__getitem__") ht.typeIs PyProof.Rows.slot_tuple_getitem
  (wpAny_call_entry PyProof.Rows.slot_tuple_getitem ht.typeIs entry_tuple_getitem ?_ (args_tuple_getitem _ _)))
 show wpAny _ _ (Builtin.Tuple.tupleItemsOf (.ref t) >>= _) _ _ s;refine wpAny_bind (tupleItemsOf_ ht ?_);refine wpAny_bind (wpAny_typeOf hTs ?_);rw [if_pos (by decide)];refine wpAny_bind (cZ hs pl pu ?_)
 have hyes:(((sIx items.size 0 lo:Nat):Int) == 0 && (1:Int) == 1 && (sIx items.size items.size hi - sIx items.size 0 lo) == items.size)=true:=by
  rw [hw.1,hw.2,sub_zero];simp
 show wpAny _ _ (if (((sIx items.size 0 lo:Nat):Int) == 0 && (1:Int) == 1 && (sIx items.size items.size hi - sIx items.size 0 lo) == items.size)=true then _ else _) _ _ s;rw [if_pos hyes];refine wpAny_bind (m:=Builtin.Tuple.tupleIsExact _) (wpAny_bind (wpAny_typeOf ht.typeIs (wpAny_pure ?_)));rw [if_pos (by decide)]
 first
  | exact wpAny_bind (m:=rule _) (wpAny_pure (wpAny_pure ⟨_,rfl,wpAny_pure h⟩))
  | exact wpAny_pure ⟨_,rfl,wpAny_pure h⟩
  | exact wpAny_bind (wpAny_rule (wpAny_pure ⟨_,rfl,wpAny_pure h⟩))
def rz(K:PySem.W.Frag):V->Option Int->Option Int->Hp->VK->Prop:=fun x lo hi H Q=>∃a xs,x=.ref a/\SqT K H a xs/\(sIx xs.length 0 lo=0/\sIx xs.length xs.length hi=xs.length)/\Q (.ref a) H
theorem oN{X:Cx}:SlR X (rz X.K):=by
 intro pins s σ H x v vl vu lo hi sl Q I rx hs pl pu h;obtain⟨a,xs,rfl,hx,hw,q⟩:=h;cases rx;obtain⟨its,r,ht,hz⟩:=I.tuple hx;have hlen:its.toArray.size=xs.length:=by rw [size_toArray];exact r.length.symm
 refine⟨"tuple",_,PyProof.Rows.slot_tuple_getitem.lookup,ht.typeIs,?_⟩;exact eC ht hs pl pu (by rw [hlen];exact hw) ⟨.ref a,H,I,rfl,q⟩
end
end L2
namespace L2
open PySem PySem.Spec PyProof.Rows
section
variable {K:PySem.W.Frag}{X:Cx}{ta tb tc to:TE}{pa pb pc:PA1}{pe:PTE}{tr:TA}{pr:PTA}
def ni(f f':F2)(pa pb pc:PA1):PTE:=fun ρ Q=>pa ρ fun x ρ1=>pb ρ1 fun y ρ2=>op2 f ρ2 x y fun p ρ3=>match p with
 | .dat (.bl k)=>eO k (pc ρ3 fun z ρ4=>op2 f' ρ4 y z Q) (Q (.dat (.bl false)) ρ3)
 | _=>False
theorem mB{r r':R2}{f f':F2}(o:LO K r f)(o':LO K r' f')(ha:LA1 K ta pa)(hb:LA1 K tb pb)(hc:LA1 K tc pc):LE K (m5 r r' ta tb tc) (ni f f' pa pb pc):=fun A ρ σ H Q Q' R q k =>
 ha A ρ σ H _ _ R q fun v H1 a ρ1 q1 f1 R1 o1=>hb A ρ1 σ H1 _ _ R1 q1 fun w H2 b ρ2 q2 f2 R2 o2=>by
  unfold op2 at q2
  split at q2
  .rename_i da db e1 e2;refine o _ H2 v w da db _ _ R2.dom2 (R2.cont (o1.keeps f2.keeps) e1) (R2.cont o2 e2) q2 fun z H3 p q3 g ov=>?_;dsimp only at q3
   split at q3
   .rename_i c;cases ov;refine⟨c,rfl,?_⟩;have R3:=R2.gr g
    cases c with
    | true =>
     refine hc A ρ2 σ H3 _ _ R3 q3 fun u H4 cc ρ4 q4 f4 R4 o4=>?_
     try unfold op2 at q4
     split at q4
     .rename_i dc dd e3 e4;have o2':AOk K (OO A ρ4 σ) σ H4 b w:=(o2.keeps (g.fr (ρ:=ρ2) (σ:=σ)).keeps).keeps f4.keeps;exact o' _ H4 w u _ _ _ _ R4.dom2 (R4.cont o2' e3) (R4.cont o4 e4) q4 fun z H5 p q5 g5 ov=>k z H5 p ρ4 q5 ((((f1.trans f2).trans g.fr).trans f4).trans g5.fr) ((ov.out R4 g5).h0 fun b z=>f4.dm b ((g.fr (ρ:=ρ2) (σ:=σ)).dm b (f2.dm b (f1.dm b z))))
     .exact q4.elim
    | false=>exact k _ H3 _ ρ2 q3 ((f1.trans f2).trans g.fr) ⟨R3,.bl false⟩
   .exact q3.elim
  .exact q2.elim
abbrev PTO:=PSt->(Option Int->PSt->Prop)->Prop
def LPo(K:PySem.W.Frag)(t:TO)(p:PTO):Prop:=∀(A:Addr->Prop) (ρ:PSt) (σ:St) (H:Hp) (Q:Option Int->PSt->Prop) (Q':Option Int->Hp->Prop),Rel K A ρ σ H->p ρ Q ->
 (∀b H' ρ',Q b ρ'->Fr ρ σ H ρ' H'->Rel K A ρ' σ H'->Q' b H')->t σ H Q'
def dz:PTO:=fun ρ Q=>Q none ρ
def cr(pe:PTE):PTO:=fun ρ Q=>pe ρ fun p ρ1=>match p with
 | .dat (.int i)=>Q (some i) ρ1
 | _=>False
theorem cb:LPo K kJ dz:=fun A ρ σ H Q Q' R q k=>k none H ρ q (Fr.refl _ _ _) R
theorem bz(h:LE K ta pe):LPo K (qI ta) (cr pe):=fun A ρ σ H Q Q' R q k=>h A ρ σ H _ _ R q fun v H1 p ρ1 q1 f1 o1=>by
 split at q1
 .rename_i i;obtain⟨R1,f⟩:=o1;cases f;exact⟨i,rfl,k _ H1 ρ1 q1 f1 R1⟩
 .exact q1.elim
def tM(K:PySem.W.Frag):V->Option Int->Option Int->Hp->VK->Prop:=fun x lo hi H Q=>ur K x lo hi H Q\/uw x lo hi H Q\/uo K x lo hi H Q\/rz K x lo hi H Q
theorem ll(K:PySem.W.Frag)(e:X.K=K):SlR X (tM K):=by
 subst e;exact SlR.or oj (SlR.or qT (SlR.or qJ oN))
def fSl:D->Option Int->Option Int->(PV->Prop)->Prop
 | .lst ds,lo,hi,Q=>Q (.own (dW ds lo hi))
 | .scr ns,lo,hi,Q=>Q (.own ((dW ns lo hi).map .int))
 | .str l,lo,hi,Q=>Q (.dat (.str (dW l lo hi)))
 | .tup ds,lo,hi,Q=>Q (.dat (.tup (dW ds lo hi)))
 | _,_,_,_=>False
theorem FVs.cut{O:Addr->Prop}{H:Hp}{xs:List V}{ds:List D}(f:FVs K O H xs ds)(lo hi:Option Int):FVs K O H (dW xs lo hi) (dW ds lo hi):=by
 unfold dW;rw [f.length];exact (f.drop _).take _
def c5(pa:PA1)(pl ph:PTO):PTE:=fun ρ Q=>pa ρ fun x ρ1=>pl ρ1 fun lo ρ2=>ph ρ2 fun hi ρ3=>match cont ρ3 x with
 | some d=>fSl d lo hi fun p=>Q p ρ3
 | _=>False
theorem oO{α:Type}{ds:List α}{lo hi:Option Int}{n:Nat}(h:n=ds.length)(hw:HT.sIx n 0 lo=0/\HT.sIx n n hi=n):dW ds lo hi=ds:=by
 subst h;unfold dW;rw [hw.1,hw.2,drop_zero,sub_zero,take_length]
theorem lsl{O:Addr->Prop}{H:Hp}{x:V}{d:D}{lo hi:Option Int}{Q:PV->Prop}{Q':VK}(dom:∀b,O b->H b≠none)(fx:FVc K O H x d)(q:fSl d lo hi Q)(k:∀v H' p,Q p->Gr H H'->iq K O H H' p v->Q' v H'):tM K x lo hi H Q':=by
 unfold fSl at q
 split at q
 .obtain⟨a,xs,rfl,e1,f1⟩:=fx.lst;exact .inl ⟨a,xs,rfl,SqL.of e1,fun p hp=>k _ _ _ q (Gr.new hp) (cC hp (f1.cut _ _))⟩
 .obtain⟨a,rfl,e1⟩:=fx.scr;exact .inl ⟨a,_,rfl,e1,fun p hp=>k _ _ _ q (Gr.new hp) (cC hp (by rw [kN,mn];exact FVs.of_ints _))⟩
 .exact .inr (.inl ⟨_,fx.str.1,sz _ fx.str.2,k _ H _ q (Gr.refl _) (.str _ (le_trans (bS _ _ _) fx.str.2))⟩)
 .obtain⟨a,xs,rfl,n1,e1,f1⟩:=fx.tup
  by_cases hw:HT.sIx xs.length 0 lo=0/\HT.sIx xs.length xs.length hi=xs.length
  .refine .inr (.inr (.inr ⟨a,xs,rfl,SqT.of e1,hw,k _ H _ q (Gr.refl _) ?_⟩));rw [oO f1.length hw];exact .tup n1 e1 f1
  .exact .inr (.inr (.inl ⟨a,xs,rfl,SqT.of e1,hw,fun p hp=>k _ _ _ q (Gr.new hp) (i6 dom hp (f1.cut _ _))⟩))
 .exact q.elim
theorem bJ{tl th:TO}{pl ph:PTO}(ha:LA1 K ta pa)(hl:LPo K tl pl)(hh:LPo K th ph):LE K (tSl (tM K) ta tl th) (c5 pa pl ph):=fun A ρ σ H Q Q' R q k =>
 ha A ρ σ H _ _ R q fun v H1 a ρ1 q1 f1 R1 o1=>hl A ρ1 σ H1 _ _ R1 q1 fun lo H2 ρ2 q2 f2 R2=>hh A ρ2 σ H2 _ _ R2 q2 fun hi H3 ρ3 q3 f3 R3=>by
  split at q3
  .rename_i d e1;exact lsl R3.dom2 (R3.cont (o1.keeps (f2.trans f3).keeps) e1) q3 fun z H4 p q4 g ov=>k z H4 p ρ3 q4 (((f1.trans f2).trans f3).trans g.fr) ((ov.out R3 g).h0 fun b z=>f3.dm b (f2.dm b (f1.dm b z)))
  .exact q3.elim
abbrev FN:=List D->(PV->Prop)->Prop
def rA(K:PySem.W.Frag):List V->Hp->VK->Prop:=fun xs H Q=>(∃l,xs=[.str (S l)]/\l.length<=sizeLine/\Q (.int l.length) H)\/sY K xs H Q\/sZ K xs H Q\/∃p kvs,xs=[.ref p]/\Rd H p (.dK kvs)/\Q (.int kvs.length) H
theorem eE(K:PySem.W.Frag)(e:X.K=K):bG X (.builtin "len") (rA K):=by
 subst e;exact bG.or kS (bG.or kT (bG.or kU lb))
def i9:FN
 | [.str l],Q=>Q (.dat (.int l.length))
 | [.lst l],Q=>Q (.dat (.int l.length))
 | [.tup l],Q=>Q (.dat (.int l.length))
 | [.scr l],Q=>Q (.dat (.int l.length))
 | [.dic ks _],Q=>Q (.dat (.int ks.length))
 | _,_=>False
theorem cH:LC K (rA K) i9:=by
 intro O H xs as Q Q' dom fs q k;unfold i9 at q
 split at q
 .cases fs with|cons a b=>cases b;rw [a.str.1];exact .inl ⟨_,rfl,sz _ a.str.2,k _ H _ q (Gr.refl _) (.int _)⟩
 .cases fs with
  | cons a b =>
   cases b;obtain⟨p,ys,rfl,e1,f1⟩:=a.lst;exact .inr (.inl ⟨p,ys,rfl,SqL.of e1,by rw [f1.length];exact k _ H _ q (Gr.refl _) (.int _)⟩)
 .cases fs with
  | cons a b =>
   cases b;obtain⟨p,ys,rfl,n1,e1,f1⟩:=a.tup;exact .inr (.inr (.inl ⟨p,ys,rfl,SqT.of e1,by rw [f1.length];exact k _ H _ q (Gr.refl _) (.int _)⟩))
 .cases fs with
  | cons a b =>
   cases b;obtain⟨p,rfl,e1⟩:=a.scr;exact .inr (.inl ⟨p,_,rfl,e1,by rw [length_map];exact k _ H _ q (Gr.refl _) (.int _)⟩)
 .cases fs with
  | cons a b =>
   cases b
   cases a.fv nofun nofun with
   | dic n e m f=>subst m;exact .inr (.inr (.inr ⟨_,_,rfl,.inl e,k _ H _ q (Gr.refl _) (by rw [length_map];exact .int _)⟩))
 .exact q.elim
inductive Kd where
 | int|bool|str|list|tuple|dict
def Kd.nm:Kd->String
 | .int=>"int"|.bool=>"bool"|.str=>"str"|.list=>"list"|.tuple=>"tuple"|.dict=>"dict"
def isK:Kd->D->Bool
 | .int,.int _=>true
 | .int,.bl _=>true
 | .bool,.bl _=>true
 | .str,.str _=>true
 | .list,.lst _=>true
 | .tuple,.tup _=>true
 | .dict,.dic _ _=>true
 | _,_=>false
def D.sort:D->Bool
 | .obj _ _ _=>false
 | .exc _ _ _=>false
 | .scr _=>false
 | .ty _=>false
 | _=>true
theorem FVc.ty{O:Addr->Prop}{H:Hp}{v:V}{d:D}(h:FVc K O H v d)(s:d.sort=true):∃t,iV K H v t/\∀k:Kd,PySem.W.kitOne K t (.type k.nm)=some (isK k d):=by
 rcases h with h|⟨a,xs,ds',rfl,rfl,e3,f⟩|⟨a,dx,c,fs,ns,ds',rfl,rfl,_⟩
 .cases h with
  | non=>exact⟨_,.non,fun k=>by cases k <;> rfl⟩
  | bl b=>exact⟨_,.bl b,fun k=>by cases k <;> rfl⟩
  | int i=>exact⟨_,.int i,fun k=>by cases k <;> rfl⟩
  | str l h=>exact⟨_,.str _,fun k=>by cases k <;> rfl⟩
  | ty n=>cases s
  | scr _=>cases s
  | lst n e f=>exact⟨_,.lst e,fun k=>by cases k <;> rfl⟩
  | tup n e f=>exact⟨_,.tup e,fun k=>by cases k <;> rfl⟩
  | dic n e m f=>exact⟨_,.dK e,fun k=>by cases k <;> rfl⟩
  | obj _ _ _ _=>cases s
  | exc0 _ _=>cases s
  | exc1 _ _ _ _ _ _=>cases s
 .exact⟨_,.lst e3,fun k=>by cases k <;> rfl⟩
 .cases s
theorem oP(K:PySem.W.Frag)(e:X.K=K):bG X (.builtin "isinstance") (ux K):=by subst e;exact iY
def sm(k:Kd)(pa:PA1):PTE:=fun ρ Q=>pa ρ fun x ρ1=>match cont ρ1 x with
 | some d=>eO d.sort (Q (.dat (.bl (isK k d))) ρ1) False
 | _=>False
theorem lm(k:Kd)(ha:LA1 K ta pa):LE K (tCB (ux K) (dX ta (dX (tC (.ty k.nm)) me))) (sm k pa):=fun A ρ σ H Q Q' R q kk =>
 ha A ρ σ H _ _ R q fun v H1 a ρ1 q1 f1 R1 o1=>by
  split at q1
  .rename_i d e1
   cases hs:d.sort with
   | false=>rw [hs] at q1;exact q1.elim
   | true =>
    rw [hs] at q1;obtain⟨t,ty,hk⟩:=(R1.cont o1 e1).ty hs;exact⟨v,k.nm,t,isK k d,rfl,ty,hk k,kk _ H1 _ ρ1 q1 f1 ⟨R1,.bl _⟩⟩
  .exact q1.elim
end
structure mC where
 nx:PSt->Prop
 rt:PV->PSt->Prop
 bk:PSt->Prop:=fun _=>False
 ct:PSt->Prop:=fun _=>False
abbrev PTS:=mC->PSt->Prop
structure bU (fx:List (Nat×V)) (R:Addr->Prop) (H0:Hp) (ρ:PSt) (σ:St) (H:Hp):Prop where
 kp:∀b o,¬ R b->H0 b=some o->H b=some o
 dm:∀b,H0 b≠none->H b≠none
 ow:∀b,Wr ρ σ b->R b\/H0 b=none
 fx:∀p∈fx,σ[p.1]?=some (some p.2)
section
variable {K:PySem.W.Frag}{fx:List (Nat×V)}{A R:Addr->Prop}{H0 H H':Hp}{ρ ρ':PSt}{σ:St}
theorem bU.fr(F:bU fx R H0 ρ σ H)(f:Fr ρ σ H ρ' H'):bU fx R H0 ρ' σ H' :=
 ⟨fun b o n e=>f.kp b o (fun w=>(F.ow b w).elim n (fun z=>by rw [z] at e;cases e)) (F.kp b o n e),fun b z=>f.dm b (F.dm b z),fun b w=>F.ow b (f.ow b w),F.fx⟩
theorem bU.start(hfx:∀p∈fx,σ[p.1]?=some (some p.2)):bU fx (Wr ρ σ) H ρ σ H:=⟨fun _ _ _ h=>h,fun _ h=>h,fun _ h=>.inl h,hfx⟩
theorem bU.keepsR{ρ1:PSt}{σ1:St}{H1:Hp}(F:bU fx R H1 ρ σ H)(hR:∀b,R b->OO A ρ1 σ1 b):aK (OO A ρ1 σ1) H1 (OO A ρ σ) H:=fun b o n e=>by
 refine⟨fun z=>?_,F.kp b o (fun z=>n (hR b z)) e⟩
 rcases z with z|z
 .exact n (.inl z)
 .rcases F.ow b z with z|z
  .exact n (hR b z)
  .rw [z] at e;cases e
theorem bU.keeps{ρ1:PSt}{σ1:St}{H1:Hp}(F:bU fx (Wr ρ1 σ1) H1 ρ σ H):aK (OO A ρ1 σ1) H1 (OO A ρ σ) H:=F.keepsR fun b z=>.inr z
theorem bU.trans{fx':List (Nat×V)}{ρ1:PSt}{σ1:St}{H1:Hp}(F:bU fx R H0 ρ1 σ1 H1)(G:bU fx' (Wr ρ1 σ1) H1 ρ σ H)(hfx:∀p∈fx,σ[p.1]?=some (some p.2)):bU fx R H0 ρ σ H:=by
 refine⟨fun b o n e=>G.kp b o (fun w=>(F.ow b w).elim n (fun z=>by rw [z] at e;cases e)) (F.kp b o n e),fun b z=>G.dm b (F.dm b z),fun b w=>?_,hfx⟩
 rcases G.ow b w with z|z
 .exact F.ow b z
 .refine .inr ?_
  cases e:H0 b with
  | none=>rfl
  | some o=>exact absurd z (F.dm b (by rw [e];exact nofun))
theorem Out.put{p:PV}{v:V}{i:Nat}(h:Out K A ρ σ H0 H p v):Rel K A (ρ.set i (some p)) (σ.set i (some v)) H/\∀b,Wr (ρ.set i (some p)) (σ.set i (some v)) b->Wr ρ σ b\/H0 b=none:=by
 have get:∀(j:Nat) (q:PV),(ρ.set i (some p))[j]?=some (some q)->(j=i/\q=p/\i<ρ.length)\/(j≠i/\ρ[j]?=some (some q)):=fun j q e=>by
  by_cases z:i=j
  .subst z
   by_cases hi:i<ρ.length
   .rw [getElem?_set_self hi] at e;cases e;exact .inl ⟨rfl,rfl,hi⟩
   .rw [getElem?_eq_none (by rw [length_set];omega)] at e;cases e
  .rw [getElem?_set_ne z] at e;exact .inr ⟨fun q=>z q.symm,e⟩
 cases p with
 | dat d =>
  obtain⟨R1,f⟩:=h
  have ow:∀b,Wr (ρ.set i (some (.dat d))) (σ.set i (some v)) b->Wr ρ σ b:=fun b ⟨j,r,e1,o1,s1⟩=>by
   rcases get j r e1 with ⟨_,rfl,_⟩|⟨n,e⟩
   .cases o1
   .rw [getElem?_set_ne (fun z=>n z.symm)] at s1;exact⟨j,r,e,o1,s1⟩
  have k:aK (OO A ρ σ) H (OO A (ρ.set i (some (.dat d))) (σ.set i (some v))) H:=aK.less fun b z=>z.imp id (ow b)
  refine⟨⟨by rw [length_set,length_set];exact R1.len,fun j r e1=>?_,fun j l p1 q1 v' e1 e2 o1 o2 s1 s2=>?_,R1.dom,fun b z w=>R1.sep b z (ow b w)⟩,fun b w=>.inl (ow b w)⟩
  .rcases get j r e1 with ⟨rfl,rfl,hi⟩|⟨n,e⟩
   .exact⟨v,getElem?_set_self (by rw [<- R1.len];exact hi),f.keeps k⟩
   .obtain⟨u,s,r'⟩:=R1.get j r e;exact⟨u,by rw [getElem?_set_ne (fun z=>n z.symm)];exact s,r'.keeps k fun _ _ _=>rfl⟩
  .rcases get j p1 e1 with ⟨_,rfl,_⟩|⟨n1,e1⟩
   .cases o1
   .rcases get l q1 e2 with ⟨_,rfl,_⟩|⟨n2,e2⟩
    .cases o2
    .rw [getElem?_set_ne (fun z=>n1 z.symm)] at s1;rw [getElem?_set_ne (fun z=>n2 z.symm)] at s2;exact R1.dj j l p1 q1 v' e1 e2 o1 o2 s1 s2
 | own ds =>
  obtain⟨a,xs,rfl,na,hn,e0,R1,f⟩:=h
  have ow:∀b,Wr (ρ.set i (some (.own ds))) (σ.set i (some (.ref a))) b->Wr ρ σ b\/b=a:=fun b ⟨j,r,e1,o1,s1⟩=>by
   rcases get j r e1 with ⟨rfl,rfl,hi⟩|⟨n,e⟩
   .rw [getElem?_set_self (by rw [<- R1.len];exact hi)] at s1;cases s1;exact .inr rfl
   .rw [getElem?_set_ne (fun z=>n z.symm)] at s1;exact .inl ⟨j,r,e,o1,s1⟩
  have k:aK (OO (c8 A a) ρ σ) H (OO A (ρ.set i (some (.own ds))) (σ.set i (some (.ref a)))) H:=aK.less fun b z=>by
   rcases z with z|z
   .exact .inl (.inl z)
   .rcases ow b z with z|z
    .exact .inr z
    .exact .inl (.inr z)
  refine⟨⟨by rw [length_set,length_set];exact R1.len,fun j r e1=>?_,fun j l p1 q1 v' e1 e2 o1 o2 s1 s2=>?_,fun b z=>R1.dom b (.inl z),fun b z w=>?_⟩,fun b w=>(ow b w).imp id fun z=>by rw [z];exact hn⟩
  .rcases get j r e1 with ⟨rfl,rfl,hi⟩|⟨n,e⟩
   .exact⟨_,getElem?_set_self (by rw [<- R1.len];exact hi),a,xs,rfl,e0,f.keeps k⟩
   .obtain⟨u,s,r'⟩:=R1.get j r e;exact⟨u,by rw [getElem?_set_ne (fun z=>n z.symm)];exact s,r'.keeps k fun _ _ _=>rfl⟩
  .rcases get j p1 e1 with ⟨rfl,rfl,hi⟩|⟨n1,e1'⟩
   .rw [getElem?_set_self (by rw [<- R1.len];exact hi)] at s1;cases s1
    rcases get l q1 e2 with ⟨rfl,rfl,_⟩|⟨n2,e2⟩
    .rfl
    .rw [getElem?_set_ne (fun z=>n2 z.symm)] at s2;exact absurd ⟨l,q1,e2,o2,s2⟩ (R1.sep a (.inr rfl))
   .rw [getElem?_set_ne (fun z=>n1 z.symm)] at s1
    rcases get l q1 e2 with ⟨rfl,rfl,hi⟩|⟨n2,e2⟩
    .rw [getElem?_set_self (by rw [<- R1.len];exact hi)] at s2;cases s2;exact absurd ⟨j,p1,e1',o1,s1⟩ (R1.sep a (.inr rfl))
    .rw [getElem?_set_ne (fun z=>n2 z.symm)] at s2;exact R1.dj j l p1 q1 v' e1' e2 o1 o2 s1 s2
  .rcases ow b w with w|w
   .exact R1.sep b (.inl z) w
   .rw [w] at z;exact na z
 | ins c ns ds =>
  obtain⟨a,dx,fs,rfl,na,hn,e0,m,R1,f⟩:=h
  have ow:∀b,Wr (ρ.set i (some (.ins c ns ds))) (σ.set i (some (.ref a))) b->Wr ρ σ b\/b=a:=fun b ⟨j,r,e1,o1,s1⟩=>by
   rcases get j r e1 with ⟨rfl,rfl,hi⟩|⟨n,e⟩
   .rw [getElem?_set_self (by rw [<- R1.len];exact hi)] at s1;cases s1;exact .inr rfl
   .rw [getElem?_set_ne (fun z=>n z.symm)] at s1;exact .inl ⟨j,r,e,o1,s1⟩
  have k:aK (OO (c8 A a) ρ σ) H (OO A (ρ.set i (some (.ins c ns ds))) (σ.set i (some (.ref a)))) H:=aK.less fun b z=>by
   rcases z with z|z
   .exact .inl (.inl z)
   .rcases ow b z with z|z
    .exact .inr z
    .exact .inl (.inr z)
  refine⟨⟨by rw [length_set,length_set];exact R1.len,fun j r e1=>?_,fun j l p1 q1 v' e1 e2 o1 o2 s1 s2=>?_,fun b z=>R1.dom b (.inl z),fun b z w=>?_⟩,fun b w=>(ow b w).imp id fun z=>by rw [z];exact hn⟩
  .rcases get j r e1 with ⟨rfl,rfl,hi⟩|⟨n,e⟩
   .exact⟨_,getElem?_set_self (by rw [<- R1.len];exact hi),a,dx,fs,rfl,e0,m,f.keeps k⟩
   .obtain⟨u,s,r'⟩:=R1.get j r e;exact⟨u,by rw [getElem?_set_ne (fun z=>n z.symm)];exact s,r'.keeps k fun _ _ _=>rfl⟩
  .rcases get j p1 e1 with ⟨rfl,rfl,hi⟩|⟨n1,e1'⟩
   .rw [getElem?_set_self (by rw [<- R1.len];exact hi)] at s1;cases s1
    rcases get l q1 e2 with ⟨rfl,rfl,_⟩|⟨n2,e2⟩
    .rfl
    .rw [getElem?_set_ne (fun z=>n2 z.symm)] at s2;exact absurd ⟨l,q1,e2,o2,s2⟩ (R1.sep a (.inr rfl))
   .rw [getElem?_set_ne (fun z=>n1 z.symm)] at s1
    rcases get l q1 e2 with ⟨rfl,rfl,hi⟩|⟨n2,e2⟩
    .rw [getElem?_set_self (by rw [<- R1.len];exact hi)] at s2;cases s2;exact absurd ⟨j,p1,e1',o1,s1⟩ (R1.sep a (.inr rfl))
    .rw [getElem?_set_ne (fun z=>n2 z.symm)] at s2;exact R1.dj j l p1 q1 v' e1' e2 o1 o2 s1 s2
  .rcases ow b w with w|w
   .exact R1.sep b (.inl z) w
   .rw [w] at z;exact na z
end
abbrev PTG:=PV->PSt->(PSt->Prop)->Prop
abbrev oQ:=List D->PSt->(PSt->Prop)->Prop
def LG(K:PySem.W.Frag)(fs:List Nat)(g:TG)(pg:PTG):Prop:=∀(fx:List (Nat×V)) (A R:Addr->Prop) (H0:Hp) (ρ:PSt) (σ:St) (H:Hp) (p:PV) (v:V) (Q:PSt->Prop) (Q':St->Hp->Prop),fx.map Prod.fst=fs->bU fx R H0 ρ σ H->Out K A ρ σ H0 H p v->pg p ρ Q ->
 (∀ρ' σ' H',Q ρ'->Rel K A ρ' σ' H'->bU fx R H0 ρ' σ' H'->Q' σ' H')->g v σ H Q'
def LGs(K:PySem.W.Frag)(fs:List Nat)(g:TGs)(pg:oQ):Prop:=∀(fx:List (Nat×V)) (A R:Addr->Prop) (H0:Hp) (ρ:PSt) (σ:St) (H:Hp) (ds:List D) (vs:List V) (Q:PSt->Prop) (Q':St->Hp->Prop),fx.map Prod.fst=fs->bU fx R H0 ρ σ H->Rel K A ρ σ H->FVs K (OO A ρ σ) H vs ds->pg ds ρ Q ->
 (∀ρ' σ',Q ρ'->Rel K A ρ' σ' H->bU fx R H0 ρ' σ' H->(∀b,Wr ρ' σ' b->Wr ρ σ b)->Q' σ' H)->g vs σ H Q'
def LGd(K:PySem.W.Frag)(fs:List Nat)(g:TG)(pg:PTG):Prop:=∀(fx:List (Nat×V)) (A R:Addr->Prop) (H0:Hp) (ρ:PSt) (σ:St) (H:Hp) (d:D) (v:V) (Q:PSt->Prop) (Q':St->Hp->Prop),fx.map Prod.fst=fs->bU fx R H0 ρ σ H->Rel K A ρ σ H->FV K (OO A ρ σ) H v d->pg (.dat d) ρ Q ->
 (∀ρ' σ',Q ρ'->Rel K A ρ' σ' H->bU fx R H0 ρ' σ' H->(∀b,Wr ρ' σ' b->Wr ρ σ b)->Q' σ' H)->g v σ H Q'
def au(i:Nat):PTG:=fun p ρ Q=>Q (ρ.set i (some p))
def oR:oQ:=fun ds ρ Q=>match ds with|[]=>Q ρ|_=>False
def iu(g:PTG)(gs:oQ):oQ:=fun ds ρ Q=>match ds with|d::r=>g (.dat d) ρ fun ρ1=>gs r ρ1 Q|[]=>False
section
variable {K:PySem.W.Frag}{fs:List Nat}
theorem bU.put{fx:List (Nat×V)}{R:Addr->Prop}{H0 H:Hp}{ρ:PSt}{σ:St}{i:Nat}{p:PV}{v:V}(hf:fx.map Prod.fst=fs)(hi:fs.contains i=false)(F:bU fx R H0 ρ σ H)(ow:∀b,Wr (ρ.set i (some p)) (σ.set i (some v)) b->Wr ρ σ b\/H0 b=none):bU fx R H0 (ρ.set i (some p)) (σ.set i (some v)) H :=
 ⟨F.kp,F.dm,fun b w=>(ow b w).elim (F.ow b) .inr,fun q hq=>by
  have:q.1≠i:=fun z=>by
   have h1:i∈fs:=by rw [<- hf,<- z];exact mem_map_of_mem hq
   rw [contains_iff_mem.mpr h1] at hi;cases hi
  rw [getElem?_set_ne (fun z=>this z.symm)];exact F.fx q hq⟩
theorem ar{i:Nat}(hi:fs.contains i=false):LG K fs (kt i) (au i):=fun fx A R H0 ρ σ H p v Q Q' hf F o q k=>k _ _ _ q o.put.1 (F.put hf hi o.put.2)
theorem oS:LGs K fs uh oR:=fun fx A R H0 ρ σ H ds vs Q Q' hf F r fv q k=>by
 unfold oR at q
 split at q
 .cases fv;exact⟨rfl,k _ _ q r F fun _ h=>h⟩
 .exact q.elim
theorem bV{i:Nat}(hi:fs.contains i=false):LGd K fs (kt i) (au i):=fun fx A R H0 ρ σ H d v Q Q' hf F r fv q k=>by
 have o:Out K A ρ σ H0 H (.dat d) v:=⟨r,fv⟩
 have ow:∀b,Wr (ρ.set i (some (.dat d))) (σ.set i (some v)) b->Wr ρ σ b:=fun b ⟨j,p,e1,o1,s1⟩=>by
  by_cases z:i=j
  .subst z
   by_cases hl:i<ρ.length
   .rw [getElem?_set_self hl] at e1;cases e1;cases o1
   .rw [getElem?_eq_none (by rw [length_set];omega)] at e1;cases e1
  .rw [getElem?_set_ne z] at e1 s1;exact⟨j,p,e1,o1,s1⟩
 exact k _ _ q o.put.1 (F.put hf hi o.put.2) ow
theorem gP{g:TG}{pg:PTG}{gs:TGs}{pgs:oQ}(hg:LGd K fs g pg)(h:LGs K fs gs pgs):LGs K fs (qu g gs) (iu pg pgs):=fun fx A R H0 ρ σ H ds vs Q Q' hf F r fv q k=>by
 unfold iu at q
 split at q
 .cases fv with
  | cons a b =>
   exact⟨_,_,rfl,hg fx A R H0 ρ σ H _ _ _ _ hf F r a q fun ρ1 σ1 q1 r1 F1 w1=>h fx A R H0 ρ1 σ1 H _ _ _ _ hf F1 r1 (b.keeps (aK.less fun b z=>z.imp id (w1 b))) q1 fun ρ2 σ2 q2 r2 F2 w2=>k ρ2 σ2 q2 r2 F2 fun b z=>w1 b (w2 b z)⟩
 .exact q.elim
end
def LS(K:PySem.W.Frag)(fs:List Nat)(ts:TS)(ps:PTS):Prop:=∀(fx:List (Nat×V)) (A R:Addr->Prop) (H0:Hp) (ρ:PSt) (σ:St) (H:Hp) (D:mC) (D':lU),fx.map Prod.fst=fs->Rel K A ρ σ H->bU fx R H0 ρ σ H->ps D ρ ->
 (∀ρ' σ' H',D.nx ρ'->Rel K A ρ' σ' H'->bU fx R H0 ρ' σ' H'->D'.nx σ' H') ->
 (∀v p ρ' σ' H',D.rt p ρ'->Out K A ρ' σ' H0 H' p v->bU fx R H0 ρ' σ' H'->D'.rt v H') ->
 (∀ρ' σ' H',D.bk ρ'->Rel K A ρ' σ' H'->bU fx R H0 ρ' σ' H'->D'.bk σ' H') ->
 (∀ρ' σ' H',D.ct ρ'->Rel K A ρ' σ' H'->bU fx R H0 ρ' σ' H'->D'.ct σ' H')->ts D' σ H
def b8:PTS:=fun D ρ=>D.nx ρ
def aJ(a b:PTS):PTS:=fun D ρ=>a { D with nx:=b D } ρ
def ln(pe:PTE):PTS:=fun D ρ=>pe ρ fun _ ρ1=>D.nx ρ1
def ce(pe:PTE):PTS:=fun D ρ=>pe ρ D.rt
def hU(t:PTT)(a b:PTS):PTS:=fun D ρ=>t ρ fun c ρ1=>eO c (a D ρ1) (b D ρ1)
def aR(pe:PTE)(g:PTG):PTS:=fun D ρ=>pe ρ fun p ρ1=>g p ρ1 D.nx
def dA(a:PTS):PTS:=fun D ρ=>∃J:PSt->Prop,a { D with nx:=J } ρ/\∀ρ',J ρ'->D.nx ρ'
section
variable {K:PySem.W.Frag}{fs:List Nat}{ta tb:TS}{pa pb:PTS}{te:TE}{pe:PTE}{tt:TT}{pt:PTT}
theorem bE:LS K fs l8 b8:=fun fx A R H0 ρ σ H D D' hf r F q k1 k2 k3 k4=>k1 _ _ _ q r F
theorem aw(ha:LS K fs ta pa)(hb:LS K fs tb pb):LS K fs (qt ta tb) (aJ pa pb):=fun fx A R H0 ρ σ H D D' hf r F q k1 k2 k3 k4 =>
 ha fx A R H0 ρ σ H _ _ hf r F q (fun ρ1 σ1 H1 q1 r1 F1=>hb fx A R H0 ρ1 σ1 H1 _ _ hf r1 F1 q1 k1 k2 k3 k4) k2 k3 k4
theorem lp(h:LE K te pe):LS K fs (l9 te) (ln pe):=fun fx A R H0 ρ σ H D D' hf r F q k1 k2 k3 k4=>h A ρ σ H _ _ r q fun v H1 p ρ1 q1 f1 o1=>k1 _ _ _ q1 o1.frz.1 (F.fr f1)
theorem br(h:LE K te pe):LS K fs (ug te) (ce pe):=fun fx A R H0 ρ σ H D D' hf r F q k1 k2 k3 k4=>h A ρ σ H _ _ r q fun v H1 p ρ1 q1 f1 o1=>k2 v p ρ1 σ H1 q1 (o1.h0 F.dm) (F.fr f1)
theorem dN(ht:LT K tt pt)(ha:LS K fs ta pa)(hb:LS K fs tb pb):LS K fs (si tt ta tb) (hU pt pa pb):=fun fx A R H0 ρ σ H D D' hf r F q k1 k2 k3 k4=>ht A ρ σ H _ _ r q fun c H1 ρ1 q1 f1 r1=>by
 cases c with
 | true=>exact ha fx A R H0 ρ1 σ H1 D D' hf r1 (F.fr f1) q1 k1 k2 k3 k4
 | false=>exact hb fx A R H0 ρ1 σ H1 D D' hf r1 (F.fr f1) q1 k1 k2 k3 k4
theorem aB{g:TG}{pg:PTG}(h:LE K te pe)(hg:LG K fs g pg):LS K fs (sj te g) (aR pe pg):=fun fx A R H0 ρ σ H D D' hf r F q k1 k2 k3 k4=>h A ρ σ H _ _ r q fun v H1 p ρ1 q1 f1 o1 =>
 hg fx A R H0 ρ1 σ H1 p v _ _ hf (F.fr f1) (o1.h0 F.dm) q1 k1
theorem cO(h:LS K fs ta pa):LS K fs (rf ta) (dA pa):=fun fx A R H0 ρ σ H D D' hf r F q k1 k2 k3 k4=>by
 obtain⟨J,q1,q2⟩:=q;refine⟨fun σ' H'=>∃ρ',J ρ'/\Rel K A ρ' σ' H'/\bU fx R H0 ρ' σ' H',?_,fun σ' H' ⟨ρ',j,r',F'⟩=>k1 ρ' σ' H' (q2 ρ' j) r' F'⟩;exact h fx A R H0 ρ σ H _ _ hf r F q1 (fun ρ' σ' H' j r' F'=>⟨ρ',j,r',F'⟩) k2 k3 k4
end
def tN(K:PySem.W.Frag)(tl:TE):TI:=fun σ H R=>tl σ H fun x H1=>(∃k a xs,x=.ref a/\Sq k K H1 a xs/\R (Itk k K a) H1)\/∃l,x=.str (S l)/\R (Its (de l)) H1
section
variable {X:Cx}{tg:Expr}
theorem oU{l:Expr}{tl:TE}(hl:PE X l tl):PI X tg l (tN X.K tl):=by
 intro pins s σ H R I h;refine thn (hl pins s σ H _ I h) fun v s1 ⟨x,H1,I1,r1,q1⟩=>?_
 have fin:∀b∈[s1.heap.objs.size],lV X pins H1 b:=fun b hb=>by
  have e:b=s1.heap.objs.size:=by simpa using hb
  subst e;exact I1.fpOk (le_refl _) (I1.hok.fresh (le_refl _))
 rcases q1 with ⟨k,a,xs,e,hq,q⟩|⟨l,e,q⟩
 .subst e;cases r1
  cases k with
  | false =>
   obtain⟨its,rv,p,hz⟩:=I1.list hq;refine wpAny_pyIter_list p.isList ?_;exact⟨s1.heap.objs.size,[s1.heap.objs.size],_,_,H1,rfl,I1.kept (t':=s1.toks) fun b o e=>Heap.get?_push_of_some _ e,ku a _,⟨_,Heap.get?_push_size _ rfl,rfl,rfl⟩,fin,q⟩
  | true =>
   obtain⟨its,rv,p,hz⟩:=I1.tuple hq;refine wpAny_pyIter_tuple (show s1.heap.IsTuple a its.toArray from p) ?_;exact⟨s1.heap.objs.size,[s1.heap.objs.size],_,_,H1,rfl,I1.kept (t':=s1.toks) fun b o e=>Heap.get?_push_of_some _ e,j1 a _,⟨_,Heap.get?_push_size _ rfl,rfl,rfl⟩,fin,q⟩
 .subst e;obtain⟨t,rfl⟩:=r1
  have hv:∀i v,i<(S l).cps.size->SignAt (S l) i v->∃x,(de l)[i]?=some x/\ck x v:=fun i v _ ⟨c,u,hc,e⟩=>by
   subst e;have hc':l[i]?=some c:=by simpa [S] using hc
   exact⟨.str (S [c]),by unfold de;rw [getElem?_map,hc'];rfl,u,rfl⟩
  have hsc:∀i v,SignAt (S l) i v->∀a,v≠.ref a:=fun i v ⟨c,u,hc,e⟩ a z=>by subst e;cases z
  have hn:(de l).length=(S l).cps.size:=by rw [eA];simp [S]
  have hobj:∀ty i (h:Heap),h.IsStrIter s1.heap.objs.size ty (S l) t i->∃o,h.get? s1.heap.objs.size=some o/\∀v,o.data≠.cell v:=fun ty i h ⟨o,ho,_,hd⟩=>⟨o,ho,fun v z=>by rw [hd] at z;cases z⟩
  have hfr:∀ty i (h h':Heap),h.IsStrIter s1.heap.objs.size ty (S l) t i->(∀b∈[s1.heap.objs.size],∀o,h.get? b=some o->h'.get? b=some o)->h'.IsStrIter s1.heap.objs.size ty (S l) t i:=fun ty i h h' ⟨o,ho,r⟩ k=>⟨o,k _ (by simp) o ho,r⟩
  cases ha:(S l).cps.all (·<128)
  .refine wpAny_pyIter_wide ha ⟨s1.heap.objs.size,[s1.heap.objs.size],_,Its (de l),H1,rfl,I1.kept (t':=s1.toks) fun b o e=>Heap.get?_push_of_some _ e,
    im (fun A hA=>Walks.strWide hA _ (S l) t) hn hv hsc (hobj _) (hfr _) (fun A i s Q E st q=>wpAny_pyIter_striter_wide st q),⟨_,Heap.get?_push_size _ rfl,rfl,rfl⟩,fin,q⟩
  .refine wpAny_pyIter_ascii ha ⟨s1.heap.objs.size,[s1.heap.objs.size],_,Its (de l),H1,rfl,I1.kept (t':=s1.toks) fun b o e=>Heap.get?_push_of_some _ e,
    im (fun A hA=>Walks.strAscii hA _ (S l) t) hn hv hsc (hobj _) (hfr _) (fun A i s Q E st q=>wpAny_pyIter_striter_ascii st q),⟨_,Heap.get?_push_size _ rfl,rfl,rfl⟩,fin,q⟩
theorem lq(K:PySem.W.Frag)(e:X.K=K){l:Expr}{tl:TE}(hl:PE X l tl):PI X tg l (tN K tl):=by subst e;exact oU hl
end
abbrev PTI:=PSt->(Nat->(Nat->D)->PSt->Prop)->Prop
def Wlk(K:PySem.W.Frag)(O:Addr->Prop)(H:Hp)(J:It)(n:Nat)(it:Nat->D):Prop:=∀(O':Addr->Prop) (H':Hp),aK O H O' H'->(∀b,O' b->H' b≠none) ->
 (∀k,k<n->J.go k H'/\∀x H'',J.yld k H' x H''->Gr H' H''/\FV K O' H'' x (it k))/\J.stop n H'
def LI(K:PySem.W.Frag)(wi:TI)(pi:PTI):Prop:=∀(A:Addr->Prop) (ρ:PSt) (σ:St) (H:Hp) (Q:Nat->(Nat->D)->PSt->Prop) (Q':It->Hp->Prop),Rel K A ρ σ H->pi ρ Q ->
 (∀J H' n it ρ',Q n it ρ'->Fr ρ σ H ρ' H'->Rel K A ρ' σ H'->Wlk K (OO A ρ' σ) H' J n it->Q' J H')->wi σ H Q'
def itD(ds:List D)(k:Nat):D:=ds.getD k .non
theorem jJ{ds:List D}{k:Nat}{d:D}(h:ds[k]?=some d):itD ds k=d:=by unfold itD;rw [getD_eq_getElem?_getD,h];rfl
def uE:D->Option (Nat×(Nat->D))
 | .lst ds=>some (ds.length,itD ds)
 | .tup ds=>some (ds.length,itD ds)
 | .scr ns=>some (ns.length,fun k=>.int (ns.getD k 0))
 | .str l=>some (l.length,fun k=>.str [l.getD k 0])
 | _=>none
def mD(pe:PTE):PTI:=fun ρ Q=>pe ρ fun p ρ1=>match uE p.d with
 | some (n,it)=>Q n it ρ1
 | none=>False
section
variable {K:PySem.W.Frag}{te:TE}{pe:PTE}{ta:TA}{pa:PTA}
theorem FV.row{O:Addr->Prop}{H:Hp}{v:V}{d:D}{n:Nat}{it:Nat->D}(h:FV K O H v d)(e:uE d=some (n,it)) :
  (∃k a xs,v=.ref a/\xs.length=n/\(∀O' H',aK O H O' H'->Sq k K H' a xs/\∀j x,xs[j]?=some x->FV K O' H' x (it j)))\/∃l,v=.str (S l)/\l.length=n/\(∀k,it k=.str [l.getD k 0]):=by
 cases h with
 | lst nn e0 f =>
  cases e;refine .inl ⟨false,_,_,rfl,f.length,fun O' H' k=>⟨SqL.of (k _ _ nn e0).2,fun j x hx=>?_⟩⟩;obtain⟨d,hd,fd⟩:=f.get hx;rw [jJ hd];exact fd.keeps k
 | tup nn e0 f =>
  cases e;refine .inl ⟨true,_,_,rfl,f.length,fun O' H' k=>⟨SqT.of (k _ _ nn e0).2,fun j x hx=>?_⟩⟩;obtain⟨d,hd,fd⟩:=f.get hx;rw [jJ hd];exact fd.keeps k
 | scr s =>
  cases e;refine .inl ⟨false,_,_,rfl,length_map _,fun O' H' k=>⟨(s.keeps k).sq,fun j x hx=>?_⟩⟩;obtain⟨z,hz,rfl⟩:=mm hx;show FV K O' H' (V.int z) (D.int (List.getD _ j 0));rw [getD_eq_getElem?_getD,hz];exact .int z
 | str l hl=>cases e;exact .inr ⟨l,rfl,rfl,fun _=>rfl⟩
 | non=>cases e
 | bl b=>cases e
 | int i=>cases e
 | ty n=>cases e
 | dic _ _ _ _=>cases e
 | obj _ _ _ _=>cases e
 | exc0 _ _=>cases e
 | exc1 _ _ _ _ _ _=>cases e
theorem lr(h:LE K te pe):LI K (tN K te) (mD pe):=fun A ρ σ H Q Q' R q k=>h A ρ σ H _ _ R q fun v H1 p ρ1 q1 f1 o1=>by
 obtain⟨R1,fv⟩:=o1.frz
 split at q1
 .rename_i n it e
  rcases fv.row e with ⟨b,a,xs,rfl,hl,hr⟩|⟨l,rfl,hl,hi⟩
  .refine .inl ⟨b,a,xs,rfl,(hr _ H1 (fun b o n h=>⟨n,h⟩)).1,k _ H1 n it ρ1 q1 f1 R1 fun O' H' kk dom=>?_⟩;obtain⟨sq,hx⟩:=hr O' H' kk
   cases b with
   | false =>
    refine⟨fun j hj=>⟨⟨xs,_,sq,getElem?_eq_getElem (by rw [hl];exact hj)⟩,fun x H'' ⟨e,y⟩=>?_⟩,⟨xs,sq,by rw [hl];exact le_refl _⟩⟩;subst e;exact⟨Gr.refl _,hx j x (y xs sq)⟩
   | true =>
    refine⟨fun j hj=>⟨⟨xs,_,sq,getElem?_eq_getElem (by rw [hl];exact hj)⟩,fun x H'' ⟨e,y⟩=>?_⟩,⟨xs,sq,by rw [hl];exact le_refl _⟩⟩;subst e;exact⟨Gr.refl _,hx j x (y xs sq)⟩
  .refine .inr ⟨l,rfl,k _ H1 n it ρ1 q1 f1 R1 fun O' H' kk dom=>?_⟩;refine⟨fun j hj=>⟨by show j<(de l).length;rw [eA,hl];exact hj,fun x H'' ⟨e,y⟩=>?_⟩,by show (de l).length=n;rw [eA,hl]⟩;subst e;obtain⟨c,hc,rfl⟩:=kc y;rw [hi,getD_eq_getElem?_getD,hc];exact⟨Gr.refl _,.str _ (by show 1<=1000000;decide)⟩
 .exact q1.elim
def sr(pa:PTA):PTI:=fun ρ Q=>pa ρ fun as ρ1=>match as with
 | [.v (.int j)]=>(-(2^60)<=j/\j<2^60)/\Q j.toNat (fun k=>.int (k:Int)) ρ1
 | _=>False
def uF(pa:PTA):PTI:=fun ρ Q=>pa ρ fun as ρ1=>match as with
 | [.v (.int i),.v (.int j)]=>(-(2^60)<=i/\i<2^60/\-(2^60)<=j/\j<2^60)/\Q (j - i).toNat (fun k=>.int (i+(k:Int))) ρ1
 | _=>False
theorem rB{O:Addr->Prop}{H:Hp}{lo:Int}{n:Nat}{it:Nat->D}(h:∀k:Nat,it k=.int (lo+k)):Wlk K O H (Itr lo n) n it:=fun O' H' _ _ =>
 ⟨fun j hj=>⟨hj,fun x H'' ⟨e,y⟩=>by subst e y;rw [h];exact⟨Gr.refl _,.int _⟩⟩,le_refl _⟩
theorem oV(h:LAs K ta pa):LI K (nU ta) (sr pa):=fun A ρ σ H Q Q' R q k=>h A ρ σ H _ _ R q fun vs H1 as ρ1 q1 f1 R1 o1=>by
 split at q1
 .rename_i j
  cases o1 with
  | cons a b =>
   cases b;cases a;exact⟨j,rfl,by omega,by omega,k _ H1 _ _ ρ1 q1.2 f1 R1 (rB fun k=>by rw [Int.zero_add])⟩
 .exact q1.elim
theorem tO(h:LAs K ta pa):LI K (qx ta) (uF pa):=fun A ρ σ H Q Q' R q k=>h A ρ σ H _ _ R q fun vs H1 as ρ1 q1 f1 R1 o1=>by
 split at q1
 .rename_i i j
  cases o1 with
  | cons a b =>
   cases b with
   | cons c d =>
    cases d;cases a;cases c;exact⟨i,j,rfl,⟨by omega,by omega,by omega,by omega⟩,k _ H1 _ _ ρ1 q1.2 f1 R1 (rB fun k=>rfl)⟩
 .exact q1.elim
end
def ja(pi:PTI)(g:PTG)(pb:PTS):PTS:=fun D ρ=>pi ρ fun n it ρ1=>∃I:Nat->PSt->Prop,I 0 ρ1/\(∀k ρ d,k<n->d=it k->I k ρ->g (.dat d) ρ fun ρ2=>pb { D with nx:=I (k+1),ct:=I (k+1),bk:=D.nx } ρ2)/\∀ρ,I n ρ->D.nx ρ
def jb(pt:PTT)(pb:PTS):PTS:=fun D ρ=>∃I:Nat->PSt->Prop,(∃m,I m ρ)/\∀m ρ,I m ρ->pt ρ fun b ρ1=>eO b (pb { D with nx:=fun ρ'=>∃m',m'<m/\I m' ρ',ct:=fun ρ'=>∃m',m'<m/\I m' ρ',bk:=D.nx } ρ1) (D.nx ρ1)
section
variable {K:PySem.W.Frag}{fs:List Nat}{wi:TI}{pi:PTI}{g:TG}{pg:PTG}{tb:TS}{pb:PTS}{tt:TT}{pt:PTT}
theorem gp(hi:LI K wi pi)(hg:LGd K fs g pg)(hb:LS K fs tb pb):LS K fs (ui wi g tb) (ja pi pg pb):=fun fx A R H0 ρ σ H D D' hf r F q k1 k2 k3 k4=>hi A ρ σ H _ _ r q fun J H1 n it ρ1 q1 f1 r1 W=>by
 obtain⟨I,i0,turn,after⟩:=q1;have F1:=F.fr f1;refine⟨fun i m σ' H'=>i+m=n/\∃ρ',I i ρ'/\Rel K A ρ' σ' H'/\bU fx (Wr ρ1 σ) H1 ρ' σ' H',⟨n,Nat.zero_add n,ρ1,i0,r1,bU.start F1.fx⟩,fun i m σ' H' ⟨him,ρ',iv,r',F'⟩=>?_⟩;obtain⟨go,stop⟩:=W _ H' F'.keeps r'.dom2
 by_cases hk:i<n
 .obtain⟨g1,g2⟩:=go i hk;refine .inr ⟨g1,fun σ'' H''=>∃ρ'',I (i+1) ρ''/\Rel K A ρ'' σ'' H''/\bU fx (Wr ρ1 σ) H1 ρ'' σ'' H'',fun σ'' H'' z=>⟨m - 1,by omega,by omega,z⟩,fun x H'' y=>?_⟩;obtain⟨gr,fv⟩:=g2 x H'' y;refine hg fx A (Wr ρ1 σ) H1 ρ' σ' H'' _ x _ _ hf (F'.fr gr.fr) (r'.gr gr) fv (turn i ρ' _ hk rfl iv) fun ρ2 σ2 q2 r2 F2 _=>?_;refine hb fx A (Wr ρ1 σ) H1 ρ2 σ2 H'' _ _ hf r2 F2 q2 (fun ρ3 σ3 H3 q3 r3 F3=>⟨ρ3,q3,r3,F3⟩) (fun v p ρ3 σ3 H3 q3 o3 F3=>k2 v p ρ3 σ3 H3 q3 (o3.h0 F1.dm) (F1.trans F3 F3.fx)) (fun ρ3 σ3 H3 q3 r3 F3=>k1 ρ3 σ3 H3 q3 r3 (F1.trans F3 F3.fx)) (fun ρ3 σ3 H3 q3 r3 F3=>⟨ρ3,q3,r3,F3⟩)
 .have e:i=n:=by omega
  subst e;exact .inl ⟨stop,k1 ρ' σ' H' (after ρ' iv) r' (F1.trans F' F'.fx)⟩
theorem jK(ht:LT K tt pt)(hb:LS K fs tb pb):LS K fs (mY tt tb) (jb pt pb):=fun fx A R H0 ρ σ H D D' hf r F q k1 k2 k3 k4=>by
 obtain⟨I,⟨m0,i0⟩,turn⟩:=q;refine⟨fun m σ' H'=>∃ρ',I m ρ'/\Rel K A ρ' σ' H'/\bU fx R H0 ρ' σ' H',⟨m0,ρ,i0,r,F⟩,fun m σ' H' ⟨ρ',iv,r',F'⟩=>?_⟩;refine ht A ρ' σ' H' _ _ r' (turn m ρ' iv) fun b H1 ρ1 q1 f1 r1=>?_
 cases b with
 | true =>
  refine⟨fun σ'' H''=>∃ρ'' m',m'<m/\I m' ρ''/\Rel K A ρ'' σ'' H''/\bU fx R H0 ρ'' σ'' H'',fun σ'' H'' ⟨ρ'',m',h1,h2⟩=>⟨m',h1,ρ'',h2⟩,?_⟩;exact hb fx A R H0 ρ1 σ' H1 _ _ hf r1 (F'.fr f1) q1 (fun ρ3 σ3 H3 ⟨m',h1,h2⟩ r3 F3=>⟨ρ3,m',h1,h2,r3,F3⟩) k2 k1 (fun ρ3 σ3 H3 ⟨m',h1,h2⟩ r3 F3=>⟨ρ3,m',h1,h2,r3,F3⟩)
 | false=>exact k1 ρ1 σ' H1 q1 r1 (F'.fr f1)
end
def cP(ix:List (Option Nat))(ρ:PSt):PSt:=ix.map fun o=>match o with
 | none=>none
 | some j=>match ρ[j]? with
  | some v=>v
  | none=>none
def dB:List (Option Nat)->PSt->PSt->PSt
 | some j::ix,ρ,t::τ=>dB ix (ρ.set j t) τ
 | none::ix,ρ,_::τ=>dB ix ρ τ
 | _,ρ,_=>ρ
def oW:List (Option Nat)->Bool
 | []=>true
 | none::r=>oW r
 | some j::r=>!r.contains (some j) && oW r
theorem gQ:∀(ix:List (Option Nat)) (ρ τ:PSt),(dB ix ρ τ).length=ρ.length
 | [],ρ,τ=>by unfold dB;rfl
 | some j::ix,ρ,t::τ=>by show (dB ix (ρ.set j t) τ).length=_;rw [gQ ix,length_set]
 | none::ix,ρ,t::τ=>by show (dB ix ρ τ).length=_;exact gQ ix ρ τ
 | some j::ix,ρ,[]=>by unfold dB;rfl
 | none::ix,ρ,[]=>by unfold dB;rfl
theorem fe:∀(ix:List (Option Nat)) (ρ τ:PSt) (j:Nat),some j∉ix->(dB ix ρ τ)[j]?=ρ[j]?
 | [],ρ,τ,j,_=>by unfold dB;rfl
 | some i::ix,ρ,t::τ,j,h=>by
  show (dB ix (ρ.set i t) τ)[j]?=_;rw [fe ix _ τ j (fun z=>h (mem_cons_of_mem _ z)),getElem?_set_ne (fun z=>h (by rw [z];exact mem_cons_self ..))]
 | none::ix,ρ,t::τ,j,h=>by show (dB ix ρ τ)[j]?=_;exact fe ix ρ τ j fun z=>h (mem_cons_of_mem _ z)
 | some i::ix,ρ,[],j,_=>by unfold dB;rfl
 | none::ix,ρ,[],j,_=>by unfold dB;rfl
theorem jc:∀(ix:List (Option Nat)) (ρ τ:PSt) (j k:Nat),oW ix=true->ix[k]?=some (some j)->k<τ.length->j<ρ.length->(dB ix ρ τ)[j]?=τ[k]?
 | some i::ix,ρ,t::τ,j,k,h,e,hk,hj=>by
  have h:(!ix.contains (some i) && oW ix)=true:=h;rw [and_eq_true] at h;show (dB ix (ρ.set i t) τ)[j]?=_
  cases k with
  | zero =>
   have e:some (some i)=some (some j):=e;cases e
   have hn:some i∉ix:=fun z=>by
    have:=h.1;rw [contains_iff_mem.mpr z] at this;cases this
   rw [fe ix _ τ i hn,getElem?_set_self hj];rfl
  | succ k =>
   have e:ix[k]?=some (some j):=by simpa using e
   rw [jc ix _ τ j k h.2 e (by simpa using hk) (by rw [length_set];exact hj)];simp
 | none::ix,ρ,t::τ,j,k,h,e,hk,hj=>by
  show (dB ix ρ τ)[j]?=_
  cases k with
  | zero=>cases e
  | succ k =>
   have e:ix[k]?=some (some j):=by simpa using e
   rw [jc ix _ τ j k h e (by simpa using hk) hj];simp
 | [],ρ,τ,j,k,h,e,hk,hj=>by simp at e
 | some i::ix,ρ,[],j,k,h,e,hk,hj=>absurd hk (not_lt_zero _)
 | none::ix,ρ,[],j,k,h,e,hk,hj=>absurd hk (not_lt_zero _)
theorem gR:∀{ix:List (Option Nat)}{k l j:Nat},oW ix=true->ix[k]?=some (some j)->ix[l]?=some (some j)->k=l
 | some i::ix,k,l,j,h,e1,e2=>by
  have h:(!ix.contains (some i) && oW ix)=true:=h;rw [and_eq_true] at h
  have no:∀m,ix[m]?≠some (some i):=fun m z=>by
   have:=h.1;rw [contains_iff_mem.mpr (mem_of_getElem? z)] at this;cases this
  cases k with
  | zero =>
   have e1:some (some i)=some (some j):=e1;cases e1
   cases l with
   | zero=>rfl
   | succ l=>exact absurd (by simpa using e2) (no l)
  | succ k =>
   cases l with
   | zero =>
    have e2:some (some i)=some (some j):=e2;cases e2;exact absurd (by simpa using e1) (no k)
   | succ l=>rw [gR (k:=k) (l:=l) h.2 (by simpa using e1) (by simpa using e2)]
 | none::ix,k,l,j,h,e1,e2=>by
  cases k with
  | zero=>cases e1
  | succ k =>
   cases l with
   | zero=>cases e2
   | succ l=>rw [gR (ix:=ix) (k:=k) (l:=l) (j:=j) h (by simpa using e1) (by simpa using e2)]
 | [],k,l,j,h,e1,e2=>by simp at e1
theorem df{ix:List (Option Nat)}{ρ:PSt}{k:Nat}{p:PV}(h:(cP ix ρ)[k]?=some (some p)):∃j,ix[k]?=some (some j)/\ρ[j]?=some (some p):=by
 unfold cP at h;rw [getElem?_map] at h
 cases e:ix[k]? with
 | none=>rw [e] at h;cases h
 | some o =>
  rw [e] at h
  cases o with
  | none=>cases h
  | some j =>
   refine⟨j,rfl,?_⟩;have h:some (match ρ[j]? with|some v=>v|none=>none)=some (some p):=h
   cases e2:ρ[j]? with
   | none=>rw [e2] at h;cases h
   | some v=>rw [e2] at h;exact h
theorem dq{ix:List (Option Nat)}{σ:St}{k j:Nat}{v:V}(h:ix[k]?=some (some j))(e:σ[j]?=some (some v)):(k6 ix σ)[k]?=some (some v):=by
 unfold k6;rw [getElem?_map,h];show some (match σ[j]? with|some v=>v|none=>none)=some (some v);rw [e]
theorem Rel.amb{K:PySem.W.Frag}{A:Addr->Prop}{ρ:PSt}{σ:St}{H:Hp}{a:Addr}{o:HO}(R:Rel K A ρ σ H)(ha:A a):Rel K A ρ σ (upd H a o):=by
 have k:aK (OO A ρ σ) H (OO A ρ σ) (upd H a o):=fun b u n e=>⟨n,by rw [ao (fun z=>n (by rw [z];exact .inl ha))];exact e⟩
 refine⟨R.len,fun i q e=>?_,R.dj,fun b z=>?_,R.sep⟩
 .obtain⟨v,s,r⟩:=R.get i q e;refine⟨v,s,r.keeps k fun ow b eb=>?_⟩;rw [ao];intro z;subst z eb;exact R.sep b ha ⟨i,q,e,ow,s⟩
 .by_cases z':b=a
  .rw [z',aF];exact nofun
  .rw [ao z'];exact R.dom b z
def tP(ix:List (Option Nat))(ρ:PSt):Bool:=ix.all fun o=>match o with|none=>true|some j=>(match ρ[j]? with|some (some _)=>true|_=>false)
structure mE (ix:List (Option Nat)) (ρ1:PSt) (n:Nat) (it:Nat->D) (g:PTG) (pt:PTT) (pe:PTE) (Q:PKt):Prop where
 ex:∃I:Nat->List D->PSt->Prop,I 0 [] (cP ix ρ1) /\
  (∀k ys τ d,k<n->d=it k->I k ys τ->g (.dat d) τ fun τ2=>pt τ2 fun ok τ3=>eO ok (pe τ3 fun p τ4=>I (k+1) (ys++[p.d]) τ4) (I (k+1) ys τ3))/\∀ys τ,I n ys τ->Q (.own ys) (dB ix ρ1 τ)
def rC(ix:List (Option Nat))(pi:PTI)(g:PTG)(pt:PTT)(pe:PTE):PTE:=fun ρ Q=>pi ρ fun n it ρ1=>tP ix ρ1=true/\n<=1000000/\mE ix ρ1 n it g pt pe Q
def ss:PTT:=fun ρ Q=>Q true ρ
theorem rD{K:PySem.W.Frag}:LT K sS ss:=fun A ρ σ H Q Q' R q k=>k true H ρ q (Fr.refl _ _ _) R
def p6(ix:List (Option Nat)):List Nat:=(List.range ix.length).filter fun k=>(ix.getD k none).isSome
theorem oX{K:PySem.W.Frag}{ix:List (Option Nat)}{wi:TI}{pi:PTI}{g:TG}{pg:PTG}{tts:TT}{pt:PTT}{te:TE}{pe:PTE}(hix:oW ix=true)(hi:LI K wi pi)(hg:∀fs:List Nat,(∀k∈fs,k∈p6 ix)->LGd K fs g pg)(ht:LT K tts pt)(he:LE K te pe) :
  LE K (oC ix wi g tts te) (rC ix pi pg pt pe):=fun A ρ σ H Q Q' R q k=>hi A ρ σ H _ _ R q fun J H1 n it ρ1 q1 f1 R1 W D hD=>by
 obtain⟨hcap,hn,⟨I,i0,turn,after⟩⟩:=q1
 let τρ0:=cP ix ρ1
 let τσ0:=k6 ix σ
 let Ai:Addr->Prop:=fun b=>A b\/b=D\/(Wr ρ1 σ b/\¬ Wr τρ0 τσ0 b)
 let H0':=upd H1 D (.lst [])
 have wsub:∀b,Wr τρ0 τσ0 b->Wr ρ1 σ b:=fun b ⟨m,p,e,o,s⟩=>by
  obtain⟨j,h1,h2⟩:=df e;obtain⟨v,hv,_⟩:=R1.get j p h2;have:=dq h1 hv;rw [s] at this;cases this;exact⟨j,p,h2,o,hv⟩
 have nD:¬ Wr ρ1 σ D:=fun z=>R1.wr z hD
 have oosub:∀b,OO Ai τρ0 τσ0 b->OO A ρ1 σ b\/b=D:=fun b z=>by
  rcases z with (z|z|z)|z
  .exact .inl (.inl z)
  .exact .inr z
  .exact .inl (.inr z.1)
  .exact .inl (.inr (wsub b z))
 have kD:aK (OO A ρ1 σ) H1 (OO Ai τρ0 τσ0) H0':=fun b o nn e=>by
  refine⟨fun z=>?_,?_⟩
  .rcases oosub b z with z|z
   .exact nn z
   .rw [z,hD] at e;cases e
  .rw [show H0' b=H1 b from ao (aQ e hD)];exact e
 have Ri:Rel K Ai τρ0 τσ0 H0':=by
  refine⟨by show (cP ix ρ1).length=(k6 ix σ).length;unfold cP k6;rw [length_map,length_map],fun m p e=>?_,fun m l p q v e1 e2 o1 o2 s1 s2=>?_,fun b z=>?_,fun b z w=>?_⟩
  .obtain⟨j,h1,h2⟩:=df e;obtain⟨v,hv,r⟩:=R1.get j p h2;refine⟨v,dq h1 hv,r.keeps kD fun ow a ea=>?_⟩;subst ea;exact ao (fun z=>nD (by rw [<- z];exact⟨j,p,h2,ow,hv⟩))
  .obtain⟨j,h1,h2⟩:=df e1;obtain⟨j',h3,h4⟩:=df e2;obtain⟨v1,hv1,_⟩:=R1.get j p h2;obtain⟨v2,hv2,_⟩:=R1.get j' q h4;have t1:=dq h1 hv1;have t2:=dq h3 hv2;rw [s1] at t1;rw [s2] at t2;cases t1;cases t2;have:=R1.dj j j' p q _ h2 h4 o1 o2 hv1 hv2;subst this;exact gR hix h1 h3
  .rcases z with z|z|z
   .intro e
    by_cases zz:b=D
    .exact R1.dom b z (by rw [zz];exact hD)
    .rw [show H0' b=H1 b from ao zz] at e;exact R1.dom b z e
   .rw [z];show upd H1 D _ D≠none;rw [aF];exact nofun
   .intro e;rw [show H0' b=H1 b from ao (fun zz=>nD (by rw [<- zz];exact z.1))] at e;exact R1.wr z.1 e
  .rcases z with z|z|z
   .exact R1.sep b z (wsub b w)
   .rw [z] at w;exact nD (wsub D w)
   .exact z.2 w
 let fxi:List (Nat×V):=(p6 ix).filterMap fun m=>match (τσ0[m]?) with|some (some v)=>some (m,v)|_=>none
 have hfx:∀p∈fxi,τσ0[p.1]?=some (some p.2):=fun p hp=>by
  obtain⟨m,hm,e⟩:=mem_filterMap.mp hp
  split at e
  .rename_i v ev;cases e;exact ev
  .cases e
 have hfs:∀m∈fxi.map Prod.fst,m∈p6 ix:=fun m hm=>by
  obtain⟨p,hp,rfl⟩:=mem_map.mp hm;obtain⟨m',hm',e⟩:=mem_filterMap.mp hp
  split at e
  .cases e;exact hm'
  .cases e
 have hgi:=hg (fxi.map Prod.fst) hfs
 have fxget:∀(m j:Nat) (v:V),ix[m]?=some (some j)->σ[j]?=some (some v)->(m,v)∈fxi:=fun m j v h1 h2=>by
  refine mem_filterMap.mpr ⟨m,?_,?_⟩
  .unfold p6;refine mem_filter.mpr ⟨mem_range.mpr (List.getElem?_eq_some_iff.mp h1).1,?_⟩;rw [getD_eq_getElem?_getD,h1];rfl
  .show (match (k6 ix σ)[m]? with|some (some v)=>some (m,v)|_=>none)=_;rw [dq h1 h2]
 let Rr:Addr->Prop:=fun b=>Wr τρ0 τσ0 b\/b=D
 have hRr:∀b,Rr b->OO Ai τρ0 τσ0 b:=fun b z=>z.elim (fun z=>.inr z) (fun z=>.inl (.inr (.inl z)));have F0:bU fxi Rr H0' τρ0 τσ0 H0':=⟨fun _ _ _ h=>h,fun _ h=>h,fun b w=>.inl (.inl w),hfx⟩
 refine⟨fun i m τ H2=>i+m=n/\∃ys τρ xs,I i ys τρ/\ys.length<=i/\Rel K Ai τρ τ H2/\bU fxi Rr H0' τρ τ H2/\H2 D=some (.lst xs)/\FVs K (OO Ai τρ τ) H2 xs ys/\∀b,Wr τρ τ b->Wr τρ0 τσ0 b,
  ⟨n,Nat.zero_add n,[],τρ0,[],i0,le_refl _,Ri,F0,aF,.nil,fun _ h=>h⟩,fun i m τ H2 ⟨him,ys,τρ,xs,iv,hy,r2,F2,eD,fD,hw⟩=>?_⟩
 have kk:aK (OO A ρ1 σ) H1 (OO Ai τρ τ) H2:=fun b o nn e=>(F2.keepsR hRr) b o (kD b o nn e).1 (kD b o nn e).2;obtain⟨go,stop⟩:=W _ H2 kk r2.dom2
 by_cases hk:i<n
 .obtain⟨g1,g2⟩:=go i hk;refine .inr ⟨g1,fun x H3 y=>?_⟩;obtain⟨gr,fv⟩:=g2 x H3 y;have AiD:Ai D:=.inr (.inl rfl);refine hgi fxi Ai Rr H0' τρ τ H3 _ x _ _ rfl (F2.fr gr.fr) (r2.gr gr) fv (turn i ys τρ _ hk rfl iv) fun τρ2 τ2 q2 r3 F3 w3=>?_;refine ht Ai τρ2 τ2 H3 _ _ r3 q2 fun ok H5 τρ3 q3 f5 r5=>?_;have F5:=F3.fr f5;have fD5:FVs K (OO Ai τρ3 τ2) H5 xs ys:=((fD.keeps (gr.fr (ρ:=τρ) (σ:=τ)).keeps).keeps (aK.less fun b z=>z.imp id (w3 b))).keeps f5.keeps
  have eD5:H5 D=some (.lst xs):=f5.kp D _ (r3.sep D AiD) (gr D _ eD)
  cases ok with
  | true =>
   refine he Ai τρ3 τ2 H5 _ _ r5 q3 fun v H6 p τρ4 q4 f6 o6=>?_;obtain⟨r6,fv6⟩:=o6.frz;have F6:=F5.fr f6;have eD6:H6 D=some (.lst xs):=f6.kp D _ (r5.sep D AiD) eD5;have kw:aK (OO Ai τρ4 τ2) H6 (OO Ai τρ4 τ2) (upd H6 D (.lst (xs++[v]))):=fun b o nn e=>⟨nn,by rw [ao (fun z=>nn (by rw [z];exact .inl AiD))];exact e⟩
   refine⟨xs,eD6,?_,m - 1,by omega,by omega,ys++[p.d],τρ4,xs++[v],q4,by rw [length_append];show _+1<=_;omega,r6.amb AiD,⟨fun b o nn e=>?_,fun b z=>?_,F6.ow,F6.fx⟩,aF,((fD5.keeps f6.keeps).append (.cons fv6 .nil)).keeps kw,fun b z=>hw b (w3 b (f5.ow b (f6.ow b z)))⟩
   .have:xs.length=ys.length:=fD.length;exact lt_of_lt_of_le (by omega:xs.length<1000000) (sz _ (le_refl _))
   .rw [ao (fun z=>nn (.inr z))];exact F6.kp b o nn e
   .by_cases zz:b=D
    .rw [zz,aF];exact nofun
    .rw [ao zz];exact F6.dm b z
  | false=>exact⟨m - 1,by omega,by omega,ys,τρ3,xs,q3,by omega,r5,F5,eD5,fD5,fun b z=>hw b (w3 b (f5.ow b z))⟩
 .have e:i=n:=by omega
  subst e;refine .inl ⟨stop,?_⟩;have q':=after ys τρ iv
  have cap:∀(m j:Nat),ix[m]?=some (some j)->∃p v,ρ1[j]?=some (some p)/\σ[j]?=some (some v)/\τ[m]?=some (some v):=fun m j e=>by
   have h1:=all_eq_true.mp hcap _ (mem_of_getElem? e);have h1:(match ρ1[j]? with|some (some _)=>true|_=>false)=true:=h1
   split at h1
   .rename_i p ep;obtain⟨v,hv,_⟩:=R1.get j p ep;exact⟨p,v,ep,hv,F2.fx _ (fxget m j v e hv)⟩
   .cases h1
  have get':∀(j:Nat) (p:PV),(dB ix ρ1 τρ)[j]?=some (some p)->(∃m v,ix[m]?=some (some j)/\σ[j]?=some (some v)/\τ[m]?=some (some v)/\τρ[m]?=some (some p))\/(some j∉ix/\ρ1[j]?=some (some p)):=fun j p e=>by
   by_cases hj:some j∈ix
   .obtain⟨m,hm,em⟩:=getElem_of_mem hj;have em':ix[m]?=some (some j):=by rw [getElem?_eq_getElem hm,em]
    obtain⟨p0,v,h1,h2,h3⟩:=cap m j em';rw [jc ix ρ1 τρ j m hix em' (by rw [r2.len];exact (List.getElem?_eq_some_iff.mp h3).1) (List.getElem?_eq_some_iff.mp h1).1] at e;exact .inl ⟨m,v,em',h2,h3,e⟩
   .rw [fe ix ρ1 τρ j hj] at e;exact .inr ⟨hj,e⟩
  have nocap:∀(j:Nat) (p:PV) (b:Addr),some j∉ix->ρ1[j]?=some (some p)->p.isOwn=true->σ[j]?=some (some (.ref b))->¬ Wr τρ0 τσ0 b:=fun j p b hj e o s ⟨m,q,e1,o1,s1⟩=>by
   obtain⟨j',h1,h2⟩:=df e1;obtain⟨v,hv,_⟩:=R1.get j' q h2;have:=dq h1 hv;rw [s1] at this;cases this;have:=R1.dj j j' p q _ e h2 o o1 s hv;subst this;exact hj (mem_of_getElem? h1)
  have w':∀b,Wr (dB ix ρ1 τρ) σ b->Wr τρ τ b\/(Wr ρ1 σ b/\¬ Wr τρ0 τσ0 b):=fun b ⟨j,p,e,o,s⟩=>by
   rcases get' j p e with ⟨m,v,h1,h2,h3,h4⟩|⟨hj,h1⟩
   .rw [s] at h2;cases h2;exact .inl ⟨m,p,h4,o,h3⟩
   .exact .inr ⟨⟨j,p,h1,o,s⟩,nocap j p b hj h1 o s⟩
  have oo':∀b,OO (c8 A D) (dB ix ρ1 τρ) σ b->OO Ai τρ τ b:=fun b z=>by
   rcases z with (z|z)|z
   .exact .inl (.inl z)
   .exact .inl (.inr (.inl z))
   .rcases w' b z with z|z
    .exact .inr z
    .exact .inl (.inr (.inr z))
  have kp1:∀b o,¬ Wr τρ0 τσ0 b->b≠D->H1 b=some o->H2 b=some o:=fun b o n1 n2 e=>F2.kp b o (fun z=>z.elim n1 n2) (by rw [show H0' b=H1 b from ao n2];exact e);have k1:aK (OO A ρ1 σ) H1 (OO (c8 A D) (dB ix ρ1 τρ) σ) H2:=fun b o nn e=>⟨fun z=>(kk b o nn e).1 (oo' b z),(kk b o nn e).2⟩
  have AiD:Ai D:=.inr (.inl rfl)
  have R':Rel K (c8 A D) (dB ix ρ1 τρ) σ H2:=by
   refine⟨by rw [gQ];exact R1.len,fun j p e=>?_,fun j l p q v e1 e2 o1 o2 s1 s2=>?_,fun b z=>?_,fun b z w=>?_⟩
   .rcases get' j p e with ⟨m,v,h1,h2,h3,h4⟩|⟨hj,h1⟩
    .obtain⟨v',hv',r⟩:=r2.get m p h4;rw [h3] at hv';cases hv';exact⟨v,h2,r.keeps (aK.less oo') fun _ _ _=>rfl⟩
    .obtain⟨v,hv,r⟩:=R1.get j p h1;refine⟨v,hv,r.keeps k1 fun ow a ea=>?_⟩;subst ea;obtain⟨a',u,e1,e2⟩:=r.ref ow;cases e1;rw [e2];exact kp1 a u (nocap j p a hj h1 ow hv) (fun z=>by rw [z,hD] at e2;cases e2) e2
   .rcases get' j p e1 with ⟨m,v1,h1,h2,h3,h4⟩|⟨hj,h1⟩
    .rw [s1] at h2;cases h2
     rcases get' l q e2 with ⟨m',v2,g1,g2,g3,g4⟩|⟨hl,g1⟩
     .rw [s2] at g2;cases g2;have:=r2.dj m m' p q _ h4 g4 o1 o2 h3 g3;subst this;rw [h1] at g1;cases g1;rfl
     .exfalso;obtain⟨v',hv',r⟩:=r2.get m p h4;rw [h3] at hv';cases hv';obtain⟨a,u,ea,_⟩:=r.ref o1;subst ea;exact nocap l q a hl g1 o2 s2 (hw a ⟨m,p,h4,o1,h3⟩)
    .rcases get' l q e2 with ⟨m',v2,g1,g2,g3,g4⟩|⟨hl,g1⟩
     .rw [s2] at g2;cases g2;exfalso;obtain⟨v',hv',r⟩:=r2.get m' q g4;rw [g3] at hv';cases hv';obtain⟨a,u,ea,_⟩:=r.ref o2;subst ea;exact nocap j p a hj h1 o1 s1 (hw a ⟨m',q,g4,o2,g3⟩)
     .exact R1.dj j l p q v h1 g1 o1 o2 s1 s2
   .rcases z with z|z
    .exact r2.dom b (.inl z)
    .rw [z,eD];exact nofun
   .rcases w' b w with w|w
    .rcases z with z|z
     .exact r2.sep b (.inl z) w
     .rw [z] at w;exact r2.sep D AiD w
    .rcases z with z|z
     .exact R1.sep b z w.1
     .rw [z] at w;exact nD w.1
  have f2:Fr ρ1 σ H1 (dB ix ρ1 τρ) H2:=by
   refine⟨fun b o nn e=>kp1 b o (fun z=>nn (wsub b z)) (fun z=>by rw [z,hD] at e;cases e) e,fun b z=>F2.dm b ?_,fun b z=>?_⟩
   .intro e
    by_cases zz:b=D
    .exact z (by rw [zz];exact hD)
    .rw [show H0' b=H1 b from ao zz] at e;exact z e
   .rcases w' b z with z|z
    .exact wsub b (hw b z)
    .exact z.1
  have hD0:H D=none:=by
   cases e:H D with
   | none=>rfl
   | some o=>exact absurd hD (f1.dm D (by rw [e];exact nofun))
  exact k _ H2 (.own ys) _ q' (f1.trans f2) ⟨D,xs,rfl,fun z=>R1.dom D z hD,hD0,eD,R',fD.keeps (aK.less oo')⟩
section
variable {K:PySem.W.Frag}{A A':Addr->Prop}{ρ:PSt}{σ:St}{H H':Hp}
theorem Rel.step(R:Rel K A ρ σ H){i:Nat}{p q:PV}{a:Addr}(e:ρ[i]?=some (some p))(ow:p.isOwn=true)(ow':q.isOwn=true)(es:σ[i]?=some (some (.ref a)))
  (kp:∀b o,b≠a->H b=some o->H' b=some o) (ha:H' a≠none) (h1:∀b,A b->A' b) (h2:∀b,A' b->A b\/H b=none) (dom':∀b,A' b->H' b≠none)
  (new:RS K (OO A' ρ σ) H' q (.ref a)):Rel K A' (ρ.set i (some q)) σ H'/\Fr ρ σ H (ρ.set i (some q)) H':=by
 have hi:i<ρ.length:=(List.getElem?_eq_some_iff.mp e).1;have wa:Wr ρ σ a:=⟨i,p,e,ow,es⟩
 have weq:∀b,Wr (ρ.set i (some q)) σ b ↔ Wr ρ σ b:=fun b=>by
  constructor
  .rintro⟨j,r,e1,o1,s1⟩
   by_cases z:i=j
   .subst z;exact⟨i,p,e,ow,s1⟩
   .rw [getElem?_set_ne z] at e1;exact⟨j,r,e1,o1,s1⟩
  .rintro⟨j,r,e1,o1,s1⟩
   by_cases z:i=j
   .subst z;exact⟨i,q,getElem?_set_self hi,ow',s1⟩
   .exact⟨j,r,by rw [getElem?_set_ne z];exact e1,o1,s1⟩
 have oeq:OO A' (ρ.set i (some q)) σ=OO A' ρ σ:=funext fun b=>propext (or_congr Iff.rfl (weq b));have kp1:∀b u,¬ Wr ρ σ b->H b=some u->H' b=some u:=fun b u n h=>kp b u (fun z=>n (by rw [z];exact wa)) h
 have k:aK (OO A ρ σ) H (OO A' ρ σ) H':=fun b u n h=>by
  refine⟨fun z=>?_,kp1 b u (fun z=>n (.inr z)) h⟩
  rcases z with z|z
  .rcases h2 b z with z|z
   .exact n (.inl z)
   .rw [z] at h;cases h
  .exact n (.inr z)
 have dm:∀b,H b≠none->H' b≠none:=fun b n=>by
  by_cases z:b=a
  .rw [z];exact ha
  .cases eb:H b with
   | none=>exact absurd eb n
   | some o=>rw [kp b o z eb];exact nofun
 refine⟨⟨by rw [length_set];exact R.len,fun j r e1=>?_,fun j l p1 q1 v e1 e2 o1 o2 s1 s2=>?_,dom',fun b z w=>?_⟩,⟨kp1,dm,fun b w=>(weq b).mp w⟩⟩
 .rw [oeq]
  by_cases z:i=j
  .subst z;rw [getElem?_set_self hi] at e1;cases e1;exact⟨_,es,new⟩
  .rw [getElem?_set_ne z] at e1;obtain⟨v,s,rr⟩:=R.get j r e1;refine⟨v,s,rr.keeps k fun ow2 b eb=>?_⟩;obtain⟨b',u,e3,e4⟩:=rr.ref ow2;rw [eb] at e3;cases e3;rw [e4];refine kp b u (fun zz=>?_) e4;subst zz;rw [eb] at s;exact z (R.dj i j p r _ e e1 ow ow2 es s)
 .have ex:∀(m:Nat) (x:PV),(ρ.set i (some q))[m]?=some (some x)->x.isOwn=true->∃y:PV,ρ[m]?=some (some y)/\y.isOwn=true:=fun m x em ox=>by
   by_cases z:i=m
   .subst z;exact⟨p,e,ow⟩
   .rw [getElem?_set_ne z] at em;exact⟨x,em,ox⟩
  obtain⟨y1,g1,g2⟩:=ex j p1 e1 o1;obtain⟨y2,g3,g4⟩:=ex l q1 e2 o2;exact R.dj j l y1 y2 v g1 g3 g2 g4 s1 s2
 .rcases h2 b z with z|z
  .exact R.sep b z ((weq b).mp w)
  .exact R.wr ((weq b).mp w) z
theorem Rel.lstw(R:Rel K A ρ σ H){i:Nat}{ds es:List D}{a:Addr}{ys:List V}(e:ρ[i]?=some (some (.own ds)))(es':σ[i]?=some (some (.ref a)))(f:FVs K (OO A ρ σ) H ys es) :
  Rel K A (ρ.set i (some (.own es))) σ (upd H a (.lst ys))/\Fr ρ σ H (ρ.set i (some (.own es))) (upd H a (.lst ys)):=by
 have wa:OO A ρ σ a:=.inr ⟨i,_,e,rfl,es'⟩;exact R.write (q:=.own es) e rfl rfl es' ⟨a,ys,rfl,aF,f.keeps fun b u n h=>⟨n,by rw [ao (fun z=>n (by rw [z];exact wa))];exact h⟩⟩
theorem Rel.ownAt(R:Rel K A ρ σ H){i:Nat}{ds:List D}(e:ρ[i]?=some (some (.own ds))):∃a xs,σ[i]?=some (some (.ref a))/\H a=some (.lst xs)/\FVs K (OO A ρ σ) H xs ds:=by
 obtain⟨v,s,a,xs,rfl,g,f⟩:=R.get i _ e;exact⟨a,xs,s,g,f⟩
end
def su(i:Nat)(pe:PTE):PTE:=fun ρ Q=>match ρ[i]? with
 | some (some (.own _))=>pe ρ fun p ρ1=>(match ρ1[i]? with
  | some (some (.own ds))=>ds.length<1000000/\Q (.dat .non) (ρ1.set i (some (.own (ds++[p.d]))))
  | _=>False)
 | _=>False
def tQ(i:Nat):PTE:=fun ρ Q=>match ρ[i]? with
 | some (some (.own ds))=>∃d,ds[ds.length - 1]?=some d/\Q (.dat d) (ρ.set i (some (.own ds.dropLast)))
 | _=>False
section
variable {K:PySem.W.Frag}{te tk:TE}{pe pk:PTE}{fs:List Nat}
theorem nj{i:Nat}(h:LE K te pe):LE K (tBM K "list" kK (j0 i) (dX te me)) (su i pe):=fun A ρ σ H Q Q' R q k=>by
 unfold su at q
 split at q
 .rename_i ds0 e0;obtain⟨a0,xs0,s0,g0,f0⟩:=R.ownAt e0;refine⟨_,s0,.inl ⟨rfl,xs0,SqL.of g0⟩,h A ρ σ H _ _ R q fun v H1 p ρ1 q1 f1 o1=>?_⟩;obtain⟨R1,fv⟩:=o1.frz
  split at q1
  .rename_i ds e1;obtain⟨a,xs,s,g,f⟩:=R1.ownAt e1;rw [s0] at s;cases s;obtain⟨R2,f2⟩:=R1.lstw e1 s0 (f.append (.cons fv .nil));exact⟨a0,xs,v,rfl,rfl,g,lt_of_lt_of_le (by rw [f.length];exact q1.1) (sz _ (le_refl _)),k _ _ _ _ q1.2 (f1.trans f2) ⟨R2,.non⟩⟩
  .exact q1.elim
 .exact q.elim
theorem rE{i:Nat}:LE K (ut K "list" uu (j0 i)) (tQ i):=fun A ρ σ H Q Q' R q k=>by
 unfold tQ at q
 split at q
 .rename_i ds e;obtain⟨d,hd,q⟩:=q;obtain⟨a,xs,s,g,f⟩:=R.ownAt e;obtain⟨v,hv,fv⟩:=f.getD hd;obtain⟨R2,f2⟩:=R.lstw (es:=ds.dropLast) (ys:=xs.dropLast) e s (by rw [dropLast_eq_take,dropLast_eq_take,f.length];exact f.take _);exact⟨_,s,.inl ⟨rfl,xs,SqL.of g⟩,a,xs,v,rfl,rfl,g,by rw [f.length];exact hv,k _ _ _ _ q f2 ⟨R2,(fv.keeps f2.keeps)⟩⟩
 .exact q.elim
end
def spP(K:PySem.W.Frag)(c:FN):Sp:=fun vs H Q _=>∃(O:Addr->Prop) (ds:List D) (Qc:PV->Prop),(∀b,O b->H b≠none)/\FVs K O H vs ds/\c ds Qc/\∀r,Qc r->∀v H',Gr H H'->iq K O H H' r v->Q v H'
def c6(c:FN)(pr:PTA):PTE:=fun ρ Q=>pr ρ fun as ρ1=>match avD as with
 | some ds=>c ds fun r=>Q r ρ1
 | none=>False
theorem eh{N:List Str}{vs:List V}{i:Nat}{v:V}(h:vs[i]?=some v):(start N vs)[i]?=some (some v):=by
 unfold start;rw [getElem?_append_left (by rw [length_map];exact (List.getElem?_eq_some_iff.mp h).1),getElem?_map,h];rfl
def bF(n:Nat)(ps:List PV):PSt:=ps.map some++List.replicate (n - ps.length) none
theorem bK{n:Nat}{ps:List PV}{i:Nat}{p:PV}(h:(bF n ps)[i]?=some (some p)):ps[i]?=some p:=by
 unfold bF at h
 by_cases hi:i<ps.length
 .rw [getElem?_append_left (by rw [length_map];exact hi),getElem?_map] at h
  cases e:ps[i]? with
  | none=>rw [e] at h;cases h
  | some q=>rw [e] at h;cases h;rfl
 .rw [getElem?_append_right (by rw [length_map];omega)] at h;have:=mem_of_getElem? h;rw [mem_replicate] at this;cases this.2
section
variable {K:PySem.W.Frag}{tr:TA}{pr:PTA}{ts:TS}{ps:PTS}
theorem bM{c:FN}(h:LAs K tr pr):LE K (j6 (spP K c) [] E0 tr) (c6 c pr):=fun A ρ σ H Q Q' R q k=>h A ρ σ H _ _ R q fun vs H1 as ρ1 q1 f1 R1 o1=>by
 split at q1
 .rename_i ds e;rw [append_nil];exact⟨OO A ρ1 σ,ds,_,R1.dom2,o1.avD e,q1,fun r qr v H' g ov=>k v H' r ρ1 qr (f1.trans g.fr) ((ov.out R1 g).h0 f1.dm)⟩
 .exact q1.elim
theorem Out.outV{O:Addr->Prop}{ρ:PSt}{σ:St}{H H':Hp}{p:PV}{v:V}(h:Out K O ρ σ H H' p v):iq K O H H' p v:=by
 cases p with
 | dat d=>exact h.2.keeps (aK.less fun b z=>.inl z)
 | own ds =>
  obtain⟨a,xs,e1,na,e2,e3,R,f⟩:=h;exact⟨a,xs,e1,e2,e3,f.keeps (aK.less fun b z=>.inl z)⟩
 | ins c ns ds =>
  obtain⟨a,dx,fs,e1,na,e2,e3,m,R,f⟩:=h;exact⟨a,dx,fs,e1,e2,e3,m,f.keeps (aK.less fun b z=>.inl z)⟩
theorem fnP{c:FN}{N:List Str}(hl:LS K [] ts ps)(hn:∀ds Q,c ds Q->ds.length<=N.length)(hc:∀ds Q,c ds Q->ps { nx:=fun _=>Q (.dat .non),rt:=fun p _=>Q p } (bF N.length (ds.map .dat)))
  {vs:List V}{H:Hp}{Q:VK}{E:XK} (h:spP K c vs H Q E):ts { nx:=fun _ H'=>Q .non H',rt:=Q } (start N vs) H:=by
 obtain⟨O,ds,Qc,dom,fv,hq,k⟩:=h
 have nw:∀(ρ:PSt) (b:Addr),ρ=bF N.length (ds.map .dat)->¬ Wr ρ (start N vs) b:=fun ρ b e ⟨i,p,e1,o1,s1⟩=>by
  rw [e] at e1;have:=bK e1;rw [getElem?_map] at this
  cases e2:ds[i]? with
  | none=>rw [e2] at this;cases this
  | some d=>rw [e2] at this;cases this;cases o1
 have lenv:=fv.length;have hle:=hn ds Qc hq
 have R0:Rel K O (bF N.length (ds.map .dat)) (start N vs) H:=by
  refine⟨?_,fun i p e=>?_,fun i j p q v e1 e2 o1 o2 s1 s2=>?_,dom,fun b _ w=>nw _ b rfl w⟩
  .unfold bF start;rw [length_append,length_append,length_map,length_map,length_map,length_replicate,length_replicate,lenv]
  .have:=bK e;rw [getElem?_map] at this
   cases e2:ds[i]? with
   | none=>rw [e2] at this;cases this
   | some d =>
    rw [e2] at this;cases this;obtain⟨v,hv,f⟩:=fv.getD e2;exact⟨v,eh hv,f.keeps (aK.less fun b z=>z.elim id fun w=>absurd w (nw _ b rfl))⟩
  .have:=bK e1;rw [getElem?_map] at this
   cases e3:ds[i]? with
   | none=>rw [e3] at this;cases this
   | some d=>rw [e3] at this;cases this;cases o1
 refine hl [] O (fun _=>False) H _ _ H _ _ rfl R0 ⟨fun _ _ _ h=>h,fun _ h=>h,fun b w=>absurd w (nw _ b rfl),fun p hp=>nomatch hp⟩ (hc ds Qc hq) (fun ρ' σ' H' q r F=>?_) (fun v p ρ' σ' H' q o F=>?_) (fun _ _ _ z=>z.elim) (fun _ _ _ z=>z.elim)
 .exact k _ q .non H' (fun b o e=>F.kp b o id e) .non
 .exact k _ q v H' (fun b o e=>F.kp b o id e) o.outV
abbrev FR:=PV->List D->(PV->PV->Prop)->Prop
def spR(K:PySem.W.Frag)(c:FR):Sp:=fun vs H Q _=>∃(A:Addr->Prop) (a:Addr) (p:PV) (ws:List V) (ds:List D) (Qc:PV->PV->Prop),vs=.ref a::ws/\p.isOwn=true/\(∀b,A b->H b≠none)/\¬ A a/\RS K (c8 A a) H p (.ref a)/\FVs K (c8 A a) H ws ds/\c p ds Qc /\
 ∀r p',Qc r p'->p'.isOwn=true->∀v H',(∀b o,b≠a->H b=some o->H' b=some o)->H' a≠none->RS K (c8 A a) H' p' (.ref a)->iq K (c8 A a) H H' r v->(∀a',v=.ref a'->r.isOwn=true->RS K (c8 (c8 A a) a') H' p' (.ref a))->Q v H'
def bQ(c:FR)(i:Nat)(pr:PTA):PTE:=fun ρ Q=>match ρ[i]? with
 | some (some _)=>pr ρ fun as ρ1=>(match ρ1[i]?,avD as with
  | some (some p),some ds=>p.isOwn=true/\c p ds fun r p'=>Q r (ρ1.set i (some p'))
  | _,_=>False)
 | _=>False
theorem ba{c:FR}{i:Nat}(h:LAs K tr pr):LE K (j6 (spR K c) [] E0 (dX (j0 i) tr)) (bQ c i pr):=fun A ρ σ H Q Q' R q k=>by
 unfold bQ at q
 split at q
 .rename_i p0 e0;obtain⟨v0,s0,_⟩:=R.get i p0 e0;refine⟨v0,s0,h A ρ σ H _ _ R q fun vs H1 as ρ1 q1 f1 R1 o1=>?_⟩
  split at q1
  .rename_i p ds e1 ed;obtain⟨ow,q1⟩:=q1;obtain⟨v1,s1,rs⟩:=R1.get i p e1;rw [s0] at s1;cases s1;obtain⟨a,u,rfl,ea⟩:=rs.ref ow;rw [append_nil];have wa:Wr ρ1 σ a:=⟨i,p,e1,ow,s0⟩
   have oeq:c8 (fun b=>(OO A ρ1 σ b)/\b≠a) a=OO A ρ1 σ:=funext fun b=>propext ⟨fun z=>z.elim (fun z=>z.1) (fun z=>by rw [z];exact .inr wa),fun z=>by
    by_cases e:b=a
    .exact .inr e
    .exact .inl ⟨z,e⟩⟩
   refine⟨fun b=>(OO A ρ1 σ b)/\b≠a,a,p,vs,ds,_,rfl,ow,fun b z=>R1.dom2 b z.1,fun z=>z.2 rfl,by rw [oeq];exact rs,by rw [oeq];exact o1.avD ed,q1,fun r p' qr ow' v H' kp ha rs' ov hx=>?_⟩;rw [oeq] at rs' ov hx
   have domA:∀b,A b->H' b≠none:=fun b z=>by
    have:b≠a:=fun e=>R1.sep b z (by rw [e];exact wa)
    cases eb:H1 b with
    | none=>exact absurd eb (R1.dom b z)
    | some o=>rw [kp b o this eb];exact nofun
   cases r with
   | dat d =>
    obtain⟨R2,f2⟩:=R1.step (A':=A) e1 ow ow' s0 kp ha (fun _ h=>h) (fun _ h=>.inl h) domA rs';exact k v H' _ _ qr (f1.trans f2) ⟨R2,FV.keeps (aK.less fun b z=>z.imp id (f2.ow b)) ov⟩
   | own es =>
    obtain⟨a',xs,rfl,n1,e2,f⟩:=ov;have hx:=hx a' rfl rfl;have na:a'≠a:=fun e=>by rw [e,ea] at n1;cases n1
    have oo2:∀b,OO (c8 A a') ρ1 σ b ↔ c8 (OO A ρ1 σ) a' b:=fun b=>⟨fun z=>by
     rcases z with (z|z)|z
     .exact .inl (.inl z)
     .exact .inr z
     .exact .inl (.inr z),fun z=>by
     rcases z with (z|z)|z
     .exact .inl (.inl z)
     .exact .inr z
     .exact .inl (.inr z)⟩
    have oo2':OO (c8 A a') ρ1 σ=c8 (OO A ρ1 σ) a':=funext fun b=>propext (oo2 b)
    obtain⟨R2,f2⟩:=R1.step (A':=c8 A a') e1 ow ow' s0 kp ha (fun _ h=>.inl h) (fun b z=>z.imp id fun z=>by rw [z];exact n1) (fun b z=>z.elim (domA b) fun z=>by rw [z,e2];exact nofun) (by rw [oo2'];exact hx)
    .refine k _ H' (.own es) _ qr (f1.trans f2) ⟨a',xs,rfl,fun z=>R1.dom a' z n1,?_,e2,R2,f.keeps (aK.less fun b z=>?_)⟩
     .cases eb:H a' with
      | none=>rfl
      | some o=>exact absurd n1 (f1.dm a' (by rw [eb];exact nofun))
     .rw [<- oo2'];exact z.imp id (f2.ow b)
   | ins c ns es =>
    obtain⟨a',dx,fs,rfl,n1,e2,m,f⟩:=ov;have hx:=hx a' rfl rfl
    have oo2':OO (c8 A a') ρ1 σ=c8 (OO A ρ1 σ) a':=funext fun b=>propext ⟨fun z=>by
     rcases z with (z|z)|z
     .exact .inl (.inl z)
     .exact .inr z
     .exact .inl (.inr z),fun z=>by
     rcases z with (z|z)|z
     .exact .inl (.inl z)
     .exact .inr z
     .exact .inl (.inr z)⟩
    obtain⟨R2,f2⟩:=R1.step (A':=c8 A a') e1 ow ow' s0 kp ha (fun _ h=>.inl h) (fun b z=>z.imp id fun z=>by rw [z];exact n1) (fun b z=>z.elim (domA b) fun z=>by rw [z,e2];exact nofun) (by rw [oo2'];exact hx)
    .refine k _ H' (.ins c ns es) _ qr (f1.trans f2) ⟨a',dx,fs,rfl,fun z=>R1.dom a' z n1,?_,e2,m,R2,f.keeps (aK.less fun b z=>?_)⟩
     .cases eb:H a' with
      | none=>rfl
      | some o=>exact absurd n1 (f1.dm a' (by rw [eb];exact nofun))
     .rw [<- oo2'];exact z.imp id (f2.ow b)
  .exact q1.elim
 .exact q.elim
def p8(Q:PV->PV->Prop)(r:PV)(ρ:PSt):Prop:=match ρ[0]? with
 | some (some p)=>p.isOwn=true/\Q r p
 | _=>False
theorem fnR{c:FR}{N:List Str}(hl:LS K [0] ts ps)(hn:∀p ds Q,c p ds Q->ds.length+1<=N.length)(hc:∀p ds Q,p.isOwn=true->c p ds Q->ps { nx:=p8 Q (.dat .non),rt:=p8 Q } (bF N.length (p::ds.map .dat)))
  {vs:List V}{H:Hp}{Q:VK}{E:XK} (h:spR K c vs H Q E):ts { nx:=fun _ H'=>Q .non H',rt:=Q } (start N vs) H:=by
 obtain⟨A,a,p,ws,ds,Qc,rfl,ow,dom,na,rs,fv,hq,k⟩:=h;have s0:(start N (V.ref a::ws))[0]?=some (some (.ref a)):=eh rfl;have b0:(bF N.length (p::ds.map .dat))[0]?=some (some p):=rfl
 have wr:∀b,Wr (bF N.length (p::ds.map .dat)) (start N (.ref a::ws)) b->b=a:=fun b ⟨i,q,e1,o1,s1⟩=>by
  have:=bK e1
  cases i with
  | zero=>rw [s0] at s1;cases s1;rfl
  | succ i =>
   rw [getElem?_cons_succ,getElem?_map] at this
   cases e2:ds[i]? with
   | none=>rw [e2] at this;cases this
   | some d=>rw [e2] at this;cases this;cases o1
 have wa:Wr (bF N.length (p::ds.map .dat)) (start N (.ref a::ws)) a:=⟨0,p,b0,ow,s0⟩
 have oeq:OO A (bF N.length (p::ds.map .dat)) (start N (.ref a::ws))=c8 A a:=funext fun b=>propext ⟨fun z=>z.imp id (wr b),fun z=>z.imp id fun z=>by rw [z];exact wa⟩;have lenv:=fv.length;have hle:=hn p ds Qc hq
 have R0:Rel K A (bF N.length (p::ds.map .dat)) (start N (.ref a::ws)) H:=by
  refine⟨?_,fun i q e=>?_,fun i j q1 q2 v e1 e2 o1 o2 s1 s2=>?_,dom,fun b z w=>?_⟩
  .unfold bF start;simp only [length_append,length_map,length_replicate,length_cons,lenv]
  .have:=bK e;rw [oeq]
   cases i with
   | zero=>cases this;exact⟨_,s0,rs⟩
   | succ i =>
    rw [getElem?_cons_succ,getElem?_map] at this
    cases e2:ds[i]? with
    | none=>rw [e2] at this;cases this
    | some d =>
     rw [e2] at this;cases this;obtain⟨v,hv,f⟩:=fv.getD e2;exact⟨v,eh (by rw [getElem?_cons_succ];exact hv),f⟩
  .have own0:∀(i:Nat) (q:PV),(bF N.length (p::ds.map .dat))[i]?=some (some q)->q.isOwn=true->i=0:=fun i q e o=>by
    have:=bK e
    cases i with
    | zero=>rfl
    | succ i =>
     rw [getElem?_cons_succ,getElem?_map] at this
     cases e2:ds[i]? with
     | none=>rw [e2] at this;cases this
     | some d=>rw [e2] at this;cases this;cases o
   rw [own0 i q1 e1 o1,own0 j q2 e2 o2]
  .rw [wr b w] at z;exact na z
 have fin:∀(v:V) (r:PV) (ρ':PSt) (σ':St) (H':Hp),p8 Qc r ρ'->Out K A ρ' σ' H H' r v->bU [(0,.ref a)] (fun b=>b=a) H ρ' σ' H'->Q v H':=fun v r ρ' σ' H' q o F=>by
  unfold p8 at q
  split at q
  .rename_i p' e';obtain⟨ow',q⟩:=q;have sa:=F.fx (0,.ref a) (mem_singleton.mpr rfl);have wa':Wr ρ' σ' a:=⟨0,p',e',ow',sa⟩
   have kpa:∀b o,b≠a->H b=some o->H' b=some o:=fun b o n e=>F.kp b o n e
   cases r with
   | dat d =>
    obtain⟨R1,f1⟩:=o;obtain⟨v1,s1,rs1⟩:=R1.get 0 p' e';rw [sa] at s1;cases s1;have less:∀b,c8 A a b->OO A ρ' σ' b:=fun b z=>z.imp id fun z=>by rw [z];exact wa'
    exact k _ p' q ow' v H' kpa (R1.wr wa') (rs1.keeps (aK.less less) fun _ _ _=>rfl) (f1.keeps (aK.less less)) (fun _ _ z=>nomatch z)
   | own es =>
    obtain⟨a',xs,rfl,n1,n2,e3,R1,f1⟩:=o;obtain⟨v1,s1,rs1⟩:=R1.get 0 p' e';rw [sa] at s1;cases s1
    have less:∀b,c8 (c8 A a) a' b->OO (c8 A a') ρ' σ' b:=fun b z=>by
     rcases z with (z|z)|z
     .exact .inl (.inl z)
     .exact .inr (by rw [z];exact wa')
     .exact .inl (.inr z)
    exact k _ p' q ow' _ H' kpa (R1.wr wa') (rs1.keeps (aK.less fun b z=>less b (.inl z)) fun _ _ _=>rfl) ⟨a',xs,rfl,n2,e3,f1.keeps (aK.less less)⟩ (fun a'' e _=>by cases e;exact rs1.keeps (aK.less less) fun _ _ _=>rfl)
   | ins c ns es =>
    obtain⟨a',dx,fs,rfl,n1,n2,e3,m,R1,f1⟩:=o;obtain⟨v1,s1,rs1⟩:=R1.get 0 p' e';rw [sa] at s1;cases s1
    have less:∀b,c8 (c8 A a) a' b->OO (c8 A a') ρ' σ' b:=fun b z=>by
     rcases z with (z|z)|z
     .exact .inl (.inl z)
     .exact .inr (by rw [z];exact wa')
     .exact .inl (.inr z)
    exact k _ p' q ow' _ H' kpa (R1.wr wa') (rs1.keeps (aK.less fun b z=>less b (.inl z)) fun _ _ _=>rfl) ⟨a',dx,fs,rfl,n2,e3,m,f1.keeps (aK.less less)⟩ (fun a'' e _=>by cases e;exact rs1.keeps (aK.less less) fun _ _ _=>rfl)
  .exact q.elim
 refine hl [(0,.ref a)] A (fun b=>b=a) H _ _ H _ _ rfl R0 ⟨fun _ _ _ h=>h,fun _ h=>h,fun b w=>.inl (wr b w),fun q hq=>by rw [mem_singleton.mp hq];exact s0⟩ (hc p ds Qc ow hq) (fun ρ' σ' H' q r F=>fin .non (.dat .non) ρ' σ' H' q ⟨r,.non⟩ F) (fun v p ρ' σ' H' q o F=>fin v p ρ' σ' H' q o F) (fun _ _ _ z=>z.elim) (fun _ _ _ z=>z.elim)
end
def uG:FN:=fun as Q=>∃ns:List Int,as=[.scr ns]/\ns.length<=63/\Q (.dat (.bl true))
theorem oY{K:PySem.W.Frag}{vs:List V}{H:Hp}{Q:VK}{E:XK}(h:kd K vs H Q E):spP K uG vs H Q E:=by
 obtain⟨a,ns,rfl,hS,h63,q⟩:=h
 refine⟨fun _=>False,[.scr ns],fun r=>r=.dat (.bl true),nofun,.cons (.scr ?_) .nil,⟨ns,rfl,h63,rfl⟩,fun r e v H' g o=>?_⟩
 .rcases hS with h|h
  .exact .inl ⟨id,h⟩
  .exact .inr h
 .subst e;cases o;exact q H'
section
variable {K:PySem.W.Frag}{X:Cx}
def rF:List V->Hp->VK->Prop:=fun xs H Q=>∃i j,xs=[.int i,.int j]/\Q (.int (if j<i then j else i)) H
theorem nk(hc:X.calm=true):bG X (.builtin "min") rF:=kE hc
def mF:FN
 | [.int i,.int j],Q=>Q (.dat (.int (if j<i then j else i)))
 | _,_=>False
theorem lu:LC K rF mF:=by
 intro O H xs as Q Q' dom fs q k;unfold mF at q
 split at q
 .cases fs with
  | cons a b=>cases b with|cons b c=>cases c;rw [a.int,b.int];exact⟨_,_,rfl,k _ H _ q (Gr.refl _) (.int _)⟩
 .exact q.elim
theorem rG(K:PySem.W.Frag)(e:X.K=K):bG X (.type "list") (lf K):=by subst e;exact ij
def oZ:FN
 | [.lst ds],Q=>Q (.own ds)
 | [.tup ds],Q=>Q (.own ds)
 | [.scr ns],Q=>Q (.own (ns.map .int))
 | _,_=>False
theorem o0:LC K (lf K) oZ:=by
 intro O H xs as Q Q' dom fs q k;unfold oZ at q
 split at q
 .cases fs with
  | cons a b =>
   cases b;obtain⟨p,ys,rfl,e1,f1⟩:=a.lst;exact⟨p,ys,rfl,.inl (SqL.of e1),fun l hl=>k _ _ _ q (Gr.new hl) (cC hl f1)⟩
 .cases fs with
  | cons a b =>
   cases b;obtain⟨p,ys,rfl,n1,e1,f1⟩:=a.tup;exact⟨p,ys,rfl,.inr (SqT.of e1),fun l hl=>k _ _ _ q (Gr.new hl) (cC hl f1)⟩
 .cases fs with
  | cons a b =>
   cases b;obtain⟨p,rfl,e1⟩:=a.scr;exact⟨p,_,rfl,.inl e1,fun l hl=>k _ _ _ q (Gr.new hl) (cC hl (FVs.of_ints _))⟩
 .exact q.elim
variable {ta:TE}{pa:PA1}{tr:TA}{pr:PTA}{pe:PTE}
def sv(i:Int)(n:Nat):List D:=(List.range n).map fun (k:Nat)=>D.int (i+(k:Int))
def mkL(tup:Bool)(ds:List D):PV:=match tup with|true=>.dat (.tup ds)|false=>.own ds
def nq(tup:Bool)(pr:PTA):PTE:=fun ρ Q=>pr ρ fun as ρ1=>match as with
 | [.v (.int i),.v (.int j)]=>(-1000000<=i/\i<=j/\j<=1000000/\j - i<=1000000)/\Q (mkL tup (sv i (j - i).toNat)) ρ1
 | _=>False
theorem rH{O:Addr->Prop}{H:Hp}(i:Int)(n:Nat):FVs K O H (i4 i 1 n) (sv i n):=by
 have e:∀l:List Nat,FVs K O H (l.map fun (k:Nat)=>V.int (i+k*1)) (l.map fun (k:Nat)=>D.int (i+(k:Int))):=fun l=>by
  induction l with
  | nil=>exact .nil
  | cons a r ih=>exact .cons (by show FV K O H (V.int (i+(a:Int)*1)) (D.int (i+(a:Int)));rw [show i+(a:Int)*1=i+(a:Int) by omega];exact .int _) ih
 exact e _
theorem gq{i j:Int}(h:i<=j):Builtin.Range.rangeSize i j 1=(((j - i).toNat:Nat):Int):=by
 unfold Builtin.Range.rangeSize;rw [if_pos (by decide)];simp only [ediv_one];split <;> omega
theorem ki{i j:Int}(h0:-1000000<=i)(h1:i<=j)(h2:j<=1000000):Builtin.Range.small i j 1=true:=by
 unfold Builtin.Range.small;rw [gq h1];simp only [Builtin.Range.rangeFitsLong,and_eq_true,or_eq_true,decide_eq_true_eq,beq_iff_eq,show (1:Int) > 0 by decide,if_true];omega
def mkO(tup:Bool):List V->HO:=match tup with|true=>.tup|false=>.lst
theorem rJ{O:Addr->Prop}{H:Hp}{xs:List V}{ds:List D}{p:Addr}(tup:Bool)(dom:∀b,O b->H b≠none)(hp:H p=none)(f:FVs K O H xs ds):iq K O H (upd H p (mkO tup xs)) (mkL tup ds) (.ref p):=by
 cases tup with
 | true=>exact i6 dom hp f
 | false=>exact cC hp f
theorem mG(tup:Bool)(h:LAs K tr pr):LE K (tCB (sU K (mkO tup)) (dX (fun σ H Q=>tr σ H fun vs H1=>∃i j:Int,vs=[.int i,.int j]/\∀p,H1 p=none->Q (.ref p) (upd H1 p (m8 p i j 1))) me)) (nq tup pr):=fun A ρ σ H Q Q' R q k=>h A ρ σ H _ _ R q fun vs H1 as ρ1 q1 f1 R1 o1=>by
 split at q1
 .rename_i i j
  cases o1 with
  | cons a b =>
   cases b with
   | cons c d =>
    cases d;cases a;cases c;refine⟨i,j,rfl,fun p hp=>⟨p,i,j,1,(j - i).toNat,rfl,aF,ki q1.1.1 q1.1.2.1 q1.1.2.2.1,gq q1.1.2.1,by omega,fun l hl=>?_⟩⟩;have g:Gr H1 (upd H1 p (m8 p i j 1)):=Gr.new hp;have R2:=R1.gr g;have g2:Gr (upd H1 p (m8 p i j 1)) (upd (upd H1 p (m8 p i j 1)) l (mkO tup (i4 i 1 (j - i).toNat))):=Gr.new hl;exact k _ _ _ ρ1 q1.2 (f1.trans (g.fr.trans g2.fr)) ((iq.out R2 g2 (rJ tup R2.dom2 hl (rH i _))).h0 fun b z=>(g.fr (ρ:=ρ1) (σ:=σ)).dm b (f1.dm b z))
 .exact q1.elim
theorem rK(K:PySem.W.Frag)(e:X.K=K)(hc:X.calm=true):bG X (.type "list") (sU K (mkO false)):=by subst e;exact kf hc
def jL(pa:PA1):PTE:=fun ρ Q=>pa ρ fun x ρ1=>match cont ρ1 x with
 | some (.lst ds)=>Q (.own ds.reverse) ρ1
 | _=>False
def jM(K:PySem.W.Frag)(te:TE):TE:=fun σ H Q=>te σ H fun x H1=>∃a xs,x=.ref a/\SqL K H1 a xs/\∀l,H1 l=none->Q (.ref l) (upd H1 l (.lst xs.reverse))
theorem jd{e:Expr}{te:TE}{p p1 p2 pos:Pos}(K:PySem.W.Frag)(eK:X.K=K)(hc:X.calm=true)(he:PE X e te)(hg1:Gl X "list")(hm1:X.mg "list"=none)(hg2:Gl X "reversed")(hm2:X.mg "reversed"=none)
  (hs:starEach [.Call (.Name "reversed" p1) [e] [] p2] X.env=[(false,eval (.Call (.Name "reversed" p1) [e] [] p2) X.env)]:=by rfl) (hs2:starEach [e] X.env=[(false,eval e X.env)]:=by rfl) :
  PE X (.Call (.Name "list" p) [.Call (.Name "reversed" p1) [e] [] p2] [] pos) (jM K te):=by subst eK;exact kh hc he hg1 hm1 hg2 hm2 hs hs2
theorem kj(h:LA1 K ta pa):LE K (jM K ta) (jL pa):=fun A ρ σ H Q Q' R q k=>h A ρ σ H _ _ R q fun v H1 a ρ1 q1 f1 R1 o1=>by
 split at q1
 .rename_i ds e;obtain⟨p,xs,rfl,e1,fs⟩:=(R1.cont o1 e).lst;refine⟨p,xs,rfl,SqL.of e1,fun l hl=>?_⟩;have g:Gr H1 (upd H1 l (.lst xs.reverse)):=Gr.new hl;exact k _ _ _ ρ1 q1 (f1.trans g.fr) ((iq.out (p:=.own ds.reverse) R1 g (cC hl fs.reverse)).h0 f1.dm)
 .exact q1.elim
abbrev FM:=List Nat->List D->(PV->Prop)->Prop
def LM(K:PySem.W.Frag)(r:V->List V->Hp->VK->Prop)(f:FM):Prop:=∀(O:Addr->Prop) (H:Hp) (l:List Nat) (xs:List V) (as:List D) (Q:PV->Prop) (Q':VK),(∀b,O b->H b≠none)->l.length<=1000000->p5 K O H xs as->f l as Q ->
 (∀v H' p,Q p->Gr H H'->iq K O H H' p v->Q' v H')->r (.str (S l)) xs H Q'
def pSM(f:FM)(pe:PTE)(pr:PTA):PTE:=fun ρ Q=>pe ρ fun p ρ1=>match p with
 | .dat (.str l)=>pr ρ1 fun as ρ2=>(match conts ρ2 as with
  | some ds=>f l ds fun r=>Q r ρ2
  | none=>False)
 | _=>False
theorem tR{r:V->List V->Hp->VK->Prop}{f:FM}(o:LM K r f)(he:LE K ta pe)(hr:LAs K tr pr):LE K (tBM K "str" r ta tr) (pSM f pe pr):=fun A ρ σ H Q Q' R q k=>he A ρ σ H _ _ R q fun v H1 p ρ1 q1 f1 o1=>by
 split at q1
 .rename_i l;obtain⟨R1,fv⟩:=o1
  cases fv with
  | str _ hl =>
   refine⟨rfl,hr A ρ1 σ H1 _ _ R1 q1 fun vs H2 as ρ2 q2 f2 R2 o2=>?_⟩
   split at q2
   .rename_i ds e;exact o _ H2 l vs ds _ _ R2.dom2 hl (R2.conts o2 e) q2 fun z H3 p q3 g ov=>k z H3 p ρ2 q3 ((f1.trans f2).trans g.fr) ((ov.out R2 g).h0 fun b z=>f2.dm b (f1.dm b z))
   .exact q2.elim
 .exact q1.elim
def rL:V->List V->Hp->VK->Prop:=fun x xs H Q=>∃a b,x=.str (S a)/\xs=[.str (S b)]/\Q (.bl (decide (b <:+ a))) H
theorem o5:MtR X "str.endswith" rL:=iZ
def o7:FM
 | a,[.str b],Q=>Q (.dat (.bl (decide (b <:+ a))))
 | _,_,_=>False
theorem o8:LM K rL o7:=by
 intro O H l xs as Q Q' dom hl fs q k;unfold o7 at q
 split at q
 .cases fs with|cons a b=>cases b;rw [a.str.1];exact⟨_,_,rfl,rfl,k _ H _ q (Gr.refl _) (.bl _)⟩
 .exact q.elim
def iw(f:Str):List Str->Option Nat
 | []=>none
 | n::r=>if n=f then some 0 else (iw f r).map (·+1)
theorem iy{f:Str}:∀{fs:List (Str×V)}{k:Nat},iw f (fs.map Prod.fst)=some k->fs.lookup f=(fs.map Prod.snd)[k]?
 | [],k,h=>by cases h
 | (n,v)::r,k,h=>by
  unfold iw at h;rw [map_cons] at h;simp only at h;rw [lookup_cons]
  by_cases e:n=f
  .rw [if_pos e] at h;cases h;rw [show (f == n)=true by rw [e];exact beq_self_eq_true _];rfl
  .rw [if_neg e] at h;rw [show (f == n)=false from beq_eq_false_iff_ne.mpr fun z=>e z.symm]
   cases e2:iw f (r.map Prod.fst) with
   | none=>rw [e2] at h;cases h
   | some j=>rw [e2] at h;cases h;show List.lookup f r=_;rw [iy e2];simp
end
abbrev tS:R2:=rI0 fun i j=>.int (i - j)
abbrev rM:R2:=rI (fun _ j=>0<j) fun i j=>.int (i % j)
abbrev tT:R2:=rI sD fun i j=>.int (i / j)
abbrev tU:R2:=rI sE fun i j=>.int (i^j.toNat)
abbrev uW:R2:=rI0 fun i j=>.bl (decide (j<i))
abbrev tV:V->Hp->VK->Prop:=rU fun i=>.int (-i)
abbrev tW:F2:=fI0 fun i j=>.int (i - j)
abbrev eY:F2:=fI (fun _ j=>0<j) fun i j=>.int (i % j)
abbrev tX:F2:=fI (fun _ j=>0<j/\j<1073741824) fun i j=>.int (i / j)
abbrev sw:F2:=fI (fun i j=>0<=j/\j<=1000000/\i.natAbs<2^64) fun i j=>.int (i^j.toNat)
abbrev fGt:F2:=fI0 fun i j=>.bl (decide (j<i))
def sx:D->(PV->Prop)->Prop
 | .int i,Q=>Q (.dat (.int (-i)))
 | _,_=>False
section
variable {K:PySem.W.Frag}{X:Cx}{ta:TE}{tr:TA}{pr:PTA}{ts:TS}{ps:PTS}
theorem o9:OpR X (binaryOp .Sub) tS:=qB
theorem b6:OpR X (binaryOp .Mod) rM:=qD
theorem lv:OpR X (binaryOp .FloorDiv) tT:=nV
theorem mH:OpR X (binaryOp .Pow) tU:=qE
theorem tY:OpR X (compareOp .Gt) uW:=sJ
theorem nr:LU K tV sx:=by
 intro O H x a Q Q' dom fx q k;unfold sx at q
 split at q
 .rename_i i;exact⟨i,fx.int,k _ H _ q (Gr.refl _) (.int _)⟩
 .exact q.elim
theorem uX{ix:List (Option Nat)}{fs:List Nat}{i:Nat}(h:∀k∈fs,k∈p6 ix)(hi:(p6 ix).contains i=false):fs.contains i=false:=by
 cases e:fs.contains i with
 | false=>rfl
 | true =>
  have:=h i (contains_iff_mem.mp e);rw [contains_iff_mem.mpr this] at hi;cases hi
theorem lw{c:FN}{n:Nat}(hn:∀ds Q,c ds Q->ds.length=n){vs:List V}{H:Hp}{Q:VK}{E:XK}(h:spP K c vs H Q E):vs.length=n:=by
 obtain⟨O,ds,Qc,_,f,hq,_⟩:=h;rw [f.length];exact hn ds Qc hq
theorem sy{c:FR}{n:Nat}(hn:∀p ds Q,c p ds Q->ds.length+1=n){vs:List V}{H:Hp}{Q:VK}{E:XK}(h:spR K c vs H Q E):vs.length=n:=by
 obtain⟨A,a,p,ws,ds,Qc,rfl,_,_,_,_,f,hq,_⟩:=h;rw [length_cons,f.length];exact hn p ds Qc hq
abbrev fX(pp:PTS)(n:Nat)(ds:List D)(Q:PV->Prop):Prop:=pp { nx:=fun _=>Q (.dat .non),rt:=fun p _=>Q p } (bF n (ds.map .dat))
abbrev nu(pp:PTS)(n:Nat)(p:PV)(ds:List D)(Q:PV->PV->Prop):Prop:=pp { nx:=p8 Q (.dat .non),rt:=p8 Q } (bF n (p::ds.map .dat))
end
end L2
namespace L2
theorem Cal.imp{P:PySem.Program}{w:PySem.World}{K:PySem.W.Frag}{mg:PySem.Str->Option PySem.Value}{base:PySem.Heap}{k:Nat}{x:PySem.Str}{ps:List PySem.Str}{sp sp':Sp}(C:Cal P w K mg base k x ps sp)(h:∀vs H Q E,sp' vs H Q E->sp vs H Q E):Cal P w K mg base k x ps sp':=by
 obtain⟨f,fd,F,r⟩:=C.ex;exact⟨f,fd,F.imp h,r⟩
end L2
namespace L2
open PySem PySem.Spec PyProof.Rows
theorem cfm{ix:List (Option Nat)}{ρ1:PSt}{n:Nat}{it:Nat->D}{g:PTG}{pt:PTT}{pe:PTE}{Q:PKt}(T:PSt->Prop)(f:Nat->Option D)(h0:T (cP ix ρ1))
  (hs:∀k τ d,k<n->d=it k->T τ->∀(K1:D->PSt->Prop) (K2:PSt->Prop),(∀d τ',f k=some d->T τ'->K1 d τ')->(∀τ',f k=none->T τ'->K2 τ')->g (.dat d) τ fun τ2=>pt τ2 fun ok τ3=>eO ok (pe τ3 fun p τ4=>K1 p.d τ4) (K2 τ3))
  (hq:∀τ,T τ->Q (.own ((List.range n).filterMap f)) (dB ix ρ1 τ)) :
  mE ix ρ1 n it g pt pe Q:=by
 refine⟨fun k ys τ=>ys=(List.range k).filterMap f/\T τ,⟨rfl,h0⟩,fun k ys τ dd hk ed ⟨e,t⟩=>?_,fun ys τ ⟨e,t⟩=>by rw [e];exact hq τ t⟩
 have r:(List.range (k+1)).filterMap f=(List.range k).filterMap f++(f k).toList:=by
  rw [range_succ,filterMap_append]
  cases e:f k with
  | none=>rw [show [k].filterMap f=[] by simp [e]];rfl
  | some d=>rw [show [k].filterMap f=[d] by simp [e]];rfl
 refine hs k τ dd hk ed t (fun d τ'=>(ys++[d]=(List.range (k+1)).filterMap f/\T τ')) (fun τ'=>(ys=(List.range (k+1)).filterMap f/\T τ')) (fun d τ' h t'=>⟨?_,t'⟩) (fun τ' h t'=>⟨?_,t'⟩)
 .rw [r,e,h];rfl
 .rw [r,e,h];simp
theorem uY{ix:List (Option Nat)}{ρ1:PSt}{n:Nat}{it:Nat->D}{g:PTG}{pe:PTE}{Q:PKt}(T:PSt->Prop)(f:Nat->D)(h0:T (cP ix ρ1))
  (hs:∀k τ d,k<n->d=it k->T τ->∀K1:D->PSt->Prop,(∀τ',T τ'->K1 (f k) τ')->g (.dat d) τ fun τ2=>pe τ2 fun p τ4=>K1 p.d τ4)
  (hq:∀τ,T τ->Q (.own ((List.range n).map f)) (dB ix ρ1 τ)) :
  mE ix ρ1 n it g ss pe Q:=by
 refine cfm T (fun k=>some (f k)) h0 (fun k τ d hk ed t K1 K2 k1 k2=>?_) fun τ t=>?_
 .exact hs k τ d hk ed t K1 fun τ' t'=>k1 _ τ' rfl t'
 .have:(List.range n).filterMap (fun k=>some (f k))=(List.range n).map f:=by rw [<- filterMap_eq_map];rfl
  rw [this];exact hq τ t
theorem pd{ns:List Int}{k:Nat}(h:k<(ns.map D.int).length):itD (ns.map D.int) k=.int (ns.getD k 0):=jJ (by
 have h:k<ns.length:=by rwa [length_map] at h
 rw [getElem?_map,getD_eq_getElem?_getD,getElem?_eq_getElem h];rfl)
section
variable {X:Cx}{K:PySem.W.Frag}
def lx(neg:Bool):R2:=fun x y H Q=>∃a b,x=.ref a/\y=.ref b/\H a=some (.dK [])/\H b=some (.dK [])/\Q (.bl (!neg)) H
theorem mI(hu:X.A.units+64<cLine):OpR X (compareOp .Eq) (lx false):=by
 intro pins s σ H x y v u Q I rx ry ⟨a,b,e1,e2,h1,h2,q⟩;subst e1 e2;cases rx;cases ry;obtain⟨_,y1,vs,r1,p1⟩:=(show bc X.prog X.w H s.heap a (.dK []) from I.hok a _ h1)
 obtain⟨_,y2,ws,r2,p2⟩:=(show bc X.prog X.w H s.heap b (.dK []) from I.hok b _ h2)
 cases r1;cases r2;exact PySem.W.keq_eq (r:=true) y1 y2 p1 p2 (by omega) (fun _=>.nil) ⟨.bl true,H,I,rfl,q⟩
theorem mJ(hu:X.A.units+64<cLine):OpR X (compareOp .NotEq) (lx true):=by
 intro pins s σ H x y v u Q I rx ry ⟨a,b,e1,e2,h1,h2,q⟩;subst e1 e2;cases rx;cases ry;obtain⟨_,y1,vs,r1,p1⟩:=(show bc X.prog X.w H s.heap a (.dK []) from I.hok a _ h1)
 obtain⟨_,y2,ws,r2,p2⟩:=(show bc X.prog X.w H s.heap b (.dK []) from I.hok b _ h2)
 cases r1;cases r2;exact PySem.W.keq_ne (r:=true) y1 y2 p1 p2 (by omega) (fun _=>.nil) ⟨.bl false,H,I,rfl,q⟩
def mK(K:PySem.W.Frag)(neg:Bool):R2:=fun x y H Q=>rq K neg x y H Q\/lx neg x y H Q
theorem eZ(K:PySem.W.Frag)(e:X.K=K)(hu:X.A.units+64<cLine):OpR X (compareOp .Eq) (mK K false):=OpR.or (uU K e hu) (mI hu)
theorem rN(K:PySem.W.Frag)(e:X.K=K)(hu:X.A.units+64<cLine):OpR X (compareOp .NotEq) (mK K true):=OpR.or (uV K e hu) (mJ hu)
def jN:F2
 | .dic [] [],.dic [] [],Q=>Q (.dat (.bl true))
 | a,b,Q=>fEq a b Q
def sA:F2
 | .dic [] [],.dic [] [],Q=>Q (.dat (.bl false))
 | a,b,Q=>fNe a b Q
theorem FVc.dic0{O:Addr->Prop}{H:Hp}{v:V}(h:FVc K O H v (.dic [] [])):∃a,v=.ref a/\H a=some (.dK []):=by
 cases h.fv nofun nofun with
 | dic n e m f =>
  rename_i a kvs
  cases kvs with
  | nil=>exact⟨a,rfl,e⟩
  | cons x r=>cases m
theorem c7:LO K (mK K false) jN:=by
 intro O H x y a b Q Q' dom fx fy q k;unfold jN at q
 split at q
 .obtain⟨a,rfl,e1⟩:=fx.dic0;obtain⟨b,rfl,e2⟩:=fy.dic0;exact .inr ⟨a,b,rfl,rfl,e1,e2,k _ H _ q (Gr.refl _) (.bl _)⟩
 .exact .inl (tJ O H x y _ _ Q Q' dom fx fy q k)
theorem nv:LO K (mK K true) sA:=by
 intro O H x y a b Q Q' dom fx fy q k;unfold sA at q
 split at q
 .obtain⟨a,rfl,e1⟩:=fx.dic0;obtain⟨b,rfl,e2⟩:=fy.dic0;exact .inr ⟨a,b,rfl,rfl,e1,e2,k _ H _ q (Gr.refl _) (.bl _)⟩
 .exact .inl (tK O H x y _ _ Q Q' dom fx fy q k)
end
section
variable {prog:Program}{w:World}{A:Around}{E:Value->Shared->Prop}{s:Shared}
theorem iz{it t:Addr}{items:Array Value}(hne:t≠it):∀(n i:Nat) (s:Shared) (Q:List Value->Shared->Prop),s.heap.IsListIter it t i->s.heap.IsList t items->i+n<=items.size ->
  (∀h',h'.IsListIter it t (i+n)->Heap.SameBut it s.heap h'->Q ((items.toList.drop i).take n) { s with heap:=h' })->wpAny (model prog w) A (draw (.ref it) n) Q E s
 | 0,i,s,Q,hit,_,_,hQ=>by
  show wpAny _ _ (pure []) Q E s;exact wpAny_pure (by simpa using hQ s.heap hit (Heap.SameBut.refl ..))
 | n+1,i,s,Q,hit,ht,hle,hQ=>by
  have hlt:i<items.size:=by omega
  show wpAny _ _ (pyNext (.ref it) >>= _) Q E s;refine wpAny_bind (wpAny_pyNext_list_item hit ht (x:=items[i]) (by simp [hlt]) fun h₁ hit₁ hs₁=>?_);refine wpAny_bind (wpAny_holding (iz hne n (i+1) _ _ hit₁ (ht.extBut hs₁.extBut hne) (by omega) fun h₂ hit₂ hs₂=>wpAny_pure ?_));have hd:items.toList.drop i=items[i]::items.toList.drop (i+1):=by simp [drop_eq_getElem_cons,hlt]
  have:=hQ h₂ (by rw [show i+(n+1)=i+1+n by omega];exact hit₂) (hs₁.trans hs₂);rw [hd,take_succ_cons] at this;exact this
theorem e5{t:Addr}{items:Array Value}{Q:List Value->Shared->Prop}(hh:A.handled=none)(ht:s.heap.IsList t items)
  (hQ:∀h',Heap.ExtBut s.heap.objs.size s.heap h'->Q items.toList { s with heap:=h' }):wpAny (model prog w) A (unpackItems (.ref t) items.size none) Q E s:=by
 have hlt:t≠s.heap.objs.size:=by obtain⟨o,ho,_⟩:=ht;exact ne_of_lt (Heap.lt_size ho)
 unfold unpackItems
 refine wpAny_bind ?_
 .unfold notIterableAtAll;refine wpAny_bind (wpAny_specialOf ht.typeIs PySem.F.slot_list_iter.lookup ?_);refine wpAny_pure ?_;simp only [false_eq_true,if_false];refine wpAny_bind (wpAny_holding (wpAny_pyIter_list ht ?_));refine wpAny_bind (wpAny_holding (iz hlt items.size 0 _ _ ⟨_,Heap.get?_push_size _ rfl,rfl,rfl⟩ (ht.push _) (by omega) fun h₁ hit₁ hs₁=>?_))
  have hall:List.take items.size (List.drop 0 items.toList)=items.toList:=by
   rw [drop_zero];exact take_of_length_le (by simp)
  rw [hall];rw [if_neg (by simp)];have ht₁:h₁.IsList t items:=(ht.push _).extBut hs₁.extBut hlt;refine wpAny_bind (wpAny_holding (wpAny_pyNext_list_end hh hit₁ ht₁ (by simp) fun h₂ he₂=>?_));simp only [Option.isSome_none,false_eq_true,if_false];refine wpAny_pure (hQ h₂ fun b o hb e=>he₂ b o hb (hs₁.extBut b o hb (Heap.get?_push_of_some _ e)))
theorem eF{env:Env}{elts:List Expr}{x1}{pos:Pos}{t:Addr}{items:Array Value}{Q:Unit->Shared->Prop}(hh:A.handled=none)(ht:s.heap.IsList t items)
  (hn:(assignEach elts env).length=items.size) (hstar:(assignEach elts env).findIdx? (·.1)=none)
  (h:∀h',Heap.ExtBut s.heap.objs.size s.heap h'->wpAny (model prog w) A (assignInOrder ((assignEach elts env).map (·.2)) items.toList) Q E { s with heap:=h' }) :
  wpAny (model prog w) A (assign (.Tuple elts x1 pos) env (.ref t)) Q E s:=by
 rw [assign_Tuple];refine wpAny_bind (wpAny_standAt ?_);unfold unpack;rw [hn,hstar];exact wpAny_bind (wpAny_holding (e5 hh ht h))
end
def uH(K:PySem.W.Frag)(n:Nat)(t:TGs):TG:=fun v σ H Q=>∃b a xs,v=.ref a/\Sq b K H a xs/\xs.length=n/\t xs σ H Q
section
variable {X:Cx}
theorem rO(K:PySem.W.Frag)(eK:X.K=K){es:List Expr}{k:Nat}{t:TGs}{n:Nat}{pos:Pos}(hc:X.calm=true)(h:PGs X es t)
  (hn:(assignEach es X.env).length=n:=by rfl) (hst:(assignEach es X.env).findIdx? (·.1)=none:=by rfl):PG X (.Tuple es k pos) (uH K n t):=by
 subst eK;intro pins s σ H v u Q I r hw;obtain⟨b,a,xs,e1,hq,hl,hw⟩:=hw
 cases b with
 | true=>exact qv hc h hn hst pins s σ H v u Q I r ⟨a,xs,e1,hq,hl,hw⟩
 | false =>
  subst e1;cases r;obtain⟨its,rv,ht,hz⟩:=I.list hq;refine eF (I.ok.hd hc) ht.isList (by simp [hn,<- hl,rv.length]) hst fun h' hx=>?_;have I1:Inv X pins σ H { s with heap:=h' }:=I.kept (t':=s.toks) fun b o e=>hx b o (ne_of_lt (Heap.lt_size e)) e;exact h pins _ σ H xs _ Q I1 (by simpa using rv) hw
def pq(n:Nat)(gs:oQ):PTG:=fun p ρ Q=>match p with|.dat (.tup ds)=>ds.length=n/\gs ds ρ Q|.dat (.lst ds)=>ds.length=n/\gs ds ρ Q|.own ds=>ds.length=n/\gs ds ρ Q|_=>False
end
section
variable {K:PySem.W.Frag}{fs:List Nat}
theorem rP{n:Nat}{gs:TGs}{pgs:oQ}(h:LGs K fs gs pgs):LG K fs (uH K n gs) (pq n pgs):=fun fx A R H0 ρ σ H p v Q Q' hf F o q k=>by
 unfold pq at q
 split at q
 .obtain⟨r,fv⟩:=o
  cases fv with
  | tup nn e f=>exact⟨true,_,_,rfl,SqT.of e,by rw [f.length];exact q.1,h fx A R H0 ρ σ H _ _ Q Q' hf F r f q.2 fun ρ' σ' q' r' F' _=>k ρ' σ' H q' r' F'⟩
 .obtain⟨r,fv⟩:=o
  cases fv with
  | lst nn e f=>exact⟨false,_,_,rfl,SqL.of e,by rw [f.length];exact q.1,h fx A R H0 ρ σ H _ _ Q Q' hf F r f q.2 fun ρ' σ' q' r' F' _=>k ρ' σ' H q' r' F'⟩
 .obtain⟨r,fv⟩:=o.frz
  cases fv with
  | lst nn e f=>exact⟨false,_,_,rfl,SqL.of e,by rw [f.length];exact q.1,h fx A R H0 ρ σ H _ _ Q Q' hf F r f q.2 fun ρ' σ' q' r' F' _=>k ρ' σ' H q' r' F'⟩
 .exact q.elim
end
def p9(d:D)(xs:List D):Prop:=d=.lst xs\/d=.tup xs
theorem p9.lst(xs:List D):p9 (.lst xs) xs:=.inl rfl
theorem p9.tup(xs:List D):p9 (.tup xs) xs:=.inr rfl
def nSt:Expr->Bool
 | .Starred _ _=>false
 | _=>true
theorem dO{e:Expr}{es:List Expr}{env:Env}(h:nSt e=true):starEach (e::es) env=(false,eval e env)::starEach es env:=by
 cases e <;> first|rfl|cases h
theorem dr{env:Env}{pos:Pos}:∀{es:List Expr},es.all nSt=true->(backTo pos (starEach es env)).any (·.1)=false
 | [],_=>rfl
 | e::es,h=>by
  rw [all_cons,and_eq_true] at h;rw [dO h.1];show (false || (backTo pos (starEach es env)).any (·.1))=false;rw [dr h.2];rfl
section
variable {X:Cx}{k:Nat}{x:Str}{ps:List Str}{sp:Sp}{e:Expr}{es:List Expr}{te:TE}{t:TA}{p pos:Pos}{dvs:List V}{C:Addr}{id T:String}{r:List V->Hp->VK->Prop}
theorem paC(ha:PE X e te)(hr:PA X es t)(hn:nSt e=true:=by rfl):PA X (e::es) (dX te t):=nZ ha hr (dO hn)
theorem aZ(C:Cal X.prog X.w X.K X.mg X.base k x ps sp)(hr:dU k X.A)(ha:PA X (e::es) t)(hg:Gl X x:=by rfl)(hdb:(x == ("__debug__":Str))=false:=by decide)(hn:nSt e=true:=by rfl)(hp:es.all nSt=true:=by rfl) :
  PE X (.Call (.Name x p) (e::es) [] pos) (j6 sp [] E0 t):=rc C hr ha hg hdb (dO hn) (dr hp)
theorem ap(hc:bG X (.builtin id) r)(hg:Gl X x)(hm:X.mg x=none)(hv:bootBuiltins x=some (.builtin id))(ha:PA X (e::es) t)(hnn:x≠"__name__":=by decide)(hdb:(x == ("__debug__":Str))=false:=by decide)(hn:nSt e=true:=by rfl)(hp:es.all nSt=true:=by rfl) :
  PE X (.Call (.Name x p) (e::es) [] pos) (tCB r t):=mh hc hg hm hv ha hnn hdb (dO hn) (dr hp)
theorem gu(hc:bG X (.type T) r)(hg:Gl X x)(hm:X.mg x=none)(hv:bootBuiltins x=some (.type T))(ha:PA X (e::es) t)(hnn:x≠"__name__":=by decide)(hdb:(x == ("__debug__":Str))=false:=by decide)(hn:nSt e=true:=by rfl)(hp:es.all nSt=true:=by rfl) :
  PE X (.Call (.Name x p) (e::es) [] pos) (tCB r t):=kI hc hg hm hv ha hnn hdb (dO hn) (dr hp)
end
def plT:Expr->Bool
 | .Call _ _ _ _=>true
 | .Name _ _=>true
 | .Subscript _ _ _=>true
 | .Attribute _ _ _=>true
 | _=>false
theorem pw{e:Expr}{env:Env}(h:plT e=true):∀whole,isTrue e env whole=(do let v <- whole;standAt e.pos;holding [v] (truthy v)):=by
 cases e <;> first|(intro _;rfl)|cases h
theorem dg{X:Cx}{e:Expr}{t:TE}(h:PE X e t)(hp:plT e=true:=by rfl):PT X e (tB t):=qo h (pw hp)
abbrev vmB:List Value:=[.type "ValueError",.type "Exception",.type "BaseException",.type "object"]
section
variable {prog:Program}{w:World}{A:Around}{E:Value->Shared->Prop}{K:PySem.W.Frag}{h:Heap}{g:Array GenState}{d:Drawn}{t:Nat}{os:OsState}
variable {nm q:Str}{C N:Addr}{bs bm:List Value}{sn:List Str}{sub:List Value}{ab:Bool}{col:Option Bool}{k0 k1 k2 k3 k5:Option Value}
theorem je{rest:List Value}{fI:Addr}{Q:Fin->Shared->Prop}(X:K.In h)(hC:h.get? C=some (excClassObj nm q C N bs bm true sn sub ab col none k0 k1 k2 k3 k5 "ValueError.__new__"))(T:OwnTail h vmB bm)
  (hi:PySem.W.findIn K (.ref C) "__init__"=some (some (.ref fI))) (hf:PySem.W.typeIn K (.ref fI)=some (.type "function")) (hrest:rest.length<=sizeLine)
  (hq:∀h',Heap.MadeExcOf h h' (h.objs.size+1) (.ref C) rest->wpAny (model prog w) A (call (.ref fI) (.ref (h.objs.size+1)::rest)) (fun r s'=>r=.none/\Q (.done (.ret (.ref (h.objs.size+1)))) s') E ⟨h',g,d,t,os⟩) :
  wpAny (model prog w) A (Builtin.«type.__call__» ⟨.ref C::rest,[]⟩) Q E ⟨h,g,d,t,os⟩:=by
 have FV:=PySem.F.excBase_ValueError
 repeat (first
  | with_reducible refine wpAny_loadPart_at hC ?_
  | with_reducible refine wpAny_madeBy_exc hC ?_
  | wp_step)
 refine codeAny_call_builtin_code (Code.quiet_builtin _ FV.quiet) (wpAny_check_new_subT FV T hC ?_);refine codeAny_exc_new_subT FV T hC ?_ hrest;show wpAny _ _ _ _ _ _;generalize hh1:(h.push { cls:=.type "tuple",data:=.seq rest.toArray })=h1;generalize hh2:(h1.push { cls:=.ref C,data:=.fields #[.ref h.objs.size,.none,.none,.none,.bool false,.none] })=h2
 have kp:∀b o,h.get? b=some o->h2.get? b=some o:=fun b o e=>by
  rw [<- hh2,<- hh1];exact Heap.get?_push_of_some _ (Heap.get?_push_of_some _ e)
 have hC2:=kp _ _ hC;have X2:K.In h2:=X.keeps kp;have sz:h1.objs.size=h.objs.size+1:=by rw [<- hh1];exact Heap.size_push ..
 have ge:h2.get? (h.objs.size+1)=some { cls:=.ref C,data:=.fields #[.ref h.objs.size,.none,.none,.none,.bool false,.none] }:=by
  rw [<- hh2,<- sz];exact Heap.get?_push_size _ rfl
 have gt:h2.get? h.objs.size=some { cls:=.type "tuple",data:=.seq rest.toArray }:=by
  rw [<- hh2,<- hh1];exact Heap.get?_push_of_some _ (Heap.get?_push_size _ rfl)
 have cc:(Value.ref C::bm).contains (.ref C)=true:=by simp
 unfold isInstance
 repeat (first
  | with_reducible refine wpAny_loadPart_at ge ?_
  | (with_reducible refine wpAny_isSubtype_exc hC2 ?_;rw [cc])
  | wp_step)
 show wpAny _ _ (typeLookup (.ref C) _) _ _ _;refine (PySem.W.looks_findIn X2 hi).at ?_;refine wpAny_holding (wpAny_bind ((PySem.W.bind_fn X2 _ hf).at ?_));refine wpAny_bind (wpAny_mono (hq h2 ⟨kp,Heap.get?_none_of_le (le_succ _),h.objs.size,ge,Heap.get?_none_of_le (le_refl _),gt⟩) (fun r s' hr=>?_) fun _ _ x=>x);obtain⟨rfl,hQ⟩:=hr
 wp_walk
 exact hQ
theorem pz{rest:List Value}{fI:Addr}{Q:Value->Shared->Prop}(X:K.In h)(hC:h.get? C=some (excClassObj nm q C N bs bm true sn sub ab col none k0 k1 k2 k3 k5 "ValueError.__new__"))(T:OwnTail h vmB bm)
  (hi:PySem.W.findIn K (.ref C) "__init__"=some (some (.ref fI))) (hf:PySem.W.typeIn K (.ref fI)=some (.type "function")) (hrest:rest.length<=sizeLine)
  (hq:∀h',Heap.MadeExcOf h h' (h.objs.size+1) (.ref C) rest->wpAny (model prog w) (A.under (.builtin "type.__call__" ⟨.ref C::rest,[]⟩)) (call (.ref fI) (.ref (h.objs.size+1)::rest)) (fun r s'=>r=.none/\Q (.ref (h.objs.size+1)) s') E ⟨h',g,d,t,os⟩) :
  wpAny (model prog w) A (call (.ref C) rest) Q E ⟨h,g,d,t,os⟩:=by
 have u1:=tc_lookup;have u2:=tc_bind (.ref C);have hT:(⟨h,g,d,t,os⟩:Shared).TypeIs (.ref C) "type":=⟨_,hC,rfl⟩
 refine wpAny_call (codeAny_of_tree ?_);show wpAny _ _ (callAny (.ref C) _) _ _ _
 repeat (any_goals (first
  | assumption
  | with_reducible refine wpAny_loadPart_at hC ?_
  | wp_step))
 refine⟨rfl,?_⟩;refine codeAny_call_builtin_at (Code.quiet_builtin _ (by decide +kernel)) entry_typeCall ?_;refine wpAny_check_type_call_sub hC (je X hC T hi hf hrest fun h' hm=>?_);exact hq h' hm
end
open PySem.Builtin PySem.Builtin.ObjectAttr
section
variable {prog:Program}{w:World}{A:Around}{E:Value->Shared->Prop}{K:PySem.W.Frag}{h:Heap}{g:Array GenState}{d:Drawn}{t:Nat}{os:OsState}
variable {nm q:Str}{C G N x:Addr}{bs:List Value}{sn:List Str}{sub:List Value}{ab:Bool}{col:Option Bool}{k0 k1 k2 k3 k5:Option Value}{name:Str}{v:Value}{o:Obj}{vs:Array Value}
def uI(h h':Heap)(x:Addr)(o:Obj)(name:Str)(v:Value)(dx:Addr):Prop :=
 h'.get? x=some { o with dict:=some dx }/\h.objs.size<=dx/\dx≠x/\h'.Ns1 dx (fun y=>if y=name then some v else none)/\∀b ob,b≠x->h.get? b=some ob->h'.get? b=some ob
theorem gS{tk:Tok}{Q:Fin->Shared->Prop}(X:K.In h)(hC:h.get? C=some (excClassObj nm q C N bs (.ref G::vmB) true sn sub ab col none k0 k1 k2 k3 k5 "ValueError.__new__"))
  (hna:PySem.W.findIn K (.ref C) name=some none) (hx:h.get? x=some o) (hc:o.cls=.ref C) (hd:o.data=.fields vs) (hdn:o.dict=none)
  (hq:∀h' tk' dx,uI h h' x o name v dx->Q (.done (.ret .none)) ⟨h',g,d,tk',os⟩) :
  wpAny (model prog w) A (Builtin.«object.__setattr__» ⟨[.ref x,.str name tk,v],[]⟩) Q E ⟨h,g,d,t,os⟩:=by
 have hpass:=PySem.F.store_ValueError.passes (.ref x);unfold Builtin.«object.__setattr__»
 repeat (first
  | rw [refuse_eq]
  | (rw [refuseLoop_ref,refuseLoop_ref,hpass])
  | (with_reducible refine wpAny_loadPart_at hx ?_;rw [hc])
  | with_reducible refine wpAny_mroOf_exc hC ?_
  | (with_reducible refine (PySem.W.looks_findIn X hna).at ?_)
  | wp_step)
 rw [hdn,if_neg (by simp [typeHasDict])]
 split
 .rename_i hcd;cases hcd
 split
 .rename_i c hcd;rw [hd] at hcd;cases hcd
 .have hx1:(h.push { cls:=.type "dict",data:=.dict #[] }).get? x=some o:=Heap.get?_push_of_some _ hx;have hxs:x≠h.objs.size:=ne_of_lt (Heap.lt_size hx);refine wpAny_bind (wpAny_alloc' ?_);refine wpAny_bind (wpAny_update' hx1 ?_);refine wpAny_pure ?_;generalize hg2:((h.push { cls:=.type "dict",data:=.dict #[] }).update x fun o=>{ cls:=o.cls,dict:=some h.objs.size,data:=o.data,slots:=o.slots })=h2
  have gd:h2.get? h.objs.size=some { cls:=.type "dict",data:=.dict #[] }:=by
   rw [<- hg2];exact (Heap.get?_update_ne _ _ _ _ hxs.symm).trans (Heap.get?_push_at rfl rfl)
  have gx:h2.get? x=some { o with dict:=some h.objs.size }:=by
   rw [<- hg2];refine Heap.get?_update_self _ hx1 ?_;have hfr:=(Heap.get?_some_iff.mp hx).2;obtain⟨oc,od,odt,osl⟩:=o;cases odt <;> first|rfl|exact hfr
  have kp:∀b ob,b≠x->h.get? b=some ob->h2.get? b=some ob:=fun b ob hb e=>by
   rw [<- hg2];exact (Heap.get?_update_ne _ _ _ _ hb).trans (Heap.get?_push_of_some _ e)
  have hnd:h2.Ns h.objs.size (fun _=>none):=⟨_,#[],_,gd,rfl,fun e he=>absurd he (by simp),fun _=>rfl⟩
  show wpAny _ _ (storeInDict h.objs.size (.str name tk) name v) _ _ _;unfold storeInDict newKeyGuard;refine wpAny_bind (wpAny_pure (wpAny_bind (wpAny_nsSet1 (Heap.Ns1.of_empty hnd) fun h' hn' hs=>?_)));obtain⟨oD,esD,epD,hoD,hdD,hcD⟩:=hn'.count (Within.cons name v Within.nil)
  refine wpAny_bind (wpAny_lookBehind hoD (by
   rw [hdD];exact pastItsLine_dict (le_trans hcD (by rw [length_cons,length_nil,sizeLine_eq];omega))) ?_)
  wp_walk
  exact hq h' _ h.objs.size ⟨(hs.2 x hxs).trans gx,le_refl _,hxs.symm,hn',fun b ob hb e=>(hs.2 b (ne_of_lt (Heap.lt_size e))).trans (kp b ob hb e)⟩
theorem pA{Q:Unit->Shared->Prop}(X:K.In h)(hC:h.get? C=some (excClassObj nm q C N bs (.ref G::vmB) true sn sub ab col none k0 k1 k2 k3 k5 "ValueError.__new__"))
  (hsa:PySem.W.findIn K (.ref C) "__setattr__"=some (some (.builtin "object.__setattr__"))) (hna:PySem.W.findIn K (.ref C) name=some none)
  (hx:h.get? x=some o) (hc:o.cls=.ref C) (hd:o.data=.fields vs) (hdn:o.dict=none)
  (hq:∀h' tk' dx,uI h h' x o name v dx->Q () ⟨h',g,d,tk',os⟩) :
  wpAny (model prog w) A (setAttr (.ref x) name v) Q E ⟨h,g,d,t,os⟩:=by
 have SF:=PySem.F.store_ValueError;have u3:=SF.slot.bind (.ref x);unfold setAttr callSpecial? specialOf;refine wpAny_bind (wpAny_mkText (wpAny_bind (wpAny_bind (wpAny_bind (wpAny_typeOf_ref hx ?_)))));rw [hc];refine (PySem.W.looks_findIn X hsa).at ?_;refine wpAny_holding (wpAny_bind (wpAny_of_eq u3 (wpAny_bind (wpAny_call ?_))))
 have own:(Value.ref C::.ref G::vmB).contains (.type "object")=true:=by
  rw [contains_cons,contains_cons,SF.hasOwner,Bool.or_true,Bool.or_true]
 refine codeAny_call_builtin SF.slot.plain SF.entry ?_;simp only [checkBuiltinCall,SF.kind,SF.split];have ha:=SF.args (.ref x) (.str name t) v;show wpAny _ _ (isInstance (.ref x) (.type "object") >>= _) _ _ _;refine wpAny_bind ?_;unfold isInstance;refine wpAny_bind (wpAny_typeOf_ref hx ?_);rw [hc];refine wpAny_isSubtype_exc hC ?_;rw [own]
 have step:∀{Q':Fin->Shared->Prop},(∀s',Q () s'->Q' (.done (.ret .none)) s')->wpAny (model prog w) A.in1 (Builtin.«object.__setattr__» ⟨[.ref x,.str name t,v],[]⟩) Q' E ⟨h,g,d,t+1,os⟩:=fun k =>
  gS X hC hna hx hc hd hdn fun h' tk' dx z=>k _ (hq h' tk' dx z)
 show wpAny _ _ (match Manifest.signature? "object.__setattr__" with|some sig=>Bind.checkArgs "object.__setattr__" sig { pos:=[Value.ref x]++[Value.str name t,v] }|x=>pure ()) _ _ _
 cases hsig:Manifest.signature? "object.__setattr__" with
 | none=>exact wpAny_pure (step fun s' z=>wpAny_pure (wpAny_pure z))
 | some sig =>
  simp only [argsOk,hsig] at ha;have h2:Bind.checkArgs "object.__setattr__" sig ⟨[.ref x,.str name t,v],[]⟩=pure ():=ha;show wpAny _ _ (Bind.checkArgs "object.__setattr__" sig ⟨[.ref x,.str name t,v],[]⟩) _ _ _;rw [h2];exact wpAny_pure (step fun s' z=>wpAny_pure (wpAny_pure z))
end
open PySem.Builtin PySem.Builtin.ObjectAttr
section
variable {prog:Program}{w:World}{A:Around}{E:Value->Shared->Prop}{K:PySem.W.Frag}{h:Heap}{g:Array GenState}{d:Drawn}{t:Nat}{os:OsState}
variable {nm q:Str}{C G N x dx:Addr}{bs:List Value}{sn:List Str}{sub:List Value}{ab:Bool}{col:Option Bool}{k0 k1 k2 k3 k5:Option Value}{name:Str}{v:Value}{o:Obj}{vs:Array Value}{mA:Str->Option Value}
theorem iA{tk:Tok}{Q:Fin->Shared->Prop}(X:K.In h)(hC:h.get? C=some (excClassObj nm q C N bs (.ref G::vmB) true sn sub ab col none k0 k1 k2 k3 k5 "ValueError.__new__"))
  (hna:PySem.W.findIn K (.ref C) name=some none) (hx:h.get? x=some o) (hc:o.cls=.ref C) (hd:o.data=.fields vs) (hdx:o.dict=some dx) (hns:h.Ns dx mA) (hv:mA name=some v)
  (hq:Q (.done (.ret v)) ⟨h,g,d,t,os⟩):wpAny (model prog w) A (Builtin.«object.__getattribute__» ⟨[.ref x,.str name tk],[]⟩) Q E ⟨h,g,d,t,os⟩:=by
 unfold Builtin.«object.__getattribute__»
 repeat (first
  | (with_reducible refine wpAny_loadPart_at hx ?_;rw [hc])
  | (with_reducible refine (PySem.W.looks_findIn X hna).at ?_)
  | wp_step)
 rw [hd];show wpAny _ _ (instanceDict x false) _ _ _;unfold instanceDict
 repeat (first
  | (with_reducible refine wpAny_loadPart_at hx ?_;rw [hc])
  | with_reducible refine wpAny_loadPart_at hC ?_
  | wp_step)
 rw [hdx]
 repeat (first
  | (with_reducible refine wpAny_nsGet hns ?_;rw [hv])
  | wp_step)
 exact hq
end
open PySem.Builtin PySem.Builtin.ObjectAttr
section
variable {prog:Program}{w:World}{A:Around}{E:Value->Shared->Prop}{K:PySem.W.Frag}{h:Heap}{g:Array GenState}{d:Drawn}{t:Nat}{os:OsState}
variable {nm q:Str}{C G N x dx:Addr}{bs:List Value}{sn:List Str}{sub:List Value}{ab:Bool}{col:Option Bool}{k0 k1 k2 k3 k5:Option Value}{name:Str}{v:Value}{o:Obj}{vs:Array Value}{mA:Str->Option Value}
theorem ly{R:Result->Shared->Prop}(hC:h.get? C=some (excClassObj nm q C N bs (.ref G::vmB) true sn sub ab col none k0 k1 k2 k3 k5 "ValueError.__new__"))(hx:h.get? x=some o)(hc:o.cls=.ref C)
  (hq:R (.ok (.ret (.ref C))) ⟨h,g,d,t,os⟩):codeAny (model prog w) A (.call (.builtin "getset_descriptor.__get__") ⟨[.builtin "object.__class__",.ref x,.ref C],[]⟩) R ⟨h,g,d,t,os⟩:=by
 have hT5:(⟨h,g,d,t,os⟩:Shared).TypeIs (.builtin "object.__class__") "getset_descriptor":=PySem.F.typeOf_object_class
 have own:(Value.ref C::.ref G::vmB).contains (.type (".".intercalate ("object.__class__".cutAt '.').dropLast))=true:=by
  rw [PySem.F.owner_object_class];rfl
 refine codeAny_call_builtin PySem.F.slot_gs_get.plain PySem.F.entry_gs_get ?_;refine PySem.F.slot_gs_get.check _ _ _ _ _ _ _ _ hT5 (PySem.F.args_gs_get _ _ _) ?_
 repeat (any_goals (first
  | assumption
  | (with_reducible refine wpAny_loadPart_at hx ?_;rw [hc])
  | (with_reducible refine wpAny_isSubtype_exc hC ?_;rw [own])
  | wp_step))
 refine⟨Code.quiet_builtin _ (by decide +kernel),codeAny_builtin PySem.F.entry_object_class ?_⟩
 repeat (any_goals (first
  | assumption
  | (with_reducible refine wpAny_loadPart_at hx ?_;rw [hc])
  | wp_step))
theorem jf{tk:Tok}{Q:Fin->Shared->Prop}(X:K.In h)(hC:h.get? C=some (excClassObj nm q C N bs (.ref G::vmB) true sn sub ab col none k0 k1 k2 k3 k5 "ValueError.__new__"))(hx:h.get? x=some o)(hc:o.cls=.ref C)
  (hcl:PySem.W.findIn K (.ref C) "__class__"=some (some (.builtin "object.__class__"))) (hq:Q (.done (.ret (.ref C))) ⟨h,g,d,t,os⟩) :
  wpAny (model prog w) A (Builtin.«object.__getattribute__» ⟨[.ref x,.str "__class__" tk],[]⟩) Q E ⟨h,g,d,t,os⟩:=by
 have u5:=PySem.F.typeOf_object_class;have u6:=PySem.F.slot_gs_get.lookup;have u7:=PySem.F.slot_gs_set.lookup;unfold Builtin.«object.__getattribute__»
 repeat (any_goals (first
  | assumption
  | (with_reducible refine wpAny_loadPart_at hx ?_;rw [hc])
  | (with_reducible refine (PySem.W.looks_findIn X hcl).at ?_)
  | wp_step))
 refine ly hC hx hc ?_
 repeat (any_goals (first
  | assumption
  | wp_step))
end
open PySem.Builtin PySem.Builtin.ObjectAttr
section
variable {prog:Program}{w:World}{A:Around}{E:Value->Shared->Prop}{K:PySem.W.Frag}{h:Heap}{g:Array GenState}{d:Drawn}{t:Nat}{os:OsState}
variable {nm q:Str}{C G N x dx:Addr}{bs:List Value}{sn:List Str}{sub:List Value}{ab:Bool}{col:Option Bool}{k0 k1 k2 k3 k5:Option Value}{name:Str}{v:Value}{o:Obj}{vs:Array Value}{mA:Str->Option Value}
theorem uJ{fill expr:Bool}{tk:Tok}{Q:Value->Shared->Prop}(X:K.In h)(hC:h.get? C=some (excClassObj nm q C N bs (.ref G::vmB) true sn sub ab col none k0 k1 k2 k3 k5 "ValueError.__new__"))
  (hga:PySem.W.findIn K (.ref C) "__getattribute__"=some (some (.builtin "BaseException.__getattribute__"))) (hgh:PySem.W.findIn K (.ref C) "__getattr__"=some none)
  (hx:h.get? x=some o) (hc:o.cls=.ref C) (hh:handedOut v=pure v)
  (step:∀{Q':Fin->Shared->Prop}{E':Value->Shared->Prop},Q' (.done (.ret v)) ⟨h,g,d,t,os⟩->wpAny (model prog w) A.in1 (Builtin.«object.__getattribute__» ⟨[.ref x,.str name tk],[]⟩) Q' E' ⟨h,g,d,t,os⟩)
  (hq:Q v ⟨h,g,d,t,os⟩):wpAny (model prog w) A (getAttrBy (.ref x) (.str name tk) fill expr) Q E ⟨h,g,d,t,os⟩:=by
 unfold getAttrBy;refine wpAny_holding (wpAny_bind (wpAny_typeOf_ref hx ?_));rw [hc];refine wpAny_bind ((PySem.W.looks_findIn X hga).at ?_);have hx2:(Value.builtin "BaseException.__getattribute__" == Value.builtin "object.__getattribute__")=false:=by decide +kernel
 show wpAny _ _ (if (onTheHeap (.ref C) && (Value.builtin "BaseException.__getattribute__" == Value.builtin "object.__getattribute__"))=true then _ else _) _ _ _;rw [hx2,Bool.and_false,if_neg (by decide)];unfold getAttrByItsOwn;refine wpAny_bind ((PySem.W.looks_hook X (r:=none) (by rw [if_pos (by rfl)];exact hgh)).at ?_);refine wpAny_bind (wpAny_attempt ?_);unfold callGetattribute;refine wpAny_holding ?_
 rw [if_neg (by cases expr <;> decide)];unfold boundAndCalled;have FB:=PySem.F.attrBase_ValueError
 have own:(Value.ref C::.ref G::vmB).contains (.type "BaseException")=true:=by
  rw [contains_cons,contains_cons,FB.hasBase,Bool.or_true,Bool.or_true]
 have ha:=PySem.F.args_bexc_ga (.ref x) (.str name tk);have hk:builtinKind "BaseException.__getattribute__"=some .slot:=by decide +kernel
 have hsp:splitId "BaseException.__getattribute__"=some ("BaseException","__getattribute__"):=by decide +kernel
 refine wpAny_bind (wpAny_of_eq (FB.ga.bind (.ref x)) ?_);refine wpAny_call (codeAny_call_builtin FB.ga.plain PySem.F.entry_bexc_ga ?_);simp only [checkBuiltinCall,hk,hsp];show wpAny _ _ (isInstance (.ref x) (.type "BaseException") >>= _) _ _ _;refine wpAny_bind ?_;unfold isInstance;refine wpAny_bind (wpAny_typeOf_ref hx ?_);rw [hc];refine wpAny_isSubtype_exc hC ?_;rw [own];have done:wpAny (model prog w) A (handedOut v) Q E ⟨h,g,d,t,os⟩:=by rw [hh];exact wpAny_pure hq
 show wpAny _ _ (match Manifest.signature? "BaseException.__getattribute__" with|some sig=>Bind.checkArgs "BaseException.__getattribute__" sig { pos:=[Value.ref x]++[Value.str name tk] }|x=>pure ()) _ _ _
 cases hsig:Manifest.signature? "BaseException.__getattribute__" with
 | none=>exact wpAny_pure (step done)
 | some sig =>
  simp only [argsOk,hsig] at ha;have h2:Bind.checkArgs "BaseException.__getattribute__" sig ⟨[.ref x,.str name tk],[]⟩=pure ():=ha;show wpAny _ _ (Bind.checkArgs "BaseException.__getattribute__" sig ⟨[.ref x,.str name tk],[]⟩) _ _ _;rw [h2];exact wpAny_pure (step done)
theorem pD{Q:Option Value->Shared->Prop}(X:K.In h)(hC:h.get? C=some (excClassObj nm q C N bs (.ref G::vmB) true sn sub ab col none k0 k1 k2 k3 k5 "ValueError.__new__"))
  (hga:PySem.W.findIn K (.ref C) "__getattribute__"=some (some (.builtin "BaseException.__getattribute__"))) (hgh:PySem.W.findIn K (.ref C) "__getattr__"=some none)
  (hcl:PySem.W.findIn K (.ref C) "__class__"=some (some (.builtin "object.__class__"))) (hx:h.get? x=some o) (hc:o.cls=.ref C) (hq:Q (some (.ref C)) ⟨h,g,d,t+1,os⟩) :
  wpAny (model prog w) A (getAttr? (.ref x) "__class__") Q E ⟨h,g,d,t,os⟩:=by
 unfold getAttr? getAttrBy?;refine wpAny_bind (wpAny_mkText (wpAny_bind (wpAny_attempt ?_)));exact uJ X hC hga hgh hx hc rfl (fun k=>jf X hC hx hc hcl k) (wpAny_pure hq)
structure XC (K:PySem.W.Frag) (C G:Addr):Prop where
 obj:∃nm q N bs sn sub ab col k0 k1 k2 k3 k5,K.lookup C=some (excClassObj nm q C N bs (.ref G::vmB) true sn sub ab col none k0 k1 k2 k3 k5 "ValueError.__new__")
 ga:PySem.W.findIn K (.ref C) "__getattribute__"=some (some (.builtin "BaseException.__getattribute__"))
 gh:PySem.W.findIn K (.ref C) "__getattr__"=some none
 sa:PySem.W.findIn K (.ref C) "__setattr__"=some (some (.builtin "object.__setattr__"))
 cl:PySem.W.findIn K (.ref C) "__class__"=some (some (.builtin "object.__class__"))
theorem jO{dd:Option Addr}{new:Bool}(c:XC K C G):PySem.W.KitX K (.ref x) (.ref C) (XAt x C dd new) where
 ty:=fun M h X p=>by
  obtain⟨o,vs,h1,h2,_⟩:=p;exact h2 ▸ (PySem.W.Looks.ld h1).andThen .now
 it:=fun M h X p=>by
  obtain⟨nm,q,N,bs,sn,sub,ab,col,k0,k1,k2,k3,k5,e⟩:=c.obj;intro A' Q' E' s' k q;unfold isType loadHead;exact wpAny_bind (wpAny_loadPart (k _ _ (X _ _ e)) (wpAny_pure q))
 ne:=fun h tp dd its n sl X htp=>by
  obtain⟨nm,q,N,bs,sn,sub,ab,col,k0,k1,k2,k3,k5,e⟩:=c.obj;refine eq_false_iff.mpr fun z=>?_;have e2:C=tp:=Value.ref.inj (beq_iff_eq.mp z);subst e2;have e3:=congrArg Obj.data (Option.some.inj ((X _ _ e).symm.trans htp));cases e3
 ca:=fun {prog w A E Q s} X p k=>by
  obtain⟨h,g,d,t,os⟩:=s;obtain⟨o,vs,h1,h2,_⟩:=p;obtain⟨nm,q,N,bs,sn,sub,ab,col,k0,k1,k2,k3,k5,e⟩:=c.obj;exact pD X (X _ _ e) c.ga c.gh c.cl h1 h2 k
end
theorem lz{v:V}{u:Value}(r:ck v u):handedOut u=pure u:=by
 cases v with
 | non=>cases (show u=Value.none from r);rfl
 | bl b=>cases (show u=Value.bool b from r);rfl
 | int i=>obtain⟨t,e⟩:=(show ∃t,u=Value.int i t from r);subst e;rfl
 | str x=>obtain⟨t,e⟩:=(show ∃t,u=Value.str x t from r);subst e;rfl
 | flt x=>obtain⟨t,e⟩:=(show ∃t,u=Value.float x t from r);subst e;rfl
 | ty n=>cases (show u=Value.type n from r);rfl
 | byt b=>obtain⟨t,e⟩:=(show ∃t,u=Value.bytes b t from r);subst e;rfl
 | ref a=>cases (show u=Value.ref a from r);rfl
theorem XAt.ok{P:Program}{w:World}{H:Hp}{h:Heap}{x C:Addr}{dd:Option Addr}{new:Bool}(p:XAt x C dd new h):bc P w H h x (.ext (XAt x C dd new)):=by
 obtain⟨o,vs,h1,h2,h3,h4⟩:=id p;exact⟨p,⟨o,h1⟩,fun g1 g2 ⟨o',vs',a1,a2⟩ k=>⟨o',vs',k _ a1,a2⟩⟩
section
variable {X:Cx}{pins:List (Addr×Obj)}{σ:St}{H:Hp}{s:Shared}{a dx C G:Addr}{f:Str}{v:V}{fs:List (Str×V)}{A:Around}{E:Value->Shared->Prop}
theorem uZ{b new:Bool}{Q:Value->Shared->Prop}(I:Inv X pins σ H s)(ea:H a=some (.ext (XAt a C (some dx) new)))(ed:H dx=some (.xd fs))(c:XC X.K C G)(n:PySem.W.findIn X.K (.ref C) f=some none)(l:fs.lookup f=some v)
  (h:∀u s',Inv X pins σ H s'->ck v u->Q u s'):wpAny (model X.prog X.w) A (getAttr (.ref a) f b) Q E s:=by
 obtain⟨⟨o,vs,h1,h2,h3,h4,h5⟩,_,_⟩:=(show bc X.prog X.w H s.heap a (.ext (XAt a C (some dx) new)) from I.hok a _ ea)
 obtain⟨mA,hns,r⟩:=(show bc X.prog X.w H s.heap dx (.xd fs) from I.hok dx _ ed)
 obtain⟨u,hu,ru⟩:=mV.some_of (v:=v) (o:=mA f) (by rw [<- l];exact r f);obtain⟨nm,q,N,bs,sn,sub,ab,col,k0,k1,k2,k3,k5,e⟩:=c.obj;have I2:=I.tok (s.toks+1);have X2:=I.kIn;obtain⟨hh,g,d,t,os⟩:=s;unfold getAttr;refine wpAny_bind (wpAny_mkText ?_);exact uJ X2 (X2 _ _ e) c.ga c.gh h1 h2 (lz ru) (fun k=>iA X2 (X2 _ _ e) n h1 h2 h4 h3 hns.ns hu k) (h u _ I2 ru)
theorem Un.setX{h h':Heap}{fs ex:List Addr}{o:HO}{o2:HO}(mu:Mut (H a))(hx:H dx=none)(hd:h.get? dx=none)(k:∀b ob,b≠a->h.get? b=some ob->h'.get? b=some ob)(ha:∃o,h'.get? a=some o):Un fs ex H (upd (upd H dx o) a o2) h h':=by
 have na:∀b,H b=none->b≠a:=fun b n z=>by subst z;rw [n] at mu;exact mu
 have nd:∀b ob,h.get? b=some ob->b≠dx:=fun b ob e z=>by rw [z,hd] at e;cases e
 have hm:∀b u,H b=some u->¬ Mut (some u)->b≠a/\b≠dx:=fun b u q nm=>⟨fun z=>by subst z;rw [q] at mu;exact nm mu,fun z=>by subst z;rw [hx] at q;cases q⟩
 refine⟨fun b u q n _ _=>k b u (na b n) q,fun b u q n _ _=>⟨u.slots,k b u (na b n) q⟩,fun b u q n _=>by rw [ao (na b n),ao (nd b u q)];exact n,fun b u q _=>?_,
  fun b xs q=>by rw [ao (hm b _ q fun z=>z).1,ao (hm b _ q fun z=>z).2];exact q,fun b u xs q=>by rw [ao (hm b _ q fun z=>z).1,ao (hm b _ q fun z=>z).2];exact q,
  fun b ps q=>⟨#[],by rw [ao (hm b _ q fun z=>z).1,ao (hm b _ q fun z=>z).2,q];simp⟩⟩
 by_cases hb:b=a
 .subst hb;exact ha
 .exact⟨u,k b u hb q⟩
theorem setX{new:Bool}{y:V}{u:Value}{Q:Unit->Shared->Prop}(I:Inv X pins σ H s)(ea:H a=some (.ext (XAt a C none new)))(c:XC X.K C G)(n:PySem.W.findIn X.K (.ref C) f=some none)(ry:ck y u)
  (h:∀dx s',H dx=none->Inv X pins σ (upd (upd H dx (.xd [(f,y)])) a (.ext (XAt a C (some dx) new))) s'->Q () s'):wpAny (model X.prog X.w) A (setAttr (.ref a) f u) Q E s:=by
 obtain⟨⟨o,vs,h1,h2,h3,h4,h5⟩,_,_⟩:=(show bc X.prog X.w H s.heap a (.ext (XAt a C none new)) from I.hok a _ ea)
 obtain⟨nm,q,N,bs,sn,sub,ab,col,k0,k1,k2,k3,k5,e⟩:=c.obj;have X2:=I.kIn;obtain⟨hh,g,d,t,os⟩:=s;refine pA X2 (X2 _ _ e) c.sa n h1 h2 h4 h3 fun h' tk' dx z=>?_;obtain⟨z1,z2,z3,z4,z5⟩:=z;have hdx:H dx=none:=I.hok.fresh z2;have hg0:hh.get? dx=none:=Heap.get?_none_of_le z2;have hne:dx≠a:=z3;have mu:Mut (H a):=by rw [ea];exact True.intro
 refine h dx _ hdx (I.un (t':=tk') (Un.setX mu hdx hg0 z5 ⟨_,z1⟩) fun b ob eb=>?_)
 by_cases hb:b=a
 .subst hb;rw [aF] at eb;cases eb;exact XAt.ok ⟨_,vs,z1,h2,rfl,h4,h5⟩
 .rw [ao hb] at eb
  by_cases hb2:b=dx
  .subst hb2;rw [aF] at eb;cases eb;refine⟨_,z4,fun y'=>?_⟩;show mV (List.lookup y' [(f,y)]) _
   by_cases q:y'=f
   .subst q;rw [if_pos rfl];have e1:List.lookup y' [(y',y)]=some y:=by simp [List.lookup]
    rw [e1];exact ry
   .rw [if_neg q];have:(y' == f)=false:=beq_eq_false_iff_ne.mpr q;simp [List.lookup,this,mV]
  .rw [ao hb2] at eb
   refine (I.hok b ob eb).stay (fun c w hc e=>?_) (fun c e=>?_) fun c xs e=>?_
   .refine z5 c w ?_ e;rintro rfl
    rcases hc with hc|hc
    .exact hb hc.symm
    .rw [ea] at hc;cases hc
   .rw [ao,ao]
    .exact e
    .rintro rfl;rw [hdx] at e;cases e
    .rintro rfl;rw [ea] at e;cases e
   .rw [ao,ao]
    .exact e
    .rintro rfl;rw [hdx] at e;cases e
    .rintro rfl;rw [ea] at e;cases e
end
section
variable {X:Cx}{o e value:Expr}{f:Str}{pos pos':Pos}{ta tv:TE}
def pE(K:PySem.W.Frag)(ta:TE)(f:Str):TE:=fun σ H Q=>ta σ H fun x H1=>∃a C G dx new fs v,x=.ref a/\H1 a=some (.ext (XAt a C (some dx) new))/\H1 dx=some (.xd fs)/\XC K C G/\PySem.W.findIn K (.ref C) f=some none/\fs.lookup f=some v/\Q v H1
theorem pF(he:PE X e ta)(hb:attributeBase e f X.env (eval e X.env)=eval e X.env):PE X (.Attribute e f pos) (pE X.K ta f):=by
 intro pins s σ H Q I h;refine nY hb (thn (he pins s σ H _ I h) fun u s1 ⟨x,H1,I1,rx,a,C,G,dx,new,fs,v,ex,ea,ed,c,n,l,q⟩=>?_);subst ex;obtain rfl:u=Value.ref a:=rx;exact uZ I1 ea ed c n l fun u' s2 I2 ru=>⟨v,H1,I2,ru,q⟩
def pG(K:PySem.W.Frag)(ta tv:TE)(f:Str):TS:=fun D σ H=>tv σ H fun y H1=>ta σ H1 fun x H2=>∃a C G new,x=.ref a/\H2 a=some (.ext (XAt a C none new))/\XC K C G/\PySem.W.findIn K (.ref C) f=some none /\
 ∀dx,H2 dx=none->D.nx σ (upd (upd H2 dx (.xd [(f,y)])) a (.ext (XAt a C (some dx) new)))
theorem pH(ha:PE X o ta)(hv:PE X value tv)(hs:swapsWith value (some (.Attribute o f pos')) pos.line X.env=pure false):PS X (.Assign [.Attribute o f pos'] value pos) (pG X.K ta tv f):=by
 intro pins s σ H D I h;refine plainObj_wpAny_Assign_Attribute (thn (hv pins s σ H _ I h) fun u s1 ⟨y,H1,I1,ry,q⟩=>thn (ha pins s1 σ H1 _ I1 q) fun ov s2 ⟨x,H2,I2,rx,a,C,G,new,ex,ea,c,n,q2⟩=>?_) hs;subst ex;obtain rfl:ov=Value.ref a:=rx;exact setX I2 ea c n ry fun dx s3 hdx I3=>⟨σ,_,I3,q2 dx hdx⟩
end
theorem bc.there{P:Program}{w:World}{H:Hp}{h:Heap}{a:Addr}{o:HO}(x:bc P w H h a o):∃ob,h.get? a=some ob:=by
 cases o with
 | lst xs=>obtain⟨_,_,_,_,e⟩:=x;exact⟨_,e⟩
 | tup xs=>obtain⟨_,_,_,ob,e,_⟩:=x;exact⟨ob,e⟩
 | dK kvs=>obtain⟨_,_,_,_,o,_,_,e,_⟩:=x;exact⟨o,e⟩
 | dT kvs=>obtain⟨_,_,_,_,o,_,_,e,_⟩:=x;exact⟨o,e⟩
 | set S n=>obtain⟨o,_,_,_,e,_⟩:=x;exact⟨o,e⟩
 | ins C dx fs=>obtain⟨_,_,_,e,_⟩:=x;exact⟨_,e⟩
 | own y=>exact x
 | xd fs=>obtain⟨_,⟨o,_,_,e,_⟩,_⟩:=x;exact⟨o,e⟩
 | rng lo hi=>obtain⟨_,_,_,e⟩:=x;exact⟨_,e⟩
 | frz ob u=>obtain⟨e,_⟩:=x;exact⟨ob,e⟩
 | tbl ps=>exact⟨_,(show h.get? a=some _ from x)⟩
 | met f y=>exact⟨_,(show h.get? a=some _ from x)⟩
 | ext φ=>exact x.2.1
theorem HOk.not{P:Program}{w:World}{H:Hp}{h:Heap}{a:Addr}(x:HOk P w H h)(e:h.get? a=none):H a=none:=by
 cases q:H a with
 | none=>rfl
 | some u=>obtain⟨ob,e2⟩:=(x a u q).there;rw [e] at e2;cases e2
section
variable {X:Cx}{pins:List (Addr×Obj)}{σ:St}{H:Hp}{s:Shared}{h':Heap}{a:Addr}{o:HO}
theorem Inv.news{t':Nat}(I:Inv X pins σ H s)(k:∀b u,s.heap.get? b=some u->h'.get? b=some u)(hn:s.heap.get? a=none)(new:bc X.prog X.w (upd H a o) h' a o):Inv X pins σ (upd H a o) { s with heap:=h',toks:=t' }:=by
 have ha:=I.hok.not hn
 refine I.un ⟨fun b u q _ _ _=>k b u q,fun b u q _ _ _=>⟨u.slots,k b u q⟩,fun b u q n _=>?_,fun b u q _=>⟨u,k b u q⟩,fun b xs q=>?_,fun b u xs q=>?_,fun b ps q=>⟨#[],?_⟩⟩ fun b u q=>?_
 .rw [ao (fun z=>by rw [z,hn] at q;cases q)];exact n
 .rw [ao (aQ q ha)];exact q
 .rw [ao (aQ q ha)];exact q
 .rw [ao (aQ q ha),q];simp
 .by_cases hb:b=a
  .subst hb;rw [aF] at q;cases q;exact new
  .rw [ao hb] at q;exact (I.hok b u q).stay (fun c v _ e=>k c v e) (fun c e=>by rw [ao (aQ e ha)];exact e) fun c xs e=>by rw [ao (aQ e ha)];exact e
end
structure XM (K:PySem.W.Frag) (C G fI:Addr):Prop where
 c:XC K C G
 tail:∀h:Heap,K.In h->OwnTail h vmB (.ref G::vmB)
 init:PySem.W.findIn K (.ref C) "__init__"=some (some (.ref fI))
 fn:PySem.W.typeIn K (.ref fI)=some (.type "function")
 kp:PySem.W.keepIn K (.ref C)=true
def ny(K:PySem.W.Frag)(f:Str):Sp:=fun vs H Q _=>∃a C G new v,vs=[.ref a,v]/\H a=some (.ext (XAt a C none new))/\XC K C G/\PySem.W.findIn K (.ref C) f=some none/\∀dx,H dx=none->Q .non (upd (upd H dx (.xd [(f,v)])) a (.ext (XAt a C (some dx) new)))
structure kl (P:Program) (w:World) (K:PySem.W.Frag) (mg:Str->Option Value) (base:Heap) (k:Nat) (C:Addr) (x f:Str):Prop where
 ex:∃(G fI:Addr) (fd:FuncData) (ps:List Str),iW P w K mg base CX0 k fI fd ps (ny K f)/\gF K fd ps []/\XM K C G fI/\PySem.W.findIn K (.ref C) f=some none/\mg x=some (.ref C)
def rQ(C:Addr)(f:Str)(t:TA):TE:=fun σ H Q=>t σ H fun vs H1=>∃v,vs=[v]/\∀e dx,H1 e=none->H1 dx=none->dx≠e->Q (.ref e) (upd (upd H1 dx (.xd [(f,v)])) e (.ext (XAt e C (some dx) true)))
section
variable {X:Cx}{k:Nat}{C:Addr}{x f:Str}{p pos:Pos}{e:Expr}{es:List Expr}{t:TA}
theorem mL{pins:List (Addr×Obj)}{σ:St}{H:Hp}{s:Shared}{Q:VK}{u:Value}{v:V}(M:kl X.prog X.w X.K X.mg X.base k C x f)(hr:dU (k+1) X.A)(I:Inv X pins σ H s)(r:ck v u)
  (h:∀e dx,H e=none->H dx=none->dx≠e->Q (.ref e) (upd (upd H dx (.xd [(f,v)])) e (.ext (XAt e C (some dx) true)))):wpAny (model X.prog X.w) X.A (call (.ref C) [u]) (EP X pins σ Q) X.xe s:=by
 obtain⟨G,fI,fd,ps,F,hb,m,na,hm⟩:=M.ex;obtain⟨nm,q,N,bs,sn,sub,ab,col,k0,k1,k2,k3,k5,ob⟩:=m.c.obj;have X2:=I.kIn;have I0:=I;have hz:s.heap.get? (s.heap.objs.size+1)=none:=Heap.get?_none_of_le (le_succ _);have he0:=I.hok.not hz;obtain⟨hh,g,d,tk,os⟩:=s;refine pz X2 (X2 _ _ ob) (m.tail hh X2) m.init m.fn (by show 1<=sizeLine;decide) fun h' made=>?_;obtain⟨tt,m1,m2,m3⟩:=made.there;have new:XAt (hh.objs.size+1) C none true h':=⟨_,_,m1,rfl,rfl,rfl,(by show 1<6;decide),fun _=>rfl⟩
 have I2:Inv X pins σ (upd H (hh.objs.size+1) (.ext (XAt (hh.objs.size+1) C none true))) { heap:=h',gens:=g,drawn:=d,toks:=tk,os:=os }:=I0.news (t':=tk) made.keeps hz new.ok
 have hsp:ny X.K f [V.ref (hh.objs.size+1),v] (upd H (hh.objs.size+1) (.ext (XAt (hh.objs.size+1) C none true))) (fun y H2=>y=.non/\Q (.ref (hh.objs.size+1)) H2) E0:=by
  refine⟨_,C,G,true,v,rfl,aF,m.c,na,fun dx hdx=>⟨rfl,?_⟩⟩;have hne:dx≠hh.objs.size+1:=fun z=>by rw [z,aF] at hdx;cases hdx
  rw [ao hne] at hdx
  have e1:upd (upd (upd H (hh.objs.size+1) (.ext (XAt (hh.objs.size+1) C none true))) dx (.xd [(f,v)])) (hh.objs.size+1) (.ext (XAt (hh.objs.size+1) C (some dx) true))=upd (upd H dx (.xd [(f,v)])) (hh.objs.size+1) (.ext (XAt (hh.objs.size+1) C (some dx) true)):=by
   funext b;unfold upd
   by_cases z:b=hh.objs.size+1
   .rw [if_pos z,if_pos z]
   .rw [if_neg z,if_neg z,if_neg z]
  rw [e1];exact h _ dx he0 hdx hne
 have hl:[Value.ref (hh.objs.size+1),u].length=ps.length:=(F.len _ _ _ E0 hsp).symm ▸ rfl;refine wpAny_call (codeAny_mono (F.run _ X.stack _ _ ⟨[Value.ref (hh.objs.size+1),u],[]⟩ [Value.ref (hh.objs.size+1),u] [V.ref (hh.objs.size+1),v] _ E0 (hr.make C [u] []) (I2.env0.make C [u] []) (hb _ [Value.ref (hh.objs.size+1),u] I2.kIn (by rw [append_nil];exact hl)) (.cons rfl (.cons r .nil)) hsp) fun r s' hq=>?_)
 cases r with
 | error e=>exact hq.elim
 | ok fl =>
  cases fl with
  | ret w =>
   obtain⟨y,H',I3,rv,ev,q3⟩:=I2.after hq;subst ev;exact⟨rv,V.ref (hh.objs.size+1),H',I3,rfl,q3⟩
  | next=>exact False.elim hq
  | brk=>exact False.elim hq
  | cont=>exact False.elim hq
theorem pI(M:kl X.prog X.w X.K X.mg X.base k C x f)(hr:dU (k+1) X.A)(ha:PA X (e::es) t)(hg:Gl X x:=by rfl)(hdb:(x == ("__debug__":Str))=false:=by decide)(hn:nSt e=true:=by rfl)(hp:es.all nSt=true:=by rfl) :
  PE X (.Call (.Name x p) (e::es) [] pos) (rQ C f t):=by
 intro pins s σ H Q I h;obtain⟨G,fI,fd,ps,F,hb,m,na,hm⟩:=id M.ex;refine wpAny_Call_Name_kw (ey I hg hm ?_ hdb);refine PySem.W.callWith_K (h₀:=X.base) I.ok.mod.kin m.kp (thn (ha pos pins s σ H _ I h) fun us s1 ⟨vs,H1,I1,r,q⟩=>⟨I1.kIn,?_⟩) (dO hn) (dr hp);obtain⟨v,rfl,q⟩:=q
 cases r with
 | cons r rr =>
  cases rr;exact mL M hr I1 r q
end
def X0(K:PySem.W.Frag)(C:Addr):Prop:=∀h:Heap,K.In h->∃bm N nm q bs hd sn sub ab col dd k0 k1 k2 k3 k5 mN,
 h.get? C=some (excClassObj nm q C N bs bm hd sn sub ab col dd k0 k1 k2 k3 k5 "ValueError.__new__")/\h.Ns N mN/\mN "__init__"=none/\OwnTail h vmB bm
theorem jg{K:PySem.W.Frag}{C:Addr}(q:PySem.W.excIn K C vmB "ValueError.__new__"=true):X0 K C:=fun h X=>by
 unfold PySem.W.excIn at q;split at q
 case h_2=>cases q
 case h_1 dd cd sl ho =>
  split at q
  case h_2=>cases q
  case h_1 C' bm k0 k1 k2 k3 n k5 hm hs =>
   simp only [and_eq_true,beq_iff_eq,Bool.not_eq_true'] at q;obtain⟨⟨⟨⟨⟨e1,e2⟩,hdel⟩,ht⟩,hok⟩,hni⟩:=q;subst e1 e2
   cases cd with
   | mk nm bs mro ns qn hd sn sub ab col del =>
    cases sl with
    | mk l =>
     have hs:l=[k0,k1,k2,k3,some (.builtin "ValueError.__new__"),k5]:=hs;have hm:mro=.ref C'::bm:=hm;have hdel:del=false:=hdel;subst hs hm hdel;refine⟨bm,ns,nm,qn,bs,hd,sn,sub,ab,col,dd,k0,k1,k2,k3,k5,_,X _ _ ho,.of_isNs (PySem.W.isNs_of_in X hok),PySem.W.nsMap_none_of_in X hok hni,PySem.W.tail_of_in X ht⟩
theorem pJ{K:PySem.W.Frag}{G:Addr}(q:PySem.W.excIn K G vmB "ValueError.__new__"=true)(hg:∃nm q N bs sn sub ab col k0 k1 k2 k3 k5,K.lookup G=some (excClassObj nm q G N bs vmB true sn sub ab col none k0 k1 k2 k3 k5 "ValueError.__new__")) :
  ∀h:Heap,K.In h->OwnTail h vmB (.ref G::vmB):=fun h X=>by
 obtain⟨bm,N,nm,qn,bs,hd,sn,sub,ab,col,dd,k0,k1,k2,k3,k5,mN,h1,h2,h3,_⟩:=jg q h X;exact .own h1 h2 h3 .base
section
variable {X:Cx}{C:Addr}{x:Str}{p pos:Pos}
def tZ(K:PySem.W.Frag)(D:Addr):List V->Hp->VK->Prop:=fun xs H Q=>∃a C G dd new b,xs=[.ref a,.ref D]/\H a=some (.ext (XAt a C dd new))/\XC K C G/\PySem.W.kitOne K (.ref C) (.ref D)=some b/\Q (.bl b) H
theorem mM{D:Addr}:bG X (.builtin "isinstance") (tZ X.K D):=by
 intro pins s σ H xs us Q I r h;obtain⟨a,C,G,dd,new,b,rfl,ea,c,e,q⟩:=h;obtain⟨u,w',rfl,rx,ry⟩:=md r;cases (show u=Value.ref a from rx);cases (show w'=Value.ref D from ry);have ok:=(show bc X.prog X.w H s.heap a (.ext (XAt a C dd new)) from I.hok a _ ea)
 exact PySem.W.kia_one (jO c) I.kIn ok.1 e (fun z=>nomatch z) fun tk=>⟨.bl b,H,I.tok _,rfl,q⟩
def pK(K:PySem.W.Frag):List V->Hp->VK->Prop:=fun xs H Q=>∃a C G dd new n b,xs=[.ref a,.ty n]/\H a=some (.ext (XAt a C dd new))/\XC K C G/\PySem.W.kitOne K (.ref C) (.type n)=some b/\Q (.bl b) H
theorem lA:bG X (.builtin "isinstance") (pK X.K):=by
 intro pins s σ H xs us Q I r h;obtain⟨a,C,G,dd,new,n,b,rfl,ea,c,e,q⟩:=h;obtain⟨u,w',rfl,rx,ry⟩:=md r;cases (show u=Value.ref a from rx);cases (show w'=Value.type n from ry);have ok:=(show bc X.prog X.w H s.heap a (.ext (XAt a C dd new)) from I.hok a _ ea)
 exact PySem.W.kia_one (jO c) I.kIn ok.1 e (fun z=>nomatch z) fun tk=>⟨.bl b,H,I.tok _,rfl,q⟩
end
def XCl(K:PySem.W.Frag)(c:Str):Prop:=∃dd cd sl,K.lookup (ax K c)=some ⟨.type "type",dd,.cls cd,sl⟩/\cd.name=c
structure nz (K:PySem.W.Frag) (cs:List Str):Prop where
 g:XCl K "GlueError"
 n:∀c∈cs,XCl K c
 c:∀c∈cs,XC K (ax K c) (ax K "GlueError")
section
variable {K:PySem.W.Frag}{C G D:Addr}{c d:Str}
theorem XCl.ne(h1:XCl K c)(h2:XCl K d)(n:c≠d):ax K c≠ax K d:=fun e=>by
 obtain⟨_,cd,_,l1,n1⟩:=h1;obtain⟨_,cd2,_,l2,n2⟩:=h2;rw [e,l2] at l1;cases l1;exact n (n1.symm.trans n2)
theorem lB(x:XC K C G)(base:Value):PySem.W.subIn K (.ref C) base=some ((Value.ref C::.ref G::vmB).contains base):=by
 obtain⟨nm,q,N,bs,sn,sub,ab,col,k0,k1,k2,k3,k5,e⟩:=x.obj;show PySem.W.mroIn K C base=_;unfold PySem.W.mroIn PySem.W.clsIn;rw [e];rfl
theorem pL(x:XC K C G)(y:∃dd cd sl,K.lookup D=some ⟨.type "type",dd,.cls cd,sl⟩):PySem.W.kitOne K (.ref C) (.ref D)=some (decide (C=D) || decide (D=G)):=by
 obtain⟨dd,cd,sl,e⟩:=y;unfold PySem.W.kitOne
 by_cases h:C=D
 .subst h;simp
 .rw [if_neg (fun z=>h (Value.ref.inj (beq_iff_eq.mp z)))];unfold PySem.W.kitCls
  have e1:((PySem.W.clsIn K D).isSome && PySem.W.typeIn K (.ref D) == some (.type "type"))=true:=by
   have e2:PySem.W.clsIn K D=some cd:=by unfold PySem.W.clsIn;rw [e]
   have e3:PySem.W.typeIn K (.ref D)=some (.type "type"):=by show (K.lookup D).map (·.cls)=_;rw [e];rfl
   rw [e2,e3];rfl
  show (if ((PySem.W.clsIn K D).isSome && PySem.W.typeIn K (.ref D) == some (.type "type"))=true then PySem.W.subIn K (.ref C) (.ref D) else none)=_;rw [if_pos e1,lB x,decide_eq_false h,Bool.false_or];congr 1;rw [contains_cons,contains_cons];have t1:(Value.ref D == Value.ref C)=false:=beq_eq_false_iff_ne.mpr fun z=>h (Value.ref.inj z).symm;have t2:vmB.contains (Value.ref D)=false:=rfl;rw [t1,t2,Bool.false_or,Bool.or_false]
  by_cases g:D=G
  .subst g;simp
  .rw [decide_eq_false g];exact beq_eq_false_iff_ne.mpr fun z=>g (Value.ref.inj z)
theorem pM(x:XC K C G):PySem.W.kitOne K (.ref C) (.type "ValueError")=some true:=by
 unfold PySem.W.kitOne;rw [if_neg (by intro z;cases beq_iff_eq.mp z)];unfold PySem.W.kitCls;show (if PySem.W.kitMeta "ValueError"=true then PySem.W.subIn K (.ref C) (.type "ValueError") else none)=_;rw [if_pos (by decide +kernel),lB x];rfl
end
def ko(c d:Str):Bool:=decide (c=d) || decide (d="GlueError")
theorem pN{K:PySem.W.Frag}{cs:List Str}(X:nz K cs){c d:Str}(hc:c∈cs)(hd:d∈cs\/d="GlueError"):PySem.W.kitOne K (.ref (ax K c)) (.ref (ax K d))=some (ko c d):=by
 have yd:XCl K d:=hd.elim (X.n d) fun e=>by rw [e];exact X.g
 obtain⟨dd,cd,sl,e1,e2⟩:=id yd;rw [pL (X.c c hc) ⟨dd,cd,sl,e1⟩];unfold ko
 congr 2
 .by_cases h:c=d
  .subst h;rw [decide_eq_true rfl,decide_eq_true rfl]
  .rw [decide_eq_false h,decide_eq_false ((X.n c hc).ne yd h)]
 .by_cases h:d="GlueError"
  .subst h;rw [decide_eq_true rfl,decide_eq_true rfl]
  .rw [decide_eq_false h,decide_eq_false (yd.ne X.g h)]
section
variable {K:PySem.W.Frag}{ta:TA}{te:TE}{pa:PTA}{pe:PA1}{cs:List Str}
theorem FVc.exc{O:Addr->Prop}{H:Hp}{v:V}{c:Str}{ns:List Str}{ds:List D}(h:FVc K O H v (.exc c ns ds)):FV K O H v (.exc c ns ds):=h.fv nofun nofun
def rR(c f:Str)(pa:PTA):PTE:=fun ρ Q=>pa ρ fun as ρ1=>match avD as with
 | some [d]=>Q (.dat (.exc c [f] [d])) ρ1
 | _=>False
def pO(cs:List Str)(ats:List (Str×Str))(f:Str)(pa:PA1):PTE:=fun ρ Q=>pa ρ fun x ρ1=>match cont ρ1 x with
 | some (.exc c ns ds)=>(cs.contains c=true/\ats.contains (c,f)=true)/\∃i,iw f ns=some i/\∃d,ds[i]?=some d/\Q (.dat d) ρ1
 | _=>False
theorem lC{ats:List (Str×Str)}{f:Str}(X:nz K cs)(hat:∀c g,(c,g)∈ats->PySem.W.findIn K (.ref (ax K c)) g=some none)(h:LA1 K te pe):LE K (pE K te f) (pO cs ats f pe):=fun A ρ σ H Q Q' R q k=>h A ρ σ H _ _ R q fun v H1 a ρ1 q1 f1 R1 o1=>by
 split at q1
 .rename_i c ns ds e;obtain⟨⟨hc,ha⟩,i,hi,d,hd,q1⟩:=q1;have hc:c∈cs:=contains_iff_mem.mp hc
  cases (R1.cont o1 e).exc with
  | exc0 n1 e1=>cases hd
  | exc1 n1 n2 e1 e2 m f =>
   obtain⟨v,hv,fv⟩:=f.getD hd;exact⟨_,_,_,_,_,_,v,rfl,e1,e2,X.c c hc,hat c _ (contains_iff_mem.mp ha),by rw [iy (k:=i) (by rw [m];exact hi)];exact hv,k v H1 _ ρ1 q1 f1 ⟨R1,fv⟩⟩
 .exact q1.elim
def hV(cs:List Str)(d:Str)(pa:PA1):PTE:=fun ρ Q=>pa ρ fun x ρ1=>match cont ρ1 x with
 | some (.exc c ns ds)=>cs.contains c=true/\Q (.dat (.bl (ko c d))) ρ1
 | _=>False
theorem b4{d:Str}(X:nz K cs)(hd:d∈cs\/d="GlueError")(h:LA1 K te pe):LE K (tCB (tZ K (ax K d)) (dX te (dX (tC (.ref (ax K d))) me))) (hV cs d pe):=fun A ρ σ H Q Q' R q k=>h A ρ σ H _ _ R q fun v H1 a ρ1 q1 f1 R1 o1=>by
 split at q1
 .rename_i c ns ds e;obtain⟨hc,q1⟩:=q1;have hc:c∈cs:=contains_iff_mem.mp hc;have ek:=pN X hc hd
  cases (R1.cont o1 e).exc with
  | exc0 n1 e1=>exact⟨_,_,_,_,_,_,rfl,e1,X.c c hc,ek,k _ H1 _ ρ1 q1 f1 ⟨R1,.bl _⟩⟩
  | exc1 n1 n2 e1 e2 m f=>exact⟨_,_,_,_,_,_,rfl,e1,X.c c hc,ek,k _ H1 _ ρ1 q1 f1 ⟨R1,.bl _⟩⟩
 .exact q1.elim
def uK(cs:List Str)(pa:PA1):PTE:=fun ρ Q=>pa ρ fun x ρ1=>match cont ρ1 x with
 | some (.exc c ns ds)=>cs.contains c=true/\Q (.dat (.bl true)) ρ1
 | _=>False
theorem rS(X:nz K cs)(h:LA1 K te pe):LE K (tCB (pK K) (dX te (dX (tC (.ty "ValueError")) me))) (uK cs pe):=fun A ρ σ H Q Q' R q k=>h A ρ σ H _ _ R q fun v H1 a ρ1 q1 f1 R1 o1=>by
 split at q1
 .rename_i c ns ds e;obtain⟨hc,q1⟩:=q1;have hc:c∈cs:=contains_iff_mem.mp hc;have ek:=pM (X.c c hc)
  cases (R1.cont o1 e).exc with
  | exc0 n1 e1=>exact⟨_,_,_,_,_,_,_,rfl,e1,X.c c hc,ek,k _ H1 _ ρ1 q1 f1 ⟨R1,.bl _⟩⟩
  | exc1 n1 n2 e1 e2 m f=>exact⟨_,_,_,_,_,_,_,rfl,e1,X.c c hc,ek,k _ H1 _ ρ1 q1 f1 ⟨R1,.bl _⟩⟩
 .exact q1.elim
end
section
variable {X:Cx}
theorem dh(K:PySem.W.Frag)(e:X.K=K){D:Addr}:bG X (.builtin "isinstance") (tZ K D):=by subst e;exact mM
theorem t0(K:PySem.W.Frag)(e:X.K=K):bG X (.builtin "isinstance") (pK K):=by subst e;exact lA
theorem bt{x:Str}{C:Addr}{p:Pos}(hm:X.mg x=some (.ref C))(hg:Gl X x:=by rfl)(hdb:(x == ("__debug__":Str))=false:=by decide):PE X (.Name x p) (tC (.ref C)):=by
 intro pins s σ H Q I h;exact ey I hg hm ⟨.ref C,H,I,rfl,h⟩ hdb
end
section
variable {P:Program}{w:World}{K:PySem.W.Frag}{mg:Str->Option Value}{base:Heap}{x qual nm:Str}{C G fI:Addr}{st:Stmt}{fd:FuncData}{N ps:List Str}
theorem cQ(F:Fun K "__init__" qual st fI fd)(S:aI N ps (ae st))(hl:ps.length=2)
  (hb:∀(kV doc pm:Value) (an:Option Addr) (cdv ct:Value) (us:List Value),us.length=ps.length->bindArgs (PySem.W.fnOf "__init__" qual (a5 st) (aT st) (ae st) .none kV doc pm an cdv ct) ⟨us,[]⟩=pure (ps.zip us))
  (hp:∀(cdv:Value) (A:Around) (outer:List Env) (s:Shared) (H:Hp) (E:XK),PSs (jB CX0 P w K mg base N qual (ae st) fI cdv A outer s H E).nox (aT st) (pG K (j0 0) (j0 1) nm))
  (m:XM K C G fI) (na:PySem.W.findIn K (.ref C) nm=some none) (hm:mg x=some (.ref C)):kl P w K mg base 1 C x nm:=by
 refine⟨G,fI,fd,ps,F.ok (k:=0) S (fun vs H Q E h=>?_) (fun cdv A outer s H vs Q E hr h=>⟨_,hp cdv A outer s H E,?_⟩),F.binds hb,m,na,hm⟩
 .obtain⟨a,C,G,new,v,rfl,_⟩:=h;exact hl.symm
 .obtain⟨a,C,G,new,v,rfl,ea,c,n,q⟩:=h;exact⟨v,rfl,.ref a,rfl,a,C,G,new,rfl,ea,c,n,fun dx hdx=>q dx hdx⟩
end
section
variable {X:Cx}{e:Expr}{f:Str}{pos:Pos}{ta:TE}
theorem jP(K:PySem.W.Frag)(ek:X.K=K)(he:PE X e ta)(hb:attributeBase e f X.env (eval e X.env)=eval e X.env):PE X (.Attribute e f pos) (pE K ta f):=by subst ek;exact pF he hb
theorem cg(K:PySem.W.Frag)(ek:X.K=K){o value:Expr}{pos':Pos}{tv:TE}(ha:PE X o ta)(hv:PE X value tv)(hs:swapsWith value (some (.Attribute o f pos')) pos.line X.env=pure false):PS X (.Assign [.Attribute o f pos'] value pos) (pG K ta tv f):=by subst ek;exact pH ha hv hs
end
def lW(h:Heap)(e T:Addr)(fl:Value):Prop:=∃oe vs oT ts,h.get? e=some oe/\oe.data=.fields vs/\vs[1]?=some (.ref T)/\T≠e/\h.get? T=some oT/\oT.data=.fields ts/\ts[3]?=some fl
structure Moved (fs:List Addr) (e:Addr) (T0:Option Addr) (h h':Heap):Prop where
 kp:∀b o,b∉fs->b≠e->T0≠some b->h.get? b=some o->h'.get? b=some o
 sl:∀b o,b∈fs->h.get? b=some o->∃sl,h'.get? b=some { o with slots:=sl }
 ex:∀oe vs,h.get? e=some oe->oe.data=.fields vs->∃oe' vs',h'.get? e=some oe'/\oe'.cls=oe.cls/\oe'.dict=oe.dict/\oe'.data=.fields vs'/\vs'.size=vs.size
section
variable {M:Model}{A:Around}{E:Value->Shared->Prop}{s:Shared}{base:Heap}{env:Env}{outer:List Env}{L e T0:Addr}{oe:Obj}{vs:Array Value}
theorem lD{head:Value}{hadNext:Bool}{Q:Unit->Shared->Prop}(hfr:A.frames=some (env::outer))(hl:s.heap.FunFrames base (env::outer))(hf:env.frame=some L)
  (he:s.heap.get? e=some oe) (hd:oe.data=.fields vs) (hsz:1<vs.size)
  (h:∀h' T,s.heap.objs.size<=T->Moved (frs (env::outer)) e none s.heap h'->lW h' e T (rawInt L)->Q () { s with heap:=h' }) :
  wpAny M A (do let a <- frameOf env;let pl <- entryPlaceOf L hadNext;let b <- EntryCells.newEntry head a .none (rawInt L) .none pl;setField (.ref e) 1 b) Q E s:=by
 have nf:e∉frs (env::outer):=fun hm=>by
  obtain⟨_,o,ho,hn⟩:=hl.mem hm;rw [he] at ho;cases ho;exact hn vs hd
 refine wpAny_bind (wpAny_frameOf_fun hfr hl hf fun g1 hs1=>?_);refine wpAny_bind (wpAny_entryPlaceOf fun pl hpl=>?_);have e1:g1.get? e=some oe:=(hs1.2.1 e nf).trans he;unfold EntryCells.newEntry newFields;refine wpAny_bind (wpAny_newObj_type ?_ (hpl.sizeOk5 _ _ _ _ _))
 have hts:∃ts:Array Value,([head,.ref L,.none,rawInt L,.none]++(if pl.isEmpty then List.replicate 6 Value.none else pl)).toArray=ts/\ts[3]?=some (rawInt L):=⟨_,rfl,by
  rcases hpl with rfl|⟨_,_,_,_,_,_,_,rfl⟩ <;> simp⟩
 obtain⟨ts,ets,t3⟩:=hts;rw [ets];generalize hg2:g1.push { cls:=.type "traceback",dict:=none,data:=.fields ts }=g2;have sz1:g1.objs.size=s.heap.objs.size:=hs1.1;have k2:∀b o,g1.get? b=some o->g2.get? b=some o:=fun b o q=>by rw [<- hg2];exact Heap.get?_push_of_some _ q
 have gT:g2.get? g1.objs.size=some { cls:=.type "traceback",dict:=none,data:=.fields ts }:=by rw [<- hg2];exact Heap.get?_push_size _ rfl
 refine wpAny_setField (k2 _ _ e1) hd hsz ?_;have ne:g1.objs.size≠e:=ne_of_gt (Heap.lt_size e1);generalize hg3:g2.update e (Obj.mapFields (·.setIfInBounds 1 (Value.ref g1.objs.size)))=g3;have d3:=Obj.data_mapFields hd (·.setIfInBounds 1 (Value.ref g1.objs.size));have e3:g3.get? e=some (oe.mapFields (·.setIfInBounds 1 (Value.ref g1.objs.size))):=by rw [<- hg3];exact Heap.get?_update_self _ (k2 _ _ e1) (Obj.isFreed_of_fields d3)
 have k3:∀b o,b≠e->g2.get? b=some o->g3.get? b=some o:=fun b o hb q=>by rw [<- hg3];exact (Heap.get?_update_ne _ _ _ _ hb).trans q
 refine h g3 g1.objs.size (by rw [sz1];exact le_refl _) ⟨fun b o hb hbe _ q=>k3 b o hbe (k2 b o ((hs1.2.1 b hb).trans q)),fun b o hb q=>?_,fun oe' vs' q1 q2=>?_⟩ ⟨_,_,_,ts,e3,d3,by simp [hsz],ne,k3 _ _ ne gT,rfl,t3⟩
 .obtain⟨sl,q'⟩:=hs1.2.2 b o q;exact⟨sl,k3 b _ (fun z=>nf (by rw [<- z];exact hb)) (k2 b _ q')⟩
 .rw [he] at q1;cases q1;rw [hd] at q2;cases q2;obtain⟨c,dc,dt,sl⟩:=oe;cases hd;exact⟨_,_,e3,rfl,rfl,d3,by simp⟩
theorem pP{Q:Unit->Shared->Prop}(hfr:A.frames=some (env::outer))(hl:s.heap.FunFrames base (env::outer))(hf:env.frame=some L)
  (he:s.heap.get? e=some oe) (hd:oe.data=.fields vs) (h1:vs[1]?=some .none)
  (h:∀h' T,s.heap.objs.size<=T->Moved (frs (env::outer)) e none s.heap h'->lW h' e T (rawInt L)->Q () { s with heap:=h' }):wpAny M A (noteFrame (.ref e) env) Q E s:=by
 unfold noteFrame;simp only [hf];refine wpAny_bind (wpAny_field he hd h1 ?_);rw [if_neg (by decide)];exact lD hfr hl hf he hd (Array.getElem?_eq_some_iff.mp h1).1 h
theorem pQ{Q:Unit->Shared->Prop}(hfr:A.frames=some (env::outer))(hl:s.heap.FunFrames base (env::outer))(hf:env.frame=some L)(fly:lW s.heap e T0 .none)(nT:T0∉frs (env::outer))
  (h:∀h' T,s.heap.objs.size<=T->Moved (frs (env::outer)) e (some T0) s.heap h'->lW h' e T (rawInt L)->Q () { s with heap:=h' }):wpAny M A (noteFrame (.ref e) env) Q E s:=by
 obtain⟨oe,vs,oT,ts,he,hd,h1,ne,hT,hdT,h3⟩:=fly;have hsz:1<vs.size:=(Array.getElem?_eq_some_iff.mp h1).1;unfold noteFrame;simp only [hf];refine wpAny_bind (wpAny_field he hd h1 ?_);rw [if_pos (show (Value.ref T0 != Value.none)=true by simp)];refine wpAny_bind (wpAny_field hT hdT h3 ?_);rw [if_neg (show ¬ ((Value.none == rawInt L)=true) by simp [rawInt])];refine wpAny_bind (wpAny_setField hT hdT (Array.getElem?_eq_some_iff.mp h3).1 ?_)
 have ot:∀b,b≠T0->(s.heap.update T0 (Obj.mapFields (·.setIfInBounds 3 Value.none))).get? b=s.heap.get? b:=fun b hb=>Heap.get?_update_ne _ _ _ _ hb;have sz:(s.heap.update T0 (Obj.mapFields (·.setIfInBounds 3 Value.none))).objs.size=s.heap.objs.size:=by simp [Heap.update]
 have hl2:(s.heap.update T0 (Obj.mapFields (·.setIfInBounds 3 Value.none))).FunFrames base (env::outer):=hl.of_keeps fun b o q nf=>⟨o,(ot b (fun z=>by rw [z,hT] at q;cases q;exact nf ts hdT)).trans q,rfl⟩
 refine lD hfr hl2 hf ((ot e (Ne.symm ne)).trans he) hd hsz fun h' T hT' mv fly=>h h' T (by rw [<- sz];exact hT') ⟨fun b o h1 h2 h3 q=>mv.kp b o h1 h2 (by simp) ((ot b (fun z=>h3 (by rw [z]))).trans q),fun b o h1 q=>mv.sl b o h1 ((ot b (fun z=>nT (by rw [<- z];exact h1))).trans q),fun oe' vs' q1 q2=>mv.ex oe' vs' ((ot e (Ne.symm ne)).trans q1) q2⟩ fly
theorem jh{fl:Value}{T:Addr}{Q:Unit->Shared->Prop}(fly:lW s.heap e T fl)(h:∀h',(∀b o,b≠T->s.heap.get? b=some o->h'.get? b=some o)->lW h' e T .none->Q () { s with heap:=h' }):wpAny M A (setFlight (.ref e) none) Q E s:=by
 obtain⟨oe,vs,oT,ts,he,hd,h1,ne,hT,hdT,h3⟩:=fly;unfold setFlight;refine wpAny_bind (wpAny_field he hd h1 ?_);rw [if_pos (show (Value.ref T != Value.none)=true by simp)];have hs3:3<ts.size:=(Array.getElem?_eq_some_iff.mp h3).1;refine wpAny_setField hT hdT hs3 (h _ (fun b o hb q=>(Heap.get?_update_ne _ _ _ _ hb).trans q) ?_);have dT:=Obj.data_mapFields hdT (·.setIfInBounds 3 ((none:Option Addr).elim Value.none fun f=>rawInt f))
 exact⟨oe,vs,_,_,(Heap.get?_update_ne _ _ _ _ (Ne.symm ne)).trans he,hd,h1,ne,Heap.get?_update_self _ hT (Obj.isFreed_of_fields dT),dT,by simp [hs3]⟩
end
def CXe(P:Program)(w:World):CXT:=fun outer H s E e s'=>∃(ea C:Addr) (dd:Option Addr) (H':Hp) (T:Addr),e=.ref ea/\s'.os=s.os/\AllBare s'.gens/\Un (frs outer) [] H H' s.heap s'.heap/\HOk P w H' s'.heap /\
 H' ea=some (.ext (XAt ea C dd false))/\lW s'.heap ea T .none/\s.heap.get? T=none/\H' T=none/\E (.ref ea) dd H'
theorem lE{l:List Env}{h base:Heap}(hl:h.FunFrames base l){b:Addr}(hb:b∈frs l):∃o,h.get? b=some o:=by
 obtain⟨_,o,ho,_⟩:=hl.mem hb;exact⟨o,ho⟩
theorem XAt.moved{fs:List Addr}{ea C:Addr}{dd:Option Addr}{new:Bool}{T0:Option Addr}{h h':Heap}(x:XAt ea C dd new h)(mv:Moved fs ea T0 h h'):XAt ea C dd false h':=by
 obtain⟨o,vs,h1,h2,h3,h4,h5,_⟩:=x;obtain⟨o',vs',q1,q2,q3,q4,q5⟩:=mv.ex o vs h1 h4;exact⟨o',vs',q1,q2.trans h2,q3.trans h3,q4,by rw [q5];exact h5,nofun⟩
theorem HOk.moved{P:Program}{w:World}{H H':Hp}{h h1 h2:Heap}{fs:List Addr}{ea C T:Addr}{dd:Option Addr}{new:Bool}{T0:Option Addr}(ok:HOk P w H h)(hea:H ea=some (.ext (XAt ea C dd new)))(mv:Moved fs ea T0 h h1)(hT:h.objs.size<=T)(un:∀b o,b≠T->h1.get? b=some o->h2.get? b=some o)
  (hfs:∀b∈fs,H b=none) (hT0:∀b,T0=some b->H b=none) (fly:lW h2 ea T .none) (hH:H'=upd H ea (.ext (XAt ea C dd false))):HOk P w H' h2:=fun b o eb=>by
 subst hH;have ne:∀c u,H c=some u->c≠T:=fun c u q=>ne_of_lt (lt_of_lt_of_le (ok.lt q) hT);have kp:∀c u,c≠ea->H c=some u->∀v,h.get? c=some v->h2.get? c=some v:=fun c u hc q v z=>un c v (ne c u q) (mv.kp c v (fun m=>by rw [hfs c m] at q;cases q) hc (fun e=>by rw [hT0 c e] at q;cases q) z)
 by_cases hb:b=ea
 .subst hb;rw [aF] at eb;cases eb;have x:XAt b C dd new h:=(ok b _ hea).1;obtain⟨o',vs',q1,q2,q3,q4,q5,q6⟩:=x.moved mv;exact XAt.ok ⟨o',vs',un b o' (ne b _ hea) q1,q2,q3,q4,q5,q6⟩
 .rw [ao hb] at eb
  refine (ok b o eb).stay (fun c v hc q=>?_) (fun c q=>?_) fun c xs q=>?_
  .rcases hc with rfl|hc
   .exact kp c o hb eb v q
   .exact kp c _ (fun z=>by rw [z,hea] at hc;cases hc) hc v q
  .rw [ao (fun z=>by rw [z,hea] at q;cases q)];exact q
  .rw [ao (fun z=>by rw [z,hea] at q;cases q)];exact q
section
variable {P:Program}{w:World}{K:PySem.W.Frag}{mg:Str->Option Value}{base:Heap}{N:List Str}{qual:Str}{scope:Scope}{f:Addr}{cd:Value}{A:Around}{outer:List Env}{s0:Shared}{H0:Hp}{E:XK}{pins:List (Addr×Obj)}{σ:St}{H:Hp}{s:Shared}
theorem lF{ea C:Addr}{dd:Option Addr}(I:Inv (jB (CXe P w) P w K mg base N qual scope f cd A outer s0 H0 E) pins σ H s)(hea:H ea=some (.ext (XAt ea C dd true)))(hE:E (.ref ea) dd (upd H ea (.ext (XAt ea C dd false)))) :
  (jB (CXe P w) P w K mg base N qual scope f cd A outer s0 H0 E).xe (.ref ea) s:=by
 obtain⟨⟨o,vs,h1,h2,h3,h4,h5,h6⟩,_,_⟩:=(show bc P w H s.heap ea (.ext (XAt ea C dd true)) from I.hok ea _ hea)
 show wpAny (model P w) _ (leaving _ (.ref ea)) _ _ s;unfold leaving;refine wpAny_bind (pP I.ok.frames I.stack rfl h1 h4 (h6 rfl) fun g1 T hT mv fly=>?_);refine jh fly fun g2 un fly2=>?_;have hf2:∀b∈frs (envOfC qual scope s0.heap.objs.size f cd::outer),H b=none:=I.stkFree;have hok:=I.hok.moved hea mv hT un hf2 (fun b e=>nomatch e) fly2 rfl;have old:∀b o,s0.heap.get? b=some o->b≠s0.heap.objs.size:=fun b o q=>ne_of_lt (Heap.lt_size q)
 have bT:∀b o,s.heap.get? b=some o->b≠T:=fun b o q=>ne_of_lt (lt_of_lt_of_le (Heap.lt_size q) hT);have nea:∀b,H b=none->b≠ea:=fun b n z=>by rw [z,hea] at n;cases n
 have sub:∀b,b∈frs outer->b∈frs (envOfC qual scope s0.heap.objs.size f cd::outer):=fun b hb=>mem_cons_of_mem _ hb
 have nsub:∀b o,s0.heap.get? b=some o->b∉frs outer->b∉frs (envOfC qual scope s0.heap.objs.size f cd::outer):=fun b o q hb z=>by
  rcases mem_cons.mp (show b∈s0.heap.objs.size::frs outer from z) with z|z
  .exact old b o q z
  .exact hb z
 have un0:Un (frs outer) [] H0 (upd H ea (.ext (XAt ea C dd false))) s0.heap g2:=by
  refine⟨fun b ob q n hb hx=>?_,fun b ob q n hb hx=>?_,fun b ob q n hx=>?_,fun b ob q hx=>?_,fun b xs q=>?_,fun b ob u q=>?_,fun b ps q=>?_⟩
  .have q1:=I.base.keep b ob q n hb hx;have n1:=I.base.free b ob q n hx;exact un b ob (bT b ob q1) (mv.kp b ob (nsub b ob q hb) (nea b n1) (by simp) q1)
  .obtain⟨sl,q1⟩:=I.base.slot b ob q n hb hx;obtain⟨sl2,q2⟩:=mv.sl b _ (sub b hb) q1;exact⟨sl2,un b _ (bT b _ q1) q2⟩
  .have n1:=I.base.free b ob q n hx;rw [ao (nea b n1)];exact n1
  .obtain⟨o1,q1⟩:=I.base.there b ob q hx
   by_cases hbe:b=ea
   .subst hbe;obtain⟨o2,vs2,q2,_⟩:=mv.ex o vs h1 h4;exact⟨o2,un b o2 (bT b _ q1) q2⟩
   .by_cases hb:b∈frs (envOfC qual scope s0.heap.objs.size f cd::outer)
    .obtain⟨sl2,q2⟩:=mv.sl b _ hb q1;exact⟨_,un b _ (bT b _ q1) q2⟩
    .exact⟨o1,un b o1 (bT b _ q1) (mv.kp b o1 hb hbe (by simp) q1)⟩
  .have q1:=I.base.tups b xs q;rw [ao (fun z=>by rw [z,hea] at q1;cases q1)];exact q1
  .have q1:=I.base.frzs b ob u q;rw [ao (fun z=>by rw [z,hea] at q1;cases q1)];exact q1
  .obtain⟨m,q1⟩:=I.base.tbls b ps q;exact⟨m,by rw [ao (fun z=>by rw [z,hea] at q1;cases q1)];exact q1⟩
 refine⟨ea,C,dd,_,T,rfl,I.os,I.bare,un0,hok,aF,fly2,?_,?_,hE⟩
 .cases q:s0.heap.get? T with
  | none=>rfl
  | some ob =>
   obtain⟨o1,q1⟩:=I.base.there T ob q (show T∉([]:List Addr) by simp);exact absurd rfl (bT T o1 q1)
 .rw [ao (fun z=>by
   have:=I.hok.lt hea;rw [<- z] at this;exact absurd (lt_of_lt_of_le this hT) (lt_irrefl _))]
  exact I.hok.fresh hT
end
section
variable {prog:Program}{w:World}{A:Around}{E:Value->Shared->Prop}{K:PySem.W.Frag}{env:Env}
theorem pR{Q:Flow->Shared->Prop}{x:Sem Value}{s:Shared}(hh:A.handled=none)
  (hx:wpAny (model prog w) A x (fun v s₁=>∃ea C G dd,v=.ref ea/\K.In s₁.heap/\XC K C G/\XAt ea C dd true s₁.heap/\E (.ref ea) s₁) E s):wpAny (model prog w) A (raiseStmt env (some x) none) Q E s:=by
 unfold raiseStmt;refine wpAny_bind (wpAny_mono hx (fun v s1 h1=>?_) fun _ _ z=>z);obtain⟨ea,C,G,dd,rfl,X,c,⟨o,vs,q1,q2,q3,q4,q5,q6⟩,hE⟩:=h1;obtain⟨nm,q,N,bs,sn,sub,ab,col,k0,k1,k2,k3,k5,e⟩:=c.obj;have hC:=X _ _ e;obtain⟨hp,g,d,tk,os⟩:=s1;have own:(Value.ref C::.ref G::vmB).contains (.type "BaseException")=true:=rfl;have qn:=q6 rfl
 repeat (first
  | (with_reducible refine wpAny_loadPart_at q1 ?_;first | rw [q2] | rw [q4] | skip)
  | with_reducible refine wpAny_loadPart_at hC ?_
  | (with_reducible refine wpAny_isSubtype_exc hC ?_;rw [own])
  | with_reducible refine wpAny_field q1 q4 qn ?_
  | wp_step)
 exact wpAny_raiseNew_none hh hE
end
def RX(X:Cx)(J:St->XK):Prop:=∀(pins:List (Addr×Obj)) (σ:St) (H:Hp) (s:Shared) (ea C:Addr) (dd:Option Addr),Inv X pins σ H s->H ea=some (.ext (XAt ea C dd true))->J σ (.ref ea) dd (upd H ea (.ext (XAt ea C dd false)))->X.xe (.ref ea) s
def nA(K:PySem.W.Frag)(te:TE)(J:St->XK):TS:=fun D σ H=>te σ H fun v H1=>∃ea C G dd,v=.ref ea/\H1 ea=some (.ext (XAt ea C dd true))/\XC K C G/\J σ (.ref ea) dd (upd H1 ea (.ext (XAt ea C dd false)))
section
variable {X:Cx}{J:St->XK}{x:Expr}{pos:Pos}{te:TE}
theorem mO(K:PySem.W.Frag)(ek:X.K=K)(hc:X.calm=true)(hx:RX X J)(he:PE X x te):PS X (.Raise (some x) none pos) (nA K te J):=by
 subst ek;intro pins s σ H D I h
 have key:wpAny (model X.prog X.w) X.A (raiseStmt X.env (some (do let v <- eval x X.env;standAt pos;pure v)) none) (SP X pins D) X.xe s:=by
  refine pR (K:=X.K) (I.ok.hd hc) (wpAny_bind (wpAny_mono (he pins s σ H _ I h) (fun u s1 ⟨v,H1,I1,rv,ea,C,G,dd,ev,hea,c,hj⟩=>wpAny_bind (wpAny_standAt (wpAny_pure ?_))) fun _ _ z=>z));subst ev;obtain rfl:u=Value.ref ea:=rv;have ok:=(show bc X.prog X.w H1 s1.heap ea (.ext (XAt ea C dd true)) from I1.hok ea _ hea)
  exact⟨ea,C,G,dd,rfl,I1.kIn,c,ok.1,hx pins σ H1 s1 ea C dd I1 hea hj⟩
 rw [arm_exec_Raise]
 first
  | exact wpAny_bind (wpAny_standAt key)
  | (simp only [evalOpt,Option.map];exact wpAny_bind (wpAny_standAt key))
  | (show wpAny _ _ (do standAt pos;raiseStmt X.env (some (do let v <- eval x X.env;standAt pos;pure v)) none) _ _ s;exact wpAny_bind (wpAny_standAt key))
theorem rT{P:Program}{w:World}{K:PySem.W.Frag}{mg:Str->Option Value}{base:Heap}{N:List Str}{qual:Str}{scope:Scope}{f:Addr}{cd:Value}{A:Around}{outer:List Env}{s0:Shared}{H0:Hp}{E:XK} :
  RX (jB (CXe P w) P w K mg base N qual scope f cd A outer s0 H0 E) (fun _=>E):=fun pins σ H s ea C dd I hea hj=>lF I hea hj
end
def PX(CX:CXT)(X:Cx)(J:St->XK):Prop:=∀(pins:List (Addr×Obj)) (σ:St) (H:Hp) (s:Shared) (e:Value) (s':Shared),Inv X pins σ H s->CX X.stack H s (J σ) e s'->X.xe e s'
def jQ(sp:Sp)(J:St->XK)(t:TA):TE:=fun σ H Q=>t σ H fun vs H1=>sp vs H1 Q (J σ)
structure rV (P:Program) (w:World) (K:PySem.W.Frag) (mg:Str->Option Value) (base:Heap) (k:Nat) (x:Str) (ps:List Str) (sp:Sp):Prop where
 ex:∃(f:Addr) (fd:FuncData),iW P w K mg base (CXe P w) k f fd ps sp/\gF K fd ps []/\PySem.W.keepIn K (.ref f)=true/\mg x=some (.ref f)
section
variable {X:Cx}{k:Nat}{x:Str}{ps:List Str}{sp:Sp}{p pos:Pos}{e:Expr}{es:List Expr}{t:TA}{J:St->XK}
theorem gU(C:rV X.prog X.w X.K X.mg X.base k x ps sp)(hr:dU k X.A)(hx:PX (CXe X.prog X.w) X J)(ha:PA X (e::es) t)(hg:Gl X x:=by rfl)(hdb:(x == ("__debug__":Str))=false:=by decide)(hn:nSt e=true:=by rfl)(hp:es.all nSt=true:=by rfl) :
  PE X (.Call (.Name x p) (e::es) [] pos) (jQ sp J t):=by
 obtain⟨f,fd,F,hb,hk,hm⟩:=C.ex;intro pins s σ H Q I h;refine wpAny_Call_Name_kw (ey I hg hm ?_ hdb);refine PySem.W.callWith_K (h₀:=X.base) I.ok.mod.kin hk (thn (ha pos pins s σ H _ I h) fun us s1 ⟨vs,H1,I1,r,q⟩=>⟨I1.kIn,?_⟩) (dO hn) (dr hp);have hl:us.length=ps.length:=by rw [<- r.length];exact F.len _ _ _ _ q
 refine wpAny_call (codeAny_mono (F.run X.A X.stack s1 H1 ⟨us,[]⟩ us vs Q (J σ) hr I1.env0 ?_ r q) fun r s' hq=>?_)
 .have:=hb s1 us I1.kIn (by rw [append_nil];exact hl);rw [append_nil] at this;exact this
 .cases r with
  | error e=>exact hx pins σ H1 s1 e s' I1 hq
  | ok fl =>
   cases fl with
   | ret u=>exact I1.after hq
   | next=>exact False.elim hq
   | brk=>exact False.elim hq
   | cont=>exact False.elim hq
end
section
variable {X:Cx}{pins:List (Addr×Obj)}{σ:St}{H:Hp}{s:Shared}
abbrev Cx.mk'(X:Cx)(e:Value):Cx:={ X with A:=X.A.mark (some e),calm:=false }
theorem Inv.mark(I:Inv X pins σ H s)(e:Value):Inv (X.mk' e) pins σ H s :=
 ⟨⟨I.ok.mod,I.ok.kind,I.ok.glob,I.ok.blt,I.ok.above,I.ok.inj,I.ok.has,I.ok.cab,nofun,I.ok.frames,I.ok.stk,I.ok.exf,I.ok.bs,I.ok.bsz,I.ok.noex,I.ok.exfs,I.ok.funs,I.ok.frf⟩,I.os,I.bare,I.base,I.loc,I.cell,I.free,I.freeC,I.pin,I.hok,I.len⟩
theorem Inv.unmark{e:Value}(I:Inv (X.mk' e) pins σ H s)(hd:X.calm=true->X.A.handled=none):Inv X pins σ H s :=
 ⟨⟨I.ok.mod,I.ok.kind,I.ok.glob,I.ok.blt,I.ok.above,I.ok.inj,I.ok.has,I.ok.cab,hd,I.ok.frames,I.ok.stk,I.ok.exf,I.ok.bs,I.ok.bsz,I.ok.noex,I.ok.exfs,I.ok.funs,I.ok.frf⟩,I.os,I.bare,I.base,I.loc,I.cell,I.free,I.freeC,I.pin,I.hok,I.len⟩
theorem ej{M:Model}{A:Around}{E:Value->Shared->Prop}{i:Nat}{x:Str}{pos:Pos}{Q:Unit->Shared->Prop}(I:Inv X pins σ H s)(hN:X.N.Nodup)(hi:X.N[i]?=some x)(hk:X.env.scope.names.lookup x=some .local)
  (h:∀s',Inv X pins (σ.set i none) H s'->Q () s'):wpAny M A (do bindName X.env x .none;unbindBehindTheSuite X.env x pos) Q E s:=by
 refine wpAny_bind (wpAny_bindName (fc I hN hi (.inl hk) (v:=.non) rfl (fun s1 I1=>?_) (.inr hk)));have hiσ:i<σ.length:=by rw [I.len];exact (List.getElem?_eq_some_iff.mp hi).1
 obtain⟨m,hn,hl⟩:=id I1.loc;obtain⟨u,ru,lk⟩:=hl i x .non hi (getElem?_set_self hiσ) (.inl hk)
 have hm:m x=some u:=by
  rcases lk with ⟨_,z⟩|⟨z,_⟩
  .exact z
  .have z':X.env.scope.names.lookup x=some .cell\/X.env.scope.names.lookup x=some .free:=z;rw [hk] at z';rcases z' with z'|z' <;> cases z'
 unfold unbindBehindTheSuite;refine wpAny_onRaise (wpAny_unbindName_local hk hn hm (by rw [I.ok.kind];rfl) fun h' u' hn' hs=>?_);have cne:=I1.cne;obtain⟨oL,_,_,hoL,_⟩:=id hn;have big:∀b o,X.s₀.heap.get? b=some o->b≠X.env.locals:=fun b o q=>ne_of_lt (lt_of_lt_of_le (Heap.lt_size q) I.ok.above)
 refine h _ ⟨I1.ok,I1.os,I1.bare,⟨fun b o q n hb hx=>(hs.2 b (big b o q)).trans (I1.base.keep b o q n hb hx),fun b o q n hb hx=>?_,I1.base.free,fun b o q hx=>?_,I1.base.tups,I1.base.frzs,I1.base.tbls⟩,⟨_,hn',fun j y v' e1 e2 e3=>?_⟩,fun y c q=>?_,I1.free,I1.freeC,fun p hp=>?_,fun b ob q=>?_,by simpa using I.len⟩
 .obtain⟨sl,q1⟩:=I1.base.slot b o q n hb hx;exact⟨sl,(hs.2 b (big b o q)).trans q1⟩
 .obtain⟨o',q1⟩:=I1.base.there b o q hx;exact⟨o',(hs.2 b (big b o q)).trans q1⟩
 .by_cases hj:j=i
  .subst hj;rw [getElem?_set_self hiσ] at e2;cases e2
  .rw [getElem?_set_ne (Ne.symm hj)] at e2;obtain⟨u2,r2,q⟩:=hl j y v' e1 (by rw [getElem?_set_ne (Ne.symm hj)];exact e2) e3;refine⟨u2,r2,?_⟩
   rcases q with ⟨k,z⟩|⟨k,c,z1,z2⟩
   .have:y≠x:=fun z=>hj (gA hN e1 (z ▸ hi));exact .inl ⟨k,by simp [this,z]⟩
   .exact .inr ⟨k,c,z1,z2.sameBut hs (cne y c z1)⟩
 .obtain⟨w',z⟩:=I1.cell y c q;exact⟨w',z.sameBut hs (cne y c q)⟩
 .obtain⟨q,n,ne,nf,dd⟩:=I1.pin p hp;exact⟨(hs.2 p.1 ne).trans q,n,ne,nf,dd⟩
 .refine (I1.hok b ob q).stay (fun c w' hc z=>(hs.2 c ?_).trans z) (fun _ z=>z) fun _ _ z=>z;rintro rfl
  rcases hc with hc|hc
  .rw [<- hc,I1.free] at q;cases q
  .rw [I1.free] at hc;cases hc
end
section
variable {M:Model}{A:Around}{E:Value->Shared->Prop}{K:PySem.W.Frag}{C G D:Addr}
theorem lG{h:Heap}{g:Array GenState}{d:Drawn}{t:Nat}{os:OsState}{ea:Addr}{dd:Option Addr}{new:Bool}{Q:Bool->Shared->Prop}(X:K.In h)(c:XC K C G)(x:XAt ea C dd new h)
  (hD:∃nm q N bs bm hd sn sub ab col d0 k0 k1 k2 k3 k5 nw,K.lookup D=some (excClassObj nm q D N bs bm hd sn sub ab col d0 k0 k1 k2 k3 k5 nw)/\(Value.ref D::bm).contains (.type "BaseException")=true)
  (hq:Q ((Value.ref C::.ref G::vmB).contains (.ref D)) ⟨h,g,d,t,os⟩):wpAny M A (excMatches (.ref ea) (.ref D)) Q E ⟨h,g,d,t,os⟩:=by
 obtain⟨nm,q,N,bs,sn,sub,ab,col,k0,k1,k2,k3,k5,e⟩:=c.obj;obtain⟨nm',q',N',bs',bm',hd',sn',sub',ab',col',d0',k0',k1',k2',k3',k5',nw',e2,hb⟩:=hD;obtain⟨o,vs,q1,q2,_⟩:=x;have hC:=X _ _ e;have hDo:=X _ _ e2;have f:=tc_notTuple;generalize hbb:(Value.ref C::.ref G::vmB).contains (.ref D)=b at hq;unfold excMatches
 repeat (first
  | (with_reducible refine wpAny_loadPart_at q1 ?_;rw [q2])
  | with_reducible refine wpAny_loadPart_at hDo ?_
  | with_reducible refine wpAny_loadPart_at hC ?_
  | (with_reducible refine wpAny_isSubtype_exc hDo ?_;rw [hb])
  | (with_reducible refine wpAny_isSubtype_exc hC ?_;rw [hbb])
  | wp_step)
 cases b <;> (wp_walk;exact hq)
end
structure FTk (X:Cx) (pins:List (Addr×Obj)) (H:Hp) (T:Addr):Prop where
 nt:H T=none
 sz:X.s₀.heap.objs.size<=T
 nl:T≠X.env.locals
 nc:∀x c,X.env.cells.lookup x=some c->c≠T
 np:∀p∈X.pn++pins,p.1≠T
section
variable {X:Cx}{pins:List (Addr×Obj)}{σ:St}{H:Hp}{s:Shared}
theorem u0{M:Model}{Er:Value->Shared->Prop}{E1:XK}{e:Value}{s':Shared}{Q:Unit->Shared->Prop}(hst:X.stack=X.env::X.outer)(hfm:X.env.frame=some X.env.locals)(I:Inv X pins σ H s)(h:CXe X.prog X.w X.stack H s E1 e s')
  (k:∀ea C dd H' T s2,e=.ref ea->Inv X pins σ H' s2->H' ea=some (.ext (XAt ea C dd false))->lW s2.heap ea T .none->FTk X pins H' T->E1 (.ref ea) dd H'->Q () s2) :
  wpAny M X.A (noteFrame e X.env) (fun _ s1=>wpAny M X.A (setFlight e none) Q Er s1) Er s':=by
 obtain⟨ea,C,dd,H',T0,rfl,os,bare,un1,hok1,hea,fly0,hT0,hT0',hE1⟩:=h;have hf1:∀b∈frs X.stack,H b=none:=I.stkFree;have hss:=I.stack
 have hl:s'.heap.FunFrames X.base X.stack:=by
  have all:∀l:List Env,(∀b∈frs l,b∈frs X.stack)->s.heap.FunFrames X.base l->s'.heap.FunFrames X.base l:=by
   intro l
   induction l with
   | nil=>intro _ _;trivial
   | cons en r ih =>
    intro hs hl;obtain⟨hk,⟨L,o,hf,hn,ho,hd⟩,hr⟩:=hl;have hL:L∈frs (en::r):=by unfold frs;rw [filterMap_cons,hf];exact mem_cons_self
    obtain⟨sl,q⟩:=un1.slot L o ho (hf1 L (hs L hL)) (hs L hL) (by simp);exact⟨hk,⟨L,_,hf,hn,q,hd⟩,ih (fun b hb=>hs b (by unfold frs;rw [filterMap_cons,hf];exact mem_cons_of_mem _ hb)) hr⟩
  exact all _ (fun _ hb=>hb) hss
 have nT0:T0∉frs X.stack:=fun z=>by
  obtain⟨o,q⟩:=lE hss z;rw [hT0] at q;cases q
 have hf2:∀b∈frs X.stack,H' b=none:=fun b hb=>by
  obtain⟨o,q⟩:=lE hss hb;exact un1.free b o q (hf1 b hb) (by simp)
 have fr:=I.ok.frames;rw [hst] at fr hl nT0 hf2;refine pQ fr hl hfm fly0 nT0 fun g1 T hT mv fly=>?_;refine jh fly fun g2 un fly2=>?_;have hok:=hok1.moved hea mv hT un hf2 (fun b e=>by cases e;exact hT0') fly2 rfl
 have upe:upd H' ea (.ext (XAt ea C dd false))=H':=by
  funext b
  by_cases z:b=ea
  .subst z;rw [aF,hea]
  .rw [ao z]
 rw [upe] at hok;have bT:∀b o,s'.heap.get? b=some o->b≠T:=fun b o q=>ne_of_lt (lt_of_lt_of_le (Heap.lt_size q) hT);have bT0:∀b o,s.heap.get? b=some o->some T0≠some b:=fun b o q z=>by cases z;rw [hT0] at q;cases q
 have nea:∀b,H' b=none->b≠ea:=fun b n z=>by rw [z,hea] at n;cases n
 obtain⟨oe,vs,oT,ts,he1,he2,_⟩:=id fly0
 have u:Un (frs X.stack) [] H H' s.heap g2:=by
  rw [hst] at un1 ⊢
  refine⟨fun b ob q n hb hx=>?_,fun b ob q n hb hx=>?_,un1.free,fun b ob q hx=>?_,un1.tups,un1.frzs,un1.tbls⟩
  .have q2:=un1.keep b ob q n hb hx;exact un b ob (bT b ob q2) (mv.kp b ob hb (nea b (un1.free b ob q n hx)) (bT0 b ob q) q2)
  .obtain⟨sl1,q2⟩:=un1.slot b ob q n hb hx;obtain⟨sl2,q3⟩:=mv.sl b _ hb q2;exact⟨sl2,un b _ (bT b _ q2) q3⟩
  .obtain⟨o2,q2⟩:=un1.there b ob q hx
   by_cases hbe:b=ea
   .subst hbe;obtain⟨o3,vs3,q3,_⟩:=mv.ex oe vs he1 he2;exact⟨o3,un b o3 (bT b _ q2) q3⟩
   .by_cases hb:b∈frs (X.env::X.outer)
    .obtain⟨sl2,q3⟩:=mv.sl b _ hb q2;exact⟨_,un b _ (bT b _ q2) q3⟩
    .exact⟨o2,un b o2 (bT b _ q2) (mv.kp b o2 hb hbe (bT0 b ob q) q2)⟩
 have far:∀b o,s.heap.get? b=some o->b<T:=fun b o q=>by
  obtain⟨o2,q2⟩:=un1.there b o q (by simp);exact lt_of_lt_of_le (Heap.lt_size q2) hT
 have hL:X.env.locals<T:=by
  obtain⟨m,⟨o,_,_,ho,_⟩,_⟩:=I.loc;exact far _ o ho
 refine k ea C dd H' T { s' with heap:=g2 } rfl (I.call' (s':={ s' with heap:=g2 }) os u hok bare (fun b z=>nomatch z)) hea fly2 ⟨hok1.fresh hT,le_of_lt (lt_of_le_of_lt I.ok.above hL),Ne.symm (ne_of_lt hL),fun x c q=>?_,fun p hp=>?_⟩ hE1
 .obtain⟨v,o,ho,_⟩:=I.cell x c q;exact ne_of_lt (far c o ho)
 .exact ne_of_lt (far _ _ (I.pin p hp).1)
end
abbrev THd:=Addr->Addr->Option Addr->lU->St->Hp->Prop
def PH(X:Cx)(hs:List ExceptHandler)(th:THd):Prop:=∀(pins:List (Addr×Obj)) (s:Shared) (σ:St) (H:Hp) (ea C:Addr) (dd:Option Addr) (T:Addr) (D:lU),Inv X pins σ H s->H ea=some (.ext (XAt ea C dd false))->lW s.heap ea T .none->FTk X pins H T->th ea C dd D σ H ->
 wpAny (model X.prog X.w) X.A (handleBy (.ref ea) X.env hs) (SP X pins D) X.xe s
def hAs(K:PySem.W.Frag)(C0:Addr)(i:Nat)(ts:TS)(tr:THd):THd:=fun ea C dd D σ H=>∃G,XC K C G /\
 ((Value.ref C::.ref G::vmB).contains (.ref C0)=true->ts { nx:=fun σ' H'=>D.nx (σ'.set i none) H',bk:=fun σ' H'=>D.bk (σ'.set i none) H',ct:=fun σ' H'=>D.ct (σ'.set i none) H',rt:=D.rt } (σ.set i (some (.ref ea))) H) /\
 ((Value.ref C::.ref G::vmB).contains (.ref C0)=false->tr ea C dd D σ H)
def XD(K:PySem.W.Frag)(D:Addr):Prop:=∃nm q N bs bm hd sn sub ab col d0 k0 k1 k2 k3 k5 nw,K.lookup D=some (excClassObj nm q D N bs bm hd sn sub ab col d0 k0 k1 k2 k3 k5 nw)/\(Value.ref D::bm).contains (.type "BaseException")=true
section
variable {X:Cx}{C0:Addr}{cn n:Str}{np pos:Pos}{b0:Stmt}{suite:List Stmt}{rest:List ExceptHandler}{i:Nat}{ts:TS}{tr:THd}
theorem t4(K:PySem.W.Frag)(ek:X.K=K)(hx:XD K C0)(hm:X.mg cn=some (.ref C0))(hN:X.N.Nodup)(hi:X.N[i]?=some n)(hk:X.env.scope.names.lookup n=some .local)(hs:∀e,PSs (X.mk' e).nox (b0::suite) ts)(hr:PH X rest tr)
  (hg:Gl X cn:=by rfl) (hdb:(cn == ("__debug__":Str))=false:=by decide):PH X (.ExceptHandler (some (.Name cn np)) (some n) (b0::suite) pos::rest) (hAs K C0 i ts tr):=by
 subst ek;intro pins s σ H ea C dd T D I hea fly ft h;obtain⟨G,c,h1,h2⟩:=h;have xa:XAt ea C dd false s.heap:=(show bc X.prog X.w H s.heap ea (.ext (XAt ea C dd false)) from I.hok ea _ hea).1;refine wpAny_handleBy_cons (codeAny_handlers_test ?_) (by intro z;cases z);refine ey (X:=X.mk' (.ref ea)) (I.mark (.ref ea)) hg hm ?_ hdb;have X2:=I.kIn;have I0:=I;obtain⟨hh,g,d,tk,os⟩:=s;refine lG X2 c xa hx ?_
 cases hb:(Value.ref C::.ref G::vmB).contains (.ref C0) with
 | false=>exact hr pins _ σ H ea C dd T D I0 hea fly ft (h2 hb)
 | true =>
  refine codeAny_handlers_suite_as ?_;refine jh fly fun g2 un fly2=>?_;have I1:Inv X pins σ H { heap:=g2,gens:=g,drawn:=d,toks:=tk,os:=os }:=I0.turned (it:=T) (t':=tk) un ft.nt ft.nl (.inr ft.sz) ft.nc ft.np;refine fc (X:=X) (v:=.ref ea) I1 hN hi (.inl hk) rfl (fun s2 I2=>?_) (.inr hk);refine wpAny_mono (hs (.ref ea) pins s2 _ H _ ((I2.mark (.ref ea)).wish _) (h1 hb)) (fun f s3 hf=>?_) fun _ _ z=>False.elim z
  have un1:∀{σ' H'},Inv (X.mk' (.ref ea)).nox pins σ' H' s3->Inv X pins σ' H' s3:=fun J=>(Inv.unwish J).unmark I0.ok.hd;show wpAny _ X.A (do bindName X.env n .none;unbindBehindTheSuite X.env n pos) (fun _ s4=>SP X pins D f s4) X.xe s3
  cases f with
  | next =>
   obtain⟨σ',H',J,q⟩:=hf;exact ej (un1 J) hN hi hk fun s4 I4=>⟨_,H',I4,q⟩
  | brk =>
   obtain⟨σ',H',J,q⟩:=hf;exact ej (un1 J) hN hi hk fun s4 I4=>⟨_,H',I4,q⟩
  | cont =>
   obtain⟨σ',H',J,q⟩:=hf;exact ej (un1 J) hN hi hk fun s4 I4=>⟨_,H',I4,q⟩
  | ret u =>
   obtain⟨v,σ',H',J,r,q⟩:=hf;exact ej (un1 J) hN hi hk fun s4 I4=>⟨v,_,H',I4,r,q⟩
theorem nB:PH X [] (fun _ _ _ _ _ _=>False):=fun _ _ _ _ _ _ _ _ _ _ _ _ _ h=>h.elim
end
abbrev Cx.tryb(X:Cx)(pn:List (Addr×Obj))(E:Value->Shared->Prop):Cx:={ X with pn:=pn,xe:=E }
def t5(tb:(St->XK)->TS)(th:THd):TS:=fun D σ H=>∃J:St->XK,tb J D σ H/\∀(σ':St) (ea:Addr) (dd:Option Addr) (H':Hp),J σ' (.ref ea) dd H'->∃C,H' ea=some (.ext (XAt ea C dd false))/\th ea C dd D σ' H'
section
variable {X:Cx}{C0:Addr}{cn n:Str}{np pos:Pos}{b0:Stmt}{suite body:List Stmt}{rest:List ExceptHandler}{h0:ExceptHandler}{hs:List ExceptHandler}{i:Nat}{ts:TS}{tr th:THd}{tb:(St->XK)->TS}
theorem nC(hst:X.stack=X.env::X.outer)(hfm:X.env.frame=some X.env.locals)
  (hb:∀J pn E,PX (CXe X.prog X.w) (X.tryb pn E) J->PSs (X.tryb pn E) body (tb J)) (hh:PH X (h0::hs) th):PS X (.Try body (h0::hs) [] [] pos) (t5 tb th):=by
 intro pins s σ H D I h;obtain⟨J,h1,h2⟩:=h
 have mk:∀{E σ H s},Inv X pins σ H s->Inv (X.tryb (X.pn++pins) E) [] σ H s:=fun I =>
  ⟨⟨I.ok.mod,I.ok.kind,I.ok.glob,I.ok.blt,I.ok.above,I.ok.inj,I.ok.has,I.ok.cab,I.ok.hd,I.ok.frames,I.ok.stk,I.ok.exf,I.ok.bs,I.ok.bsz,I.ok.noex,I.ok.exfs,I.ok.funs,I.ok.frf⟩,I.os,I.bare,I.base,I.loc,I.cell,I.free,I.freeC,fun p hp=>I.pin p (by simpa using hp),I.hok,I.len⟩
 have un:∀{E pins' σ H s},Inv (X.tryb (X.pn++pins) E) pins' σ H s->Inv X pins σ H s:=fun {E pins' σ H s} I =>
  ⟨⟨I.ok.mod,I.ok.kind,I.ok.glob,I.ok.blt,I.ok.above,I.ok.inj,I.ok.has,I.ok.cab,I.ok.hd,I.ok.frames,I.ok.stk,I.ok.exf,I.ok.bs,I.ok.bsz,I.ok.noex,I.ok.exfs,I.ok.funs,I.ok.frf⟩,I.os,I.bare,I.base,I.loc,I.cell,I.free,I.freeC,fun p hp=>I.pin p (mem_append_left pins' hp),I.hok,I.len⟩
 let XE:Value->Shared->Prop:=fun e s1=>∃σ H s,Inv X pins σ H s/\CXe X.prog X.w X.stack H s (J σ) e s1
 have px:PX (CXe X.prog X.w) (X.tryb (X.pn++pins) XE) J:=fun pins' σ' H' s' e s1 I' h=>⟨σ',H',s',un I',h⟩
 refine wpAny_Try_except (wpAny_mono (hb J _ _ px [] s σ H D (mk I) h1) (fun f s1 hf=>?_) fun e s1 he=>?_)
 .cases f with
  | next =>
   obtain⟨σ',H',I',q⟩:=hf;rw [arm_execs_nil];exact wpAny_pure ⟨σ',H',un I',q⟩
  | brk =>
   obtain⟨σ',H',I',q⟩:=hf;exact⟨σ',H',un I',q⟩
  | cont =>
   obtain⟨σ',H',I',q⟩:=hf;exact⟨σ',H',un I',q⟩
  | ret u =>
   obtain⟨v,σ',H',I',r,q⟩:=hf;exact⟨v,σ',H',un I',r,q⟩
 .obtain⟨σ',H',s',I',cx⟩:=he;refine u0 hst hfm I' cx fun ea C dd H2 T s2 ee I2 hea fly ft hJ=>?_;subst ee;obtain⟨C2,hea2,ht⟩:=h2 σ' ea dd H2 hJ;exact hh pins s2 σ' H2 ea C2 dd T D I2 hea2 fly ft ht
end
def XR(K:PySem.W.Frag)(O:Addr->Prop)(H:Hp)(ea:Addr)(dd:Option Addr)(d:D):Prop:=∃c ns ds,d=.exc c ns ds/\H ea=some (.ext (XAt ea (ax K c) dd false))/\FV K O H (.ref ea) d
theorem XR.keeps{K:PySem.W.Frag}{O O':Addr->Prop}{H H':Hp}{ea:Addr}{dd:Option Addr}{d:D}(k:aK O H O' H')(h:XR K O H ea dd d):XR K O' H' ea dd d:=by
 obtain⟨c,ns,ds,rfl,e,f⟩:=h
 have n:¬ O ea:=by cases f with
  | exc0 n _=>exact n
  | exc1 n _ _ _ _ _=>exact n
 exact⟨c,ns,ds,rfl,(k _ _ n e).2,f.keeps k⟩
def LSX(K:PySem.W.Frag)(E:D->Prop)(Eo:XK)(fs:List Nat)(ts:TS)(ps:PTS):Prop:=∀(fx:List (Nat×V)) (A R:Addr->Prop) (H0:Hp) (ρ:PSt) (σ:St) (H:Hp) (D:mC) (D':lU),fx.map Prod.fst=fs->Rel K A ρ σ H->bU fx R H0 ρ σ H->ps D ρ ->
 (∀ρ' σ' H',D.nx ρ'->Rel K A ρ' σ' H'->bU fx R H0 ρ' σ' H'->D'.nx σ' H') ->
 (∀v p ρ' σ' H',D.rt p ρ'->Out K A ρ' σ' H0 H' p v->bU fx R H0 ρ' σ' H'->D'.rt v H') ->
 (∀ρ' σ' H',D.bk ρ'->Rel K A ρ' σ' H'->bU fx R H0 ρ' σ' H'->D'.bk σ' H') ->
 (∀ρ' σ' H',D.ct ρ'->Rel K A ρ' σ' H'->bU fx R H0 ρ' σ' H'->D'.ct σ' H') ->
 (∀ρ' σ' H' ea dd d,E d->Rel K A ρ' σ' H'->bU fx R H0 ρ' σ' H'->H0 ea=none->XR K (OO A ρ' σ') H' ea dd d->Eo (.ref ea) dd H')->ts D' σ H
theorem bU.nn{fx:List (Nat×V)}{R:Addr->Prop}{H0 H:Hp}{ρ:PSt}{σ:St}(F:bU fx R H0 ρ σ H){b:Addr}(h:H b=none):H0 b=none:=by
 cases e:H0 b with
 | none=>rfl
 | some o=>exact absurd h (F.dm b (by rw [e];exact nofun))
section
variable {K:PySem.W.Frag}{E:D->Prop}{Eo:XK}{fs:List Nat}{ta tb ts:TS}{pa pb ps:PTS}{te:TE}{pe:PTE}{tt:TT}{pt:PTT}{wi:TI}{pi:PTI}{g:TG}{pg:PTG}
theorem LS.x(h:LS K fs ts ps):LSX K E Eo fs ts ps:=fun fx A R H0 ρ σ H D D' hf r F q k1 k2 k3 k4 _=>h fx A R H0 ρ σ H D D' hf r F q k1 k2 k3 k4
theorem rW(ha:LSX K E Eo fs ta pa)(hb:LSX K E Eo fs tb pb):LSX K E Eo fs (qt ta tb) (aJ pa pb):=fun fx A R H0 ρ σ H D D' hf r F q k1 k2 k3 k4 k5 =>
 ha fx A R H0 ρ σ H _ _ hf r F q (fun ρ1 σ1 H1 q1 r1 F1=>hb fx A R H0 ρ1 σ1 H1 _ _ hf r1 F1 q1 k1 k2 k3 k4 k5) k2 k3 k4 k5
theorem t6(ht:LT K tt pt)(ha:LSX K E Eo fs ta pa)(hb:LSX K E Eo fs tb pb):LSX K E Eo fs (si tt ta tb) (hU pt pa pb):=fun fx A R H0 ρ σ H D D' hf r F q k1 k2 k3 k4 k5=>ht A ρ σ H _ _ r q fun c H1 ρ1 q1 f1 r1=>by
 cases c with
 | true=>exact ha fx A R H0 ρ1 σ H1 D D' hf r1 (F.fr f1) q1 k1 k2 k3 k4 k5
 | false=>exact hb fx A R H0 ρ1 σ H1 D D' hf r1 (F.fr f1) q1 k1 k2 k3 k4 k5
end
def lH(E:D->Prop)(pe:PTE):PTS:=fun _ ρ=>pe ρ fun p _=>match p with
 | .dat d=>E d
 | _=>False
section
variable {K:PySem.W.Frag}{E:D->Prop}{Eo:XK}{fs:List Nat}{ta:TA}{pa:PTA}{cs:List Str}{c f:Str}
theorem t8{H:Hp}{a:Addr}{o o':HO}:upd (upd H a o) a o'=upd H a o':=by
 funext b
 by_cases z:b=a
 .subst z;rw [aF,aF]
 .rw [ao z,ao z,ao z]
theorem lI(X:nz K cs)(hc:c∈cs)(h:LAs K ta pa):LSX K E Eo fs (nA K (rQ (ax K c) f ta) (fun _=>Eo)) (lH E (rR c f pa)):=fun fx A R H0 ρ σ H D D' hf r F q k1 k2 k3 k4 k5 =>
 h A ρ σ H _ _ r q fun vs H1 as ρ1 q1 f1 R1 o1=>by
  split at q1
  .rename_i d e1;have fs:=o1.avD e1
   cases fs with
   | @cons v _ _ _ fv fr =>
    cases fr;refine⟨_,rfl,fun e dx he hdx hne=>⟨e,ax K c,ax K "GlueError",some dx,rfl,aF,X.c c hc,?_⟩⟩;rw [t8];have he2:upd H1 dx (.xd [(f,v)]) e=none:=by rw [ao (fun z=>hne z.symm)];exact he
    have g1:Gr H1 (upd H1 dx (.xd [(f,v)])):=Gr.new hdx;have g2:=Gr.new (o:=.ext (XAt e (ax K c) (some dx) false)) he2;have g:Gr H1 (upd (upd H1 dx (.xd [(f,v)])) e (.ext (XAt e (ax K c) (some dx) false))):=fun b o z=>g2 b o (g1 b o z);have F1:=F.fr f1;exact k5 ρ1 σ _ e _ _ q1 (R1.gr g) (F1.fr g.fr) (F1.nn he) ⟨_,_,_,rfl,aF,.exc1 (fs:=[(f,v)]) (fun z=>R1.dom2 e z he) (fun z=>R1.dom2 dx z hdx) aF (by rw [ao hne];exact aF) rfl (.cons (fv.keeps fun b o n z=>⟨n,g b o z⟩) .nil)⟩
  .exact q1.elim
end
abbrev FX:=List D->(PV->Prop)->(D->Prop)->Prop
def spX(K:PySem.W.Frag)(c:FX):Sp:=fun vs H Q E=>∃(O:Addr->Prop) (ds:List D) (Qc:PV->Prop) (Ec:D->Prop),(∀b,O b->H b≠none)/\FVs K O H vs ds/\c ds Qc Ec/\(∀r,Qc r->∀v H',Gr H H'->iq K O H H' r v->Q v H') /\
 ∀d,Ec d->∀ea dd H',Gr H H'->H ea=none->XR K O H' ea dd d->E (.ref ea) dd H'
section
variable {K:PySem.W.Frag}{tr:TA}{pr:PTA}{ts:XK->TS}{ps:(D->Prop)->PTS}
def lJ(c:FX)(pr:PTA):PTE:=fun ρ Q=>pr ρ fun as ρ1=>match avD as with
 | some ds=>c ds (fun r=>Q r ρ1) (fun _=>False)
 | none=>False
theorem jR{c:FX}(h:LAs K tr pr):LE K (jQ (spX K c) (fun _=>E0) tr) (lJ c pr):=fun A ρ σ H Q Q' R q k=>h A ρ σ H _ _ R q fun vs H1 as ρ1 q1 f1 R1 o1=>by
 split at q1
 .rename_i ds e;exact⟨OO A ρ1 σ,ds,_,_,R1.dom2,o1.avD e,q1,fun r qr v H' g ov=>k v H' r ρ1 qr (f1.trans g.fr) ((ov.out R1 g).h0 f1.dm),fun d z=>z.elim⟩
 .exact q1.elim
end
section
variable {K:PySem.W.Frag}{cs:List Str}
theorem iB(X:nz K cs){c d:Str}(hc:c∈cs)(hd:d∈cs\/d="GlueError"):(Value.ref (ax K c)::.ref (ax K "GlueError")::vmB).contains (.ref (ax K d))=ko c d:=by
 have yd:XCl K d:=hd.elim (X.n d) fun e=>by rw [e];exact X.g
 have rr:∀a b:Addr,(Value.ref a == Value.ref b)=decide (a=b):=fun a b=>by
  by_cases h:a=b
  .subst h;simp
  .rw [decide_eq_false h];exact beq_eq_false_iff_ne.mpr fun z=>h (Value.ref.inj z)
 rw [contains_cons,contains_cons,rr,rr];have t2:vmB.contains (Value.ref (ax K d))=false:=rfl;rw [t2,Bool.or_false];unfold ko
 congr 1
 .by_cases h:c=d
  .subst h;rw [decide_eq_true rfl,decide_eq_true rfl]
  .rw [decide_eq_false h,decide_eq_false fun z=>(X.n c hc).ne yd h z.symm]
 .by_cases h:d="GlueError"
  .subst h;rw [decide_eq_true rfl,decide_eq_true rfl]
  .rw [decide_eq_false h,decide_eq_false (yd.ne X.g h)]
end
section
variable {K:PySem.W.Frag}{A R:Addr->Prop}{fx:List (Nat×V)}{fs:List Nat}{H0 H:Hp}{ρ:PSt}{σ:St}{i:Nat}
theorem eo{j:Nat}{q:PV}(e:(ρ.set i none)[j]?=some (some q)):j≠i/\ρ[j]?=some (some q):=by
 by_cases z:i=j
 .subst z
  by_cases hi:i<ρ.length
  .rw [getElem?_set_self hi] at e;cases e
  .rw [getElem?_eq_none (by rw [length_set];omega)] at e;cases e
 .rw [getElem?_set_ne z] at e;exact⟨fun q=>z q.symm,e⟩
theorem gW{b:Addr}(h:Wr (ρ.set i none) (σ.set i none) b):Wr ρ σ b:=by
 obtain⟨j,r,e1,o1,s1⟩:=h;obtain⟨n,e⟩:=eo e1;rw [getElem?_set_ne (fun z=>n z.symm)] at s1;exact⟨j,r,e,o1,s1⟩
theorem Rel.unset(R1:Rel K A ρ σ H):Rel K A (ρ.set i none) (σ.set i none) H:=by
 have k:aK (OO A ρ σ) H (OO A (ρ.set i none) (σ.set i none)) H:=aK.less fun b z=>z.imp id gW
 refine⟨by rw [length_set,length_set];exact R1.len,fun j r e1=>?_,fun j l p1 q1 v' e1 e2 o1 o2 s1 s2=>?_,R1.dom,fun b z w=>R1.sep b z (gW w)⟩
 .obtain⟨n,e⟩:=eo e1;obtain⟨u,s,r'⟩:=R1.get j r e;exact⟨u,by rw [getElem?_set_ne (fun z=>n z.symm)];exact s,r'.keeps k fun _ _ _=>rfl⟩
 .obtain⟨n1,e1⟩:=eo e1;obtain⟨n2,e2⟩:=eo e2;rw [getElem?_set_ne (fun z=>n1 z.symm)] at s1;rw [getElem?_set_ne (fun z=>n2 z.symm)] at s2;exact R1.dj j l p1 q1 v' e1 e2 o1 o2 s1 s2
theorem bU.unset(hf:fx.map Prod.fst=fs)(hi:fs.contains i=false)(F:bU fx R H0 ρ σ H):bU fx R H0 (ρ.set i none) (σ.set i none) H :=
 ⟨F.kp,F.dm,fun b w=>F.ow b (gW w),fun q hq=>by
  have:q.1≠i:=fun z=>by
   have h1:i∈fs:=by rw [<- hf,<- z];exact mem_map_of_mem hq
   rw [contains_iff_mem.mpr h1] at hi;cases hi
  rw [getElem?_set_ne (fun z=>this z.symm)];exact F.fx q hq⟩
end
abbrev PTH:=D->PTS
def LH(K:PySem.W.Frag)(fs:List Nat)(th:THd)(ph:PTH):Prop:=∀(fx:List (Nat×V)) (A R:Addr->Prop) (H0:Hp) (ρ:PSt) (σ:St) (H:Hp) (D:mC) (D':lU) (ea:Addr) (dd:Option Addr) (c:Str) (ns:List Str) (ds:List L2.D),fx.map Prod.fst=fs->Rel K A ρ σ H->bU fx R H0 ρ σ H ->
 H ea=some (.ext (XAt ea (ax K c) dd false))->FV K (OO A ρ σ) H (.ref ea) (.exc c ns ds)->ph (.exc c ns ds) D ρ ->
 (∀ρ' σ' H',D.nx ρ'->Rel K A ρ' σ' H'->bU fx R H0 ρ' σ' H'->D'.nx σ' H') ->
 (∀v p ρ' σ' H',D.rt p ρ'->Out K A ρ' σ' H0 H' p v->bU fx R H0 ρ' σ' H'->D'.rt v H') ->
 (∀ρ' σ' H',D.bk ρ'->Rel K A ρ' σ' H'->bU fx R H0 ρ' σ' H'->D'.bk σ' H') ->
 (∀ρ' σ' H',D.ct ρ'->Rel K A ρ' σ' H'->bU fx R H0 ρ' σ' H'->D'.ct σ' H')->th ea (ax K c) dd D' σ H
def pS:PTH:=fun _ _ _=>False
def t9(cs:List Str)(c0:Str)(i:Nat)(pb:PTS)(rest:PTH):PTH:=fun d D ρ=>match d with
 | .exc c _ _=>cs.contains c=true/\eO (ko c c0) (pb { nx:=fun ρ'=>D.nx (ρ'.set i none),bk:=fun ρ'=>D.bk (ρ'.set i none),ct:=fun ρ'=>D.ct (ρ'.set i none),rt:=D.rt } (ρ.set i (some (.dat d)))) (rest d D ρ)
 | _=>False
section
variable {K:PySem.W.Frag}{cs:List Str}{fs:List Nat}{ts:TS}{ps:PTS}{tr:THd}{pr:PTH}{c0:Str}{i:Nat}
theorem nE:LH K fs (fun _ _ _ _ _ _=>False) pS:=fun _ _ _ _ _ _ _ _ _ _ _ _ _ _ _ _ _ _ _ h _ _ _ _=>h
theorem rX(X:nz K cs)(h0:c0∈cs\/c0="GlueError")(hi:fs.contains i=false)(hs:LS K fs ts ps)(hr:LH K fs tr pr):LH K fs (hAs K (ax K c0) i ts tr) (t9 cs c0 i ps pr):=fun fx A R H0 ρ σ H D D' ea dd c ns ds hf r F hea fv q k1 k2 k3 k4=>by
 obtain⟨hc,q⟩:=(show cs.contains c=true/\_ from q)
 have hc:c∈cs:=contains_iff_mem.mp hc;have ek:=iB X hc h0
 refine⟨ax K "GlueError",X.c c hc,fun e=>?_,fun e=>?_⟩
 .rw [ek] at e;rw [e] at q;have o:Out K A ρ σ H0 H (.dat (.exc c ns ds)) (.ref ea):=⟨r,fv⟩
  exact hs fx A R H0 _ _ H _ _ hf (o.put (i:=i)).1 (F.put hf hi o.put.2) q (fun ρ' σ' H' q' r' F'=>k1 _ _ _ q' r'.unset (F'.unset hf hi)) k2 (fun ρ' σ' H' q' r' F'=>k3 _ _ _ q' r'.unset (F'.unset hf hi)) (fun ρ' σ' H' q' r' F'=>k4 _ _ _ q' r'.unset (F'.unset hf hi))
 .rw [ek] at e;rw [e] at q;exact hr fx A R H0 ρ σ H D D' ea dd c ns ds hf r F hea fv q k1 k2 k3 k4
end
def pT(c:FX)(pa:PTA)(ph:PTH):PTS:=fun D ρ=>pa ρ fun as ρ1=>match avD as with
 | some ds=>c ds (fun _=>D.nx ρ1) (fun d=>ph d D ρ1)
 | none=>False
section
variable {K:PySem.W.Frag}{fs:List Nat}{ta:TA}{pa:PTA}{th:THd}{ph:PTH}{c:FX}
theorem rY(ha:LAs K ta pa)(hh:LH K fs th ph):LS K fs (t5 (fun J=>qt (l9 (jQ (spX K c) J ta)) l8) th) (pT c pa ph):=fun fx A R H0 ρ σ H D D' hf r F q k1 k2 k3 k4=>by
 refine⟨fun σ' v dd H'=>∃ρ1 ea d,v=.ref ea/\σ'=σ/\Rel K A ρ1 σ H'/\bU fx R H0 ρ1 σ H'/\XR K (OO A ρ1 σ) H' ea dd d/\ph d D ρ1,?_,fun σ' ea dd H' ⟨ρ1,ea',d,ev,es,r1,F1,x1,q1⟩=>?_⟩
 .refine ha A ρ σ H _ _ r q fun vs H1 as ρ1 q1 f1 R1 o1=>?_
  split at q1
  .rename_i ds e;exact⟨OO A ρ1 σ,ds,_,_,R1.dom2,o1.avD e,q1,fun r qr v H' g ov=>k1 ρ1 σ H' qr (ov.out R1 g).frz.1 ((F.fr f1).fr g.fr),fun d qd ea dd H' g n x=>⟨ρ1,ea,d,rfl,rfl,R1.gr g,(F.fr f1).fr g.fr,x,qd⟩⟩
  .exact q1.elim
 .cases ev;subst es;obtain⟨c,ns,ds,rfl,hea,fv⟩:=x1;exact⟨_,hea,hh fx A R H0 ρ1 σ' H' D D' ea dd c ns ds hf r1 F1 hea fv q1 k1 k2 k3 k4⟩
end
section
variable {X:Cx}{st:Stmt}{t:TS}
theorem PS.nox(h:PS X.nox st t):PS X st t:=fun pins s σ H D I hw =>
 wpAny_mono (h pins s σ H D (I.wish _) hw) (fun f s' hs=>by
  cases f with
  | next=>obtain⟨σ',H',J,q⟩:=hs;exact⟨σ',H',J.unwish,q⟩
  | brk=>obtain⟨σ',H',J,q⟩:=hs;exact⟨σ',H',J.unwish,q⟩
  | cont=>obtain⟨σ',H',J,q⟩:=hs;exact⟨σ',H',J.unwish,q⟩
  | ret u=>obtain⟨v,σ',H',J,r,q⟩:=hs;exact⟨v,σ',H',J.unwish,r,q⟩) fun _ _ z=>z.elim
end
section
variable {P:Program}{w:World}{K:PySem.W.Frag}{mg:Str->Option Value}{base:Heap}{x:Str}{st:Stmt}{N ps:List Str}{k:Nat}{sp:Sp}
theorem b3.okE(D:b3 K mg x st)(S:aI N ps (ae st))
  (hb:∀(kV doc pm:Value) (an:Option Addr) (cdv ct:Value) (us:List Value),us.length=ps.length->bindArgs (PySem.W.fnOf x x (a5 st) (aT st) (ae st) .none kV doc pm an cdv ct) ⟨us,[]⟩=pure (ps.zip us))
  (len:∀vs H Q E,sp vs H Q E->vs.length=ps.length)
  (hbody:∀(f:Addr) (cdv:Value) (A:Around) (outer:List Env) (s:Shared) (H:Hp) (vs:List V) (Q:VK) (E:XK),dU k (A.deeper (envOfC x (ae st) s.heap.objs.size f cdv))->sp vs H Q E ->
   ∃t,PSs (jB (CXe P w) P w K mg base N x (ae st) f cdv A outer s H E) (aT st) t/\t { nx:=fun _ H'=>Q .non H',rt:=Q } (start N vs) H):rV P w K mg base (k+1) x ps sp:=by
 obtain⟨f,fd,F,hm⟩:=D.ex;refine⟨f,fd,?_,F.binds hb,F.kp,hm⟩;obtain⟨oc,od,kV,doc,pm,an,cdv,ct,osl,rfl,lk,hcd⟩:=F.ex;exact qH lk hcd S len fun A outer s H vs Q E hr hsp=>hbody f cdv A outer s H vs Q E hr hsp
end
theorem px0{P:Program}{w:World}{X:Cx}:PX (CXe P w) X (fun _=>E0):=fun pins σ H s e s' I h=>by
 obtain⟨_,_,_,_,_,_,_,_,_,_,_,_,_,_,z⟩:=h;exact z.elim
abbrev ua(pp:(D->Prop)->PTS)(n:Nat)(ds:List D)(Q:PV->Prop)(E:D->Prop):Prop:=pp E { nx:=fun _=>Q (.dat .non),rt:=fun p _=>Q p } (bF n (ds.map .dat))
section
variable {K:PySem.W.Frag}{ts:TS}{ps:(D->Prop)->PTS}
theorem u4{c:FX}{n:Nat}(hn:∀ds Q E,c ds Q E->ds.length=n){vs:List V}{H:Hp}{Q:VK}{E:XK}(h:spX K c vs H Q E):vs.length=n:=by
 obtain⟨O,ds,Qc,Ec,_,fv,hq,_⟩:=h;rw [fv.length];exact hn ds Qc Ec hq
theorem u8{c:FX}{N:List Str}{vs:List V}{H:Hp}{Q:VK}{E:XK}(hl:∀Ec,LSX K Ec E [] ts (ps Ec))(hn:∀ds Q E,c ds Q E->ds.length<=N.length)(hc:∀ds Q E,c ds Q E->ua ps N.length ds Q E)
  (h:spX K c vs H Q E):ts { nx:=fun _ H'=>Q .non H',rt:=Q } (start N vs) H:=by
 obtain⟨O,ds,Qc,Ec,dom,fv,hq,k,kx⟩:=h
 have nw:∀(ρ:PSt) (b:Addr),ρ=bF N.length (ds.map .dat)->¬ Wr ρ (start N vs) b:=fun ρ b e ⟨i,p,e1,o1,s1⟩=>by
  rw [e] at e1;have:=bK e1;rw [getElem?_map] at this
  cases e2:ds[i]? with
  | none=>rw [e2] at this;cases this
  | some d=>rw [e2] at this;cases this;cases o1
 have lenv:=fv.length;have hle:=hn ds Qc Ec hq
 have R0:Rel K O (bF N.length (ds.map .dat)) (start N vs) H:=by
  refine⟨?_,fun i p e=>?_,fun i j p q v e1 e2 o1 o2 s1 s2=>?_,dom,fun b _ w=>nw _ b rfl w⟩
  .unfold bF start;rw [length_append,length_append,length_map,length_map,length_map,length_replicate,length_replicate,lenv]
  .have:=bK e;rw [getElem?_map] at this
   cases e2:ds[i]? with
   | none=>rw [e2] at this;cases this
   | some d =>
    rw [e2] at this;cases this;obtain⟨v,hv,f⟩:=fv.getD e2;exact⟨v,eh hv,f.keeps (aK.less fun b z=>z.elim id fun w=>absurd w (nw _ b rfl))⟩
  .have:=bK e1;rw [getElem?_map] at this
   cases e3:ds[i]? with
   | none=>rw [e3] at this;cases this
   | some d=>rw [e3] at this;cases this;cases o1
 refine hl Ec [] O (fun _=>False) H _ _ H _ _ rfl R0 ⟨fun _ _ _ h=>h,fun _ h=>h,fun b w=>absurd w (nw _ b rfl),fun p hp=>nomatch hp⟩ (hc ds Qc Ec hq) (fun ρ' σ' H' q r F=>?_) (fun v p ρ' σ' H' q o F=>?_) (fun _ _ _ z=>z.elim) (fun _ _ _ z=>z.elim) (fun ρ' σ' H' ea dd d q r F n x=>?_)
 .exact k _ q .non H' (fun b o e=>F.kp b o id e) .non
 .exact k _ q v H' (fun b o e=>F.kp b o id e) o.outV
 .exact kx d q ea dd H' (fun b o e=>F.kp b o id e) n (x.keeps (aK.less fun b z=>.inl z))
end
theorem nF{X:Cx}{c0 cn n:Str}{np pos:Pos}{b0:Stmt}{suite:List Stmt}{rest:List ExceptHandler}{ts:TS}{tr:THd}(i:Nat)(K:PySem.W.Frag)(ek:X.K=K)(hx:XD K (ax K c0))(hm:X.mg cn=some (.ref (ax K c0)))(hN:X.N.Nodup)(hi:X.N[i]?=some n)(hk:X.env.scope.names.lookup n=some .local)(hs:∀e,PSs (X.mk' e).nox (b0::suite) ts)(hr:PH X rest tr)
  (hg:Gl X cn:=by rfl) (hdb:(cn == ("__debug__":Str))=false:=by decide):PH X (.ExceptHandler (some (.Name cn np)) (some n) (b0::suite) pos::rest) (hAs K (ax K c0) i ts tr):=t4 K ek hx hm hN hi hk hs hr hg hdb
theorem lK(d:D):(PV.dat d).d=d:=rfl
theorem lM(ds:List D):(PV.own ds).d=.lst ds:=rfl
theorem lN(c:Str)(ns:List Str)(ds:List D):(PV.ins c ns ds).d=.obj c ns ds:=rfl
theorem rZ(ds:List D):mkL false ds=.own ds:=rfl
theorem r0(ds:List D):mkL true ds=.dat (.tup ds):=rfl
def pkm(ρ:PSt)(j:Nat):Option PV:=match ρ[j]? with
 | some v=>v
 | none=>none
theorem jS(v:Option PV)(r:PSt):pkm (v::r) 0=v:=rfl
theorem jT(v:Option PV)(r:PSt)(n:Nat):pkm (v::r) (n+1)=pkm r n:=rfl
theorem iC(ρ:PSt):cP [] ρ=[]:=rfl
theorem gv(ix:List (Option Nat))(ρ:PSt):cP (none::ix) ρ=none::cP ix ρ:=rfl
theorem gw(j:Nat)(ix:List (Option Nat))(ρ:PSt):cP (some j::ix) ρ=pkm ρ j::cP ix ρ:=rfl
theorem iD(j:Nat)(ix:List (Option Nat))(ρ:PSt)(t:Option PV)(τ:PSt):dB (some j::ix) ρ (t::τ)=dB ix (ρ.set j t) τ:=rfl
theorem iE(ix:List (Option Nat))(ρ:PSt)(t:Option PV)(τ:PSt):dB (none::ix) ρ (t::τ)=dB ix ρ τ:=rfl
theorem jU(ρ τ:PSt):dB [] ρ τ=ρ:=rfl
theorem pU{α:Type}{e:α->D}{xs:List α}{k:Nat}(h:k<xs.length):itD (xs.map e) k=e xs[k]:=jJ (by rw [getElem?_map,getElem?_eq_getElem h];rfl)
theorem cmR{ix:List (Option Nat)}{ρ1:PSt}{g:PTG}{pe:PTE}{Q:PKt}{n:Nat}{it:Nat->D}(f:Nat->D)
  (hs:∀k,k<n->∀(v:Option PV) (K1:D->PSt->Prop),(∀v',K1 (f k) (v'::(cP ix ρ1).tail))->g (.dat (it k)) (v::(cP ix ρ1).tail) fun τ2=>pe τ2 fun p τ4=>K1 p.d τ4)
  (hq:∀v:Option PV,Q (.own ((List.range n).map f)) (dB ix ρ1 (v::(cP ix ρ1).tail))) (hx:cP ix ρ1=none::(cP ix ρ1).tail:=by rfl):mE ix ρ1 n it g ss pe Q:=by
 refine uY (fun τ=>∃v,τ=v::(cP ix ρ1).tail) f ⟨none,hx⟩ ?_ ?_
 .rintro k τ d hk rfl ⟨v,rfl⟩ K1 k1;exact hs k hk v K1 fun v'=>k1 _ ⟨v',rfl⟩
 .rintro τ ⟨v,rfl⟩;exact hq v
section
variable {α:Type}{e:α->D}{xs:List α}{ρ1:PSt}{g:PTG}{pb:PTS}{nx bk:PSt->Prop}{rt:PV->PSt->Prop}
theorem u9(J:List α->PSt->Prop)(h0:J [] ρ1)
  (hs:∀pre x suf ρ,xs=pre++x::suf->J pre ρ->g (.dat (e x)) ρ fun ρ2=>pb { nx:=J (pre++[x]),rt:=rt,bk:=bk,ct:=J (pre++[x]) } ρ2) (hq:∀ρ,J xs ρ->nx ρ) :
  ∃I:Nat->PSt->Prop,I 0 ρ1/\(∀k ρ d,k<(xs.map e).length->d=itD (xs.map e) k->I k ρ->g (.dat d) ρ fun ρ2=>pb { nx:=I (k+1),rt:=rt,bk:=bk,ct:=I (k+1) } ρ2)/\∀ρ,I (xs.map e).length ρ->nx ρ:=by
 refine⟨fun k ρ=>J (xs.take k) ρ,by show J (xs.take 0) ρ1;rw [take_zero];exact h0,fun k ρ d hk ed hJ=>?_,fun ρ h=>hq ρ (by have h:J (xs.take (xs.map e).length) ρ:=h;rw [length_map,take_length] at h;exact h)⟩;rw [length_map] at hk;rw [pU hk] at ed;subst ed;have ht:xs.take (k+1)=xs.take k++[xs[k]]:=by rw [take_succ,getElem?_eq_getElem hk];rfl
 show g _ ρ fun ρ2=>pb { nx:=J (xs.take (k+1)),rt:=rt,bk:=bk,ct:=J (xs.take (k+1)) } ρ2;rw [ht];exact hs _ _ (xs.drop (k+1)) ρ (by rw [getElem_cons_drop,take_append_drop]) hJ
end
section
variable {X:Cx}{K:PySem.W.Frag}
def nG(K:PySem.W.Frag):R2:=fun x y H Q=>∃a b ys,x=.ref a/\y=.ref b/\SqT K H a []/\SqT K H b ys/\Q (.ref b) H
theorem mP:OpR X (binaryOp .Add) (nG X.K):=by
 intro pins s σ H x y v u Q I rx ry h;obtain⟨a,b,ys,rfl,rfl,ha,hb,q⟩:=h;cases rx;cases ry;obtain⟨its,r1,p1,_⟩:=I.tuple ha;obtain⟨its2,r2,p2,_⟩:=I.tuple hb;have e0:its=[]:=r1.nil_iff.mpr rfl;subst e0;obtain⟨⟨cls,dd,data,sl⟩,ho,hc,n,hd⟩:=id p1;obtain⟨⟨cls2,dd2,data2,sl2⟩,ho2,hc2,n2,hd2⟩:=id p2;simp only at hc hd hc2 hd2;subst hc hd hc2 hd2;exact concat_meets ⟨_,ho,rfl⟩ ⟨_,ho2,rfl⟩ noFill_tuple_add seq_tuple_add PySem.F.slot_tuple_add PySem.F.entry_tuple_add (PySem.F.args_tuple_add_2 _ _) (tuple_addW0 a b _ _ n n2 dd dd2 sl sl2 rfl) ⟨ho,ho2,.ref b,H,I,rfl,q⟩
def pV(K:PySem.W.Frag):R2:=fun x y H Q=>oJ K x y H Q\/nG K x y H Q
theorem aM(K:PySem.W.Frag)(e:X.K=K):OpR X (binaryOp .Add) (pV K):=OpR.or (tG K e) (by subst e;exact mP)
def a8:F2
 | .tup a,.tup b,Q=>a.length+b.length<=1000000/\Q (.dat (.tup (a++b)))
 | a,b,Q=>tH a b Q
theorem aC:LO K (pV K) a8:=by
 intro O H x y a b Q Q' dom fx fy q k;unfold a8 at q
 split at q
 .rename_i Q ds es
  cases ds with
  | cons d ds=>exact .inl (nh O H x y _ _ _ Q' dom fx fy ⟨nofun,q⟩ k)
  | nil =>
   obtain⟨p1,xs1,rfl,n1,e1,f1⟩:=fx.tup;obtain⟨p2,xs2,rfl,n2,e2,f2⟩:=fy.tup;cases f1;exact .inr ⟨p1,p2,xs2,rfl,rfl,SqT.of e1,SqT.of e2,k _ H _ q.2 (Gr.refl _) (.tup n2 e2 f2)⟩
 .exact .inl (nh O H x y _ _ _ Q' dom fx fy q k)
end
section
variable {X:Cx}
def uL:Expr->Bool
 | .ListComp ..|.SetComp ..|.DictComp ..=>false
 | _=>true
theorem lO{o i e:Expr}{p:Pos}{l:Nat}{env:Env}(h:uL e=true):swapsWithSole [.Subscript o i p] e l env=pure false:=by
 show swapsWith e (some (.Subscript o i p)) l env=pure false;cases e <;> first|rfl|cases h
theorem ji{o i e:Expr}{p:Pos}{env:Env}:swappedStores [.Subscript o i p] e env=pure none:=rfl
theorem ub{o i e:Expr}{p:Pos}{te:TE}{g:TG}{pos:Pos}(he:PE X e te)(hg:PG X (.Subscript o i p) g)(hn:uL e=true:=by rfl):PS X (.Assign [.Subscript o i p] e pos) (sj te g) :=
 mX he hg (lO hn) ji rfl
end
def hX(K:PySem.W.Frag)(x:Str)(st:Stmt):Prop:=∃(f:Addr) (oc kV dc pm cd ct:Value) (od an:Option Addr) (sl:Array (Option Value)),PySem.W.nsIn K mainGlobals x=some (some (.ref f)) /\
 K.lookup f=some ⟨oc,od,.func (PySem.W.fnOf x x (a5 st) (aT st) (ae st) .none kV dc pm an cd ct),sl⟩/\PySem.W.codeIn K cd x=true/\PySem.W.keepIn K (.ref f)=true
theorem r8{K:PySem.W.Frag}{x:Str}{st:Stmt}{f:Addr}{oc kV dc pm cd ct:Value}{od an:Option Addr}{sl:Array (Option Value)}(a:PySem.W.nsIn K mainGlobals x=some (some (.ref f)))(l:K.lookup f=some ⟨oc,od,.func (PySem.W.fnOf x x (a5 st) (aT st) (ae st) .none kV dc pm an cd ct),sl⟩)
  (c:PySem.W.codeIn K cd x=true) (k:PySem.W.keepIn K (.ref f)=true):hX K x st:=⟨f,oc,kV,dc,pm,cd,ct,od,an,sl,a,l,c,k⟩
theorem b9{K:PySem.W.Frag}{h:Heap}{mg:Str->Option Value}{x:Str}{st:Stmt}(q:hX K x st)(X:K.In h)(G:h.Ns mainGlobals mg):b3 K mg x st:=by
 obtain⟨f,oc,kV,dc,pm,cd,ct,od,an,sl,a,l,c,k⟩:=q;exact .mk' X G a l c k
section
open PySem.AutoSeq1 (wpAny_loadPart')
open PySem.MeetsSeq PySem.MeetsSeq2 PySem.MeetsSeq3
variable {P:Program}{w:World}{A:Around}
end
section
variable {K:PySem.W.Frag}{A O O':Addr->Prop}{fx:List (Nat×V)}{R:Addr->Prop}{H0 H0' H H':Hp}{ρ ρ':PSt}{σ:St}{x:Nat}{Da:Addr}{as:List Addr}{rows:List (List D)}
def cl(x:Nat)(ρ:PSt):Option (List (List D))->PSt
 | none=>ρ
 | some rows=>ρ.set x (some (.own (rows.map D.lst)))
theorem lP(x:Nat)(ρ:PSt):cl x ρ none=ρ:=rfl
theorem lQ(x:Nat)(ρ:PSt)(rows:List (List D)):cl x ρ (some rows)=ρ.set x (some (.own (rows.map D.lst))):=rfl
end
section
variable {K:PySem.W.Frag}{A:Addr->Prop}{fx:List (Nat×V)}{R:Addr->Prop}{H0 H:Hp}{ρ:PSt}{σ:St}
def mvd(ρ:PSt)(g r:Nat)(ds:List D):PSt:=(ρ.set r (some (.own ds))).set g none
theorem nH(ρ:PSt)(g r:Nat)(ds:List D):mvd ρ g r ds=(ρ.set r (some (.own ds))).set g none:=rfl
end
structure er (k:Nat) (A:Around):Prop where
 dp:A.depth+3*k+5<recursionLimit
 un:A.units+16*k+200<cLine
theorem dU.mark{k:Nat}{A:Around}(r:dU k A)(e:Option Value):er k (A.mark e):=⟨r.dp,r.un⟩
theorem er.mono{j k:Nat}{A:Around}(r:er k A)(h:j<=k):er j A:=⟨by have:=r.dp;omega,by have:=r.un;omega⟩
theorem er.deeper{k:Nat}{A:Around}(r:er (k+1) A)(env:Env):er k (A.deeper env) :=
 ⟨by have:=r.dp;show A.depth+1+3*k+5<_;omega,by have:=r.un;show A.units+3+16*k+200<_;omega⟩
theorem er.depth{k:Nat}{A:Around}(r:er k A):A.depth<recursionLimit:=by have:=r.dp;omega
theorem er.units{k:Nat}{A:Around}(r:er k A):A.units+64<cLine:=by have:=r.un;omega
structure lX (P:Program) (w:World) (K:PySem.W.Frag) (mg:Str->Option Value) (base:Heap) (k:Nat) (x:Str) (ps:List Str) (sp:Sp):Prop where
 ex:∃(f:Addr) (fd:FuncData),(∀vs H Q E,sp vs H Q E->vs.length=ps.length) /\
  (∀(A:Around) (outer:List Env) (s:Shared) (H:Hp) (args:Args) (us:List Value) (vs:List V) (Q:VK) (E:XK),er k A->mf P w K mg base A outer s H->BindsTo s fd args (ps.zip us)->bo vs us->sp vs H Q E ->
   codeAny (model P w) A (.call (.ref f) args) (CR CX0 outer P w H s Q E) s)/\gF K fd ps []/\PySem.W.keepIn K (.ref f)=true/\mg x=some (.ref f)
abbrev cxN(P:Program)(w:World)(K:PySem.W.Frag)(mg:Str->Option Value)(base:Heap)(N:List Str)(qual:Str)(scope:Scope)(f:Addr)(cd:Value)(A:Around)(outer:List Env)(s:Shared)(H:Hp)(E:XK):Cx :=
 { jB CX0 P w K mg base N qual scope f cd A outer s H E with calm:=false }
section
variable {P:Program}{w:World}{K:PySem.W.Frag}{mg:Str->Option Value}{base:Heap}{x:Str}{st:Stmt}{N ps:List Str}{k:Nat}{sp:Sp}
theorem b3.okN(D:b3 K mg x st)(S:aI N ps (ae st))
  (hb:∀(kV doc pm:Value) (an:Option Addr) (cdv ct:Value) (us:List Value),us.length=ps.length->bindArgs (PySem.W.fnOf x x (a5 st) (aT st) (ae st) .none kV doc pm an cdv ct) ⟨us,[]⟩=pure (ps.zip us))
  (len:∀vs H Q E,sp vs H Q E->vs.length=ps.length)
  (hbody:∀(f:Addr) (cdv:Value) (A:Around) (outer:List Env) (s:Shared) (H:Hp) (vs:List V) (Q:VK) (E:XK),er k (A.deeper (envOfC x (ae st) s.heap.objs.size f cdv))->sp vs H Q E ->
   ∃t,PSs (cxN P w K mg base N x (ae st) f cdv A outer s H E).nox (aT st) t/\t { nx:=fun _ H'=>Q .non H',rt:=Q } (start N vs) H):lX P w K mg base (k+1) x ps sp:=by
 obtain⟨f,fd,F,hm⟩:=D.ex;have bd:=F.binds hb;have kp:=F.kp;obtain⟨oc,od,kV,doc,pm,an,cdv,ct,osl,rfl,lk,hcd⟩:=F.ex;refine⟨f,_,len,fun A outer s H args us vs Q E hr e0 hb r hsp=>?_,bd,kp,hm⟩;have hl:=len _ _ _ _ hsp;have KX:K.In s.heap:=e0.mod.kin.keeps fun b o e=>(e0.bs b o e).1;have lim:s.heap.NoLimit:=e0.mod.nolimit.keeps fun b o e=>(e0.bs b o e).1
 have hkind:∀y∈ps.zip us,(ae st).names.lookup y.1=some .local\/((ae st).names.lookup y.1=some .cell/\((cellsFrom (s.heap.objs.size+1) (ae st).names []).lookup y.1).isSome=true):=fun ⟨n,v⟩ hy=>by
  rcases S.par n (of_mem_zip hy).1 with q|q
  .exact .inl q
  .exact .inr ⟨q,PySem.W.cellsFrom_some _ _ _ (.inl q)⟩
 refine codeAny_call_function hr.depth (KX _ _ lk) rfl S.co S.gen rfl (PySem.W.codeRec_of KX hcd) (hb _ _ _ _ ?_);refine wpAny_newFunctionEnv_cells S.kind hkind fun env he s1 y=>?_;subst he;refine⟨lim.keeps y.toInCall.keep,codeAny_func ?_⟩;obtain⟨t,ht,hq⟩:=hbody f cdv A outer s H vs Q E (hr.deeper _) hsp;have e1:mf P w K mg base { A with handled:=none } outer s H:=⟨e0.frames,e0.mod,e0.bs,e0.bsz,e0.funs,e0.frf,e0.hok,e0.bare⟩
 have I0:Inv (jB CX0 P w K mg base N x (ae st) f cdv { A with handled:=none } outer s H E) [] (start N vs) H s1:=ie S rfl e1 hl r y
 have I:Inv (cxN P w K mg base N x (ae st) f cdv A outer s H E) [] (start N vs) H s1 :=
  ⟨⟨I0.ok.mod,I0.ok.kind,I0.ok.glob,I0.ok.blt,I0.ok.above,I0.ok.inj,I0.ok.has,I0.ok.cab,nofun,I0.ok.frames,I0.ok.stk,I0.ok.exf,I0.ok.bs,I0.ok.bsz,I0.ok.noex,I0.ok.exfs,I0.ok.funs,I0.ok.frf⟩,I0.os,I0.bare,I0.base,I0.loc,I0.cell,I0.free,I0.freeC,I0.pin,I0.hok,I0.len⟩
 refine wpAny_mono (ht.nox [] s1 (start N vs) H _ I hq) (fun fl s' hs=>?_) fun e s' hs=>hs
 have fin:∀{σ':St}{H':Hp}{v:V}{u:Value},Inv (cxN P w K mg base N x (ae st) f cdv A outer s H E) [] σ' H' s'->ck v u->Q v H'->CE outer P w H s Q u s' :=
  fun {σ' H' v u} J rv q=>⟨v,H',J.os,J.bare,J.base,J.hok,rv,q⟩
 cases fl with
 | ret u =>
  obtain⟨v,σ',H',J,rv,q⟩:=hs;exact fin J rv q
 | next =>
  obtain⟨σ',H',J,q⟩:=hs;exact fin (v:=V.non) (u:=Value.none) J rfl q
 | brk =>
  obtain⟨_,_,_,q⟩:=hs;exact False.elim q
 | cont =>
  obtain⟨_,_,_,q⟩:=hs;exact False.elim q
end
section
variable {X:Cx}{k:Nat}{x:Str}{ps:List Str}{sp:Sp}{p pos:Pos}{e:Expr}{es:List Expr}{t:TA}
theorem fA(C:lX X.prog X.w X.K X.mg X.base k x ps sp)(hr:er k X.A)(ha:PA X (e::es) t)(hg:Gl X x:=by rfl)(hdb:(x == ("__debug__":Str))=false:=by decide)(he:starEach (e::es) X.env=(false,eval e X.env)::starEach es X.env:=by rfl)
  (hpl:(backTo pos (starEach es X.env)).any (·.1)=false:=by rfl):PE X (.Call (.Name x p) (e::es) [] pos) (j6 sp [] E0 t):=by
 obtain⟨f,fd,len,run,hb,hk,hm⟩:=C.ex;intro pins s σ H Q I h;refine wpAny_Call_Name_kw (ey I hg hm ?_ hdb);refine PySem.W.callWith_K (h₀:=X.base) I.ok.mod.kin hk (thn (ha pos pins s σ H _ I h) fun us s1 ⟨vs,H1,I1,r,q⟩=>⟨I1.kIn,?_⟩) he hpl;have r2:bo (vs++[]) (us++[]):=r.append .nil;have hl:(us++[]).length=ps.length:=by rw [<- r2.length];exact len _ _ _ _ q
 refine wpAny_call (codeAny_mono (run X.A X.stack s1 H1 ⟨us,[]⟩ (us++[]) (vs++[]) Q E0 hr I1.env0 (hb s1 us I1.kIn hl) r2 q) fun r s' hq=>?_)
 cases r with
 | error e=>exact hq.elim
 | ok fl =>
  cases fl with
  | ret u=>exact I1.after hq
  | next=>exact False.elim hq
  | brk=>exact False.elim hq
  | cont=>exact False.elim hq
end
def uM(b:Bool):Value->Bool
 | .bool c=>c == b
 | _=>false
section
variable {X:Cx}{K:PySem.W.Frag}{ta te:TE}{pa:PA1}{pe:PTE}
def r9(K:PySem.W.Frag):V->List V->Hp->VK->Prop:=fun x xs H Q=>∃(p:Addr) (bs:List Bool) (b:Bool),x=.ref p/\xs=[.bl b]/\SqL K H p (bs.map V.bl)/\Q (.int (bs.countP (· == b):Nat)) H
theorem jV:∀{bs:List Bool}{its:List Value},bo (bs.map V.bl) its->its=bs.map Value.bool
 | [],_,.nil=>rfl
 | b::bs,_,.cons r t=>by rw [map_cons,<- jV t];cases (show _=Value.bool b from r);rfl
theorem pW(K:PySem.W.Frag)(e:X.K=K):MtR X "list.count" (r9 K):=by
 subst e;intro pins s σ H x xs v us Q I rx rs h;obtain⟨p,bs,b,rfl,rfl,hS,q⟩:=h;cases (show v=Value.ref p from rx);obtain⟨u,rfl,ru⟩:=iU rs;cases (show u=Value.bool b from ru);obtain⟨its,rv,pl,hz⟩:=I.list hS;obtain⟨⟨cls,dd,data,sl⟩,ho,hc,n,hd⟩:=pl.isList;simp only at hc hd;subst hc hd;have ei:=jV rv
 have ec:its.toArray.toList.countP (uM b)=bs.countP (· == b):=by
  rw [ei,countP_map];rfl
 refine call_meets PySem.F.slot_list_count ⟨_,ho,rfl⟩ PySem.F.entry_list_count (PySem.F.args_list_count_2 _ _)
  (PySem.SeqAt.list_countAt p its.toArray n dd sl (.bool b) (uM b)) ⟨ho,fun y hy=>?_,⟨.int _,H,I.tok _,⟨_,rfl⟩,by rw [ec];exact q⟩⟩
 have hy:y∈its:=by simpa using hy
 rw [ei] at hy;obtain⟨c,_,rfl⟩:=mem_map.mp hy;exact PySem.SeqAt.EqAt.bool_bool _ _
def sd(pa:PA1)(pe:PTE):PTE:=fun ρ Q=>pa ρ fun x ρ1=>match cont ρ1 x with
 | some (.lst _)=>pe ρ1 fun p ρ2=>(match cont ρ2 x,p with
  | some (.lst ds),.dat (.bl b)=>∃bs:List Bool,ds=bs.map .bl/\Q (.dat (.int (bs.countP (· == b):Nat))) ρ2
  | _,_=>False)
 | _=>False
theorem pX(ha:LA1 K ta pa)(he:LE K te pe):LE K (tBM K "list" (r9 K) ta (dX te me)) (sd pa pe):=fun A ρ σ H Q Q' R q k =>
 ha A ρ σ H _ _ R q fun v H1 a ρ1 q1 f1 R1 o1=>by
  split at q1
  .rename_i ds0 e1;obtain⟨a0,xs0,rfl,g0,f0⟩:=(R1.cont o1 e1).lst;refine⟨.inl ⟨rfl,xs0,SqL.of g0⟩,he A ρ1 σ H1 _ _ R1 q1 fun w H2 p ρ2 q2 f2 o2=>?_⟩;obtain⟨R2,fv⟩:=o2.frz
   split at q2
   .rename_i ds j e2;obtain⟨ns,rfl,q2⟩:=q2;cases (show FV K _ H2 w (.bl j) from fv);obtain⟨a1,xs1,e3,g1,g2⟩:=(R2.cont (o1.keeps f2.keeps) e2).lst;cases e3;rw [g2.bls] at g1;exact⟨a0,ns,j,rfl,rfl,SqL.of g1,k _ H2 _ ρ2 q2 (f1.trans f2) ⟨R2,.int _⟩⟩
   .exact q2.elim
  .exact q1.elim
end
def nI(pt:PTT)(p1:PTS)(c:FX)(pa:PTA)(ph:PTH):PTS:=fun D ρ=>pt ρ fun b ρ1=>eO b (p1 D ρ1) (pT c pa ph D ρ1)
section
variable {K:PySem.W.Frag}{fs:List Nat}{ta:TA}{pa:PTA}{th:THd}{ph:PTH}{c:FX}{tt:TT}{pt:PTT}{t1:TS}{p1:PTS}
theorem pY(ht:LT K tt pt)(h1:LS K fs t1 p1)(ha:LAs K ta pa)(hh:LH K fs th ph):LS K fs (t5 (fun J=>si tt t1 (qt (l9 (jQ (spX K c) J ta)) l8)) th) (nI pt p1 c pa ph):=fun fx A R H0 ρ σ H D D' hf r F q k1 k2 k3 k4=>by
 refine⟨fun σ' v dd H'=>∃ρ1 ea d,v=.ref ea/\σ'=σ/\Rel K A ρ1 σ H'/\bU fx R H0 ρ1 σ H'/\XR K (OO A ρ1 σ) H' ea dd d/\ph d D ρ1,?_,fun σ' ea dd H' ⟨ρ1,ea',d,ev,es,r1,F1,x1,q1⟩=>?_⟩
 .refine ht A ρ σ H _ _ r q fun b H1 ρ1 q1 f1 R1=>?_
  cases b with
  | true=>exact h1 fx A R H0 ρ1 σ H1 D D' hf R1 (F.fr f1) q1 k1 k2 k3 k4
  | false =>
   refine ha A ρ1 σ H1 _ _ R1 q1 fun vs H2 as ρ2 q2 f2 R2 o2=>?_
   split at q2
   .rename_i ds e;exact⟨OO A ρ2 σ,ds,_,_,R2.dom2,o2.avD e,q2,fun r qr v H' g ov=>k1 ρ2 σ H' qr (ov.out R2 g).frz.1 (((F.fr f1).fr f2).fr g.fr),fun d qd ea dd H' g n x=>⟨ρ2,ea,d,rfl,rfl,R2.gr g,((F.fr f1).fr f2).fr g.fr,x,qd⟩⟩
   .exact q2.elim
 .cases ev;subst es;obtain⟨c,ns,ds,rfl,hea,fv⟩:=x1;exact⟨_,hea,hh fx A R H0 ρ1 σ' H' D D' ea dd c ns ds hf r1 F1 hea fv q1 k1 k2 k3 k4⟩
end
end L2
namespace K08
open PySem PySem.Spec PyProof.Rows L2
def top(i:Nat):Stmt:=PySem.Challenge.pw_shortglue_k08_glued.main.body.getD i (.Pass ⟨0,0,0,0⟩)
abbrev jj:Stmt:=top 18
abbrev dP:Stmt:=top 20
abbrev eG:Stmt:=top 21
abbrev eH:Stmt:=top 22
abbrev cR:Stmt:=top 23
abbrev dQ:Stmt:=top 24
abbrev cS:Stmt:=top 25
abbrev eI:Stmt:=top 26
abbrev eJ:Stmt:=top 27
abbrev dR:Stmt:=top 28
abbrev dS:Stmt:=top 29
abbrev cT:Stmt:=top 30
abbrev cD:Stmt:=top 31
abbrev cU:Stmt:=top 32
abbrev fB:Stmt:=top 33
abbrev mQ:Stmt:=top 34
theorem mR:aI ["one","other","k"] ["one","other","k"] (ae jj):=⟨rfl,rfl,rfl,by decide +kernel,rfl,by decide +kernel,by decide +kernel⟩
theorem bu:aI ["_law_cell","_law_k","_law_number"] ["_law_cell","_law_k"] (ae dP):=⟨rfl,rfl,rfl,by decide +kernel,rfl,by decide +kernel,by decide +kernel⟩
theorem bg:aI ["_law_script","_law_many","_law_cells","_law_found","_law_turn","_law_cell","_law_rest"] ["_law_script","_law_many"] (ae eG):=⟨rfl,rfl,rfl,by decide +kernel,rfl,by decide +kernel,by decide +kernel⟩
theorem jk:aI ["_law_deck_here"] ["_law_deck_here"] (ae eH):=⟨rfl,rfl,rfl,by decide +kernel,rfl,by decide +kernel,by decide +kernel⟩
theorem bW:aI ["_law_deck_here","_law_many","_law_first","_law_step"] ["_law_deck_here"] (ae cR):=⟨rfl,rfl,rfl,by decide +kernel,rfl,by decide +kernel,by decide +kernel⟩
theorem cu:aI ["_law_deck_here","_law_letters_here","_law_many","_law_found","_law_k"] ["_law_deck_here","_law_letters_here","_law_many"] (ae dQ):=⟨rfl,rfl,rfl,by decide +kernel,rfl,by decide +kernel,by decide +kernel⟩
theorem cE:aI ["_law_text","_law_letters_here","_law_at","_law_other"] ["_law_text","_law_letters_here","_law_at"] (ae cS):=⟨rfl,rfl,rfl,by decide +kernel,rfl,by decide +kernel,by decide +kernel⟩
theorem aG:aI ["_law_deck_here","_law_most","_law_letters_here","_law_one","_law_sort","_law_k","_law_more","_law_times","_law_other"] ["_law_deck_here","_law_most"] (ae eI):=⟨rfl,rfl,rfl,by decide +kernel,rfl,by decide +kernel,by decide +kernel⟩
theorem fC:aI ["_law_one","_law_other","_law_k","_law_at"] ["_law_one","_law_other","_law_k"] (ae eJ):=⟨rfl,rfl,rfl,by decide +kernel,rfl,by decide +kernel,by decide +kernel⟩
theorem iF:aI ["_law_found"] ["_law_found"] (ae dR):=⟨rfl,rfl,rfl,by decide +kernel,rfl,by decide +kernel,by decide +kernel⟩
theorem a3:aI ["_law_error","_law_found"] ["_law_error"] (ae dS):=⟨rfl,rfl,rfl,by decide +kernel,rfl,by decide +kernel,by decide +kernel⟩
theorem fY:aI ["_law_error","_law_told"] ["_law_error","_law_told"] (ae cT):=⟨rfl,rfl,rfl,by decide +kernel,rfl,by decide +kernel,by decide +kernel⟩
theorem fE:aI ["_law_error","_law_k"] ["_law_error","_law_k"] (ae cD):=⟨rfl,rfl,rfl,by decide +kernel,rfl,by decide +kernel,by decide +kernel⟩
theorem cF:aI ["_law_one","_law_other","_law_k","_law_plain","_law_error"] ["_law_one","_law_other","_law_k","_law_plain"] (ae cU):=⟨rfl,rfl,rfl,by decide +kernel,rfl,by decide +kernel,by decide +kernel⟩
theorem ci:aI ["_law_one","_law_other","_law_k","_law_found","_law_sign","_law_at"] ["_law_one","_law_other","_law_k"] (ae fB):=⟨rfl,rfl,rfl,by decide +kernel,rfl,by decide +kernel,by decide +kernel⟩
theorem dC:aI ["_law_script","_law_deck_here","_law_one","_law_other","_law_letters_here","_law_far","_law_flip","_law_least","_law_k","_law_told"] ["_law_script"] (ae mQ):=⟨rfl,rfl,rfl,by decide +kernel,rfl,by decide +kernel,by decide +kernel⟩
structure Txt (mg:Str->Option Value):Prop where
 b_ValueError:mg "ValueError"=none
 b_bool:mg "bool"=none
 b_int:mg "int"=none
 b_isinstance:mg "isinstance"=none
 b_len:mg "len"=none
 b_list:mg "list"=none
 b_min:mg "min"=none
 b_range:mg "range"=none
 b_reversed:mg "reversed"=none
 b_str:mg "str"=none
abbrev bB:Stmt:=cJ (top 2) 0
theorem fF:aI ["self","most"] ["self","most"] (ae bB):=⟨rfl,rfl,rfl,by decide +kernel,rfl,by decide +kernel,by decide +kernel⟩
abbrev bC:Stmt:=cJ (top 3) 0
theorem fG:aI ["self","at"] ["self","at"] (ae bC):=⟨rfl,rfl,rfl,by decide +kernel,rfl,by decide +kernel,by decide +kernel⟩
abbrev b5:Stmt:=cJ (top 4) 0
theorem gX:aI ["self","k"] ["self","k"] (ae b5):=⟨rfl,rfl,rfl,by decide +kernel,rfl,by decide +kernel,by decide +kernel⟩
abbrev bD:Stmt:=cJ (top 6) 0
theorem fH:aI ["self","at"] ["self","at"] (ae bD):=⟨rfl,rfl,rfl,by decide +kernel,rfl,by decide +kernel,by decide +kernel⟩
abbrev bv:Stmt:=cJ (top 9) 0
theorem e7:aI ["self","most"] ["self","most"] (ae bv):=⟨rfl,rfl,rfl,by decide +kernel,rfl,by decide +kernel,by decide +kernel⟩
abbrev bw:Stmt:=cJ (top 11) 0
theorem e8:aI ["self","at"] ["self","at"] (ae bw):=⟨rfl,rfl,rfl,by decide +kernel,rfl,by decide +kernel,by decide +kernel⟩
abbrev bx:Stmt:=cJ (top 12) 0
theorem e9:aI ["self","at"] ["self","at"] (ae bx):=⟨rfl,rfl,rfl,by decide +kernel,rfl,by decide +kernel,by decide +kernel⟩
abbrev bb:Stmt:=cJ (top 13) 0
theorem et:aI ["self","at"] ["self","at"] (ae bb):=⟨rfl,rfl,rfl,by decide +kernel,rfl,by decide +kernel,by decide +kernel⟩
abbrev bN:Stmt:=cJ (top 14) 0
theorem fZ:aI ["self","at"] ["self","at"] (ae bN):=⟨rfl,rfl,rfl,by decide +kernel,rfl,by decide +kernel,by decide +kernel⟩
abbrev xcs:List Str:=["TooMany","NoPiece","NoLap","NoOrder","NotHeld","NoTable","NoRing","TooGreat","NoWords","NotApart","NoCounts","NotCovered","NoLine","NoPaper","NotTold"]
abbrev sB:List (Str×Str):=[("TooMany","most"),("NoPiece","at"),("NoLap","k"),("NotHeld","at"),("TooGreat","most"),("NotApart","at"),("NoCounts","at"),("NotCovered","at"),("NoLine","at")]
structure TxX (K:PySem.W.Frag) (mg:Str->Option Value):Prop where
 all:nz K xcs
 at_:∀c g,(c,g)∈sB->PySem.W.findIn K (.ref (ax K c)) g=some none
 m_TooMany:mg "TooMany"=some (.ref (ax K "TooMany"))
 m_NoPiece:mg "NoPiece"=some (.ref (ax K "NoPiece"))
 m_NoLap:mg "NoLap"=some (.ref (ax K "NoLap"))
 m_NoOrder:mg "NoOrder"=some (.ref (ax K "NoOrder"))
 m_NotHeld:mg "NotHeld"=some (.ref (ax K "NotHeld"))
 m_NoTable:mg "NoTable"=some (.ref (ax K "NoTable"))
 m_NoRing:mg "NoRing"=some (.ref (ax K "NoRing"))
 m_TooGreat:mg "TooGreat"=some (.ref (ax K "TooGreat"))
 m_NoWords:mg "NoWords"=some (.ref (ax K "NoWords"))
 m_NotApart:mg "NotApart"=some (.ref (ax K "NotApart"))
 m_NoCounts:mg "NoCounts"=some (.ref (ax K "NoCounts"))
 m_NotCovered:mg "NotCovered"=some (.ref (ax K "NotCovered"))
 m_NoLine:mg "NoLine"=some (.ref (ax K "NoLine"))
 m_NoPaper:mg "NoPaper"=some (.ref (ax K "NoPaper"))
 m_NotTold:mg "NotTold"=some (.ref (ax K "NotTold"))
 m_GlueError:mg "GlueError"=some (.ref (ax K "GlueError"))
 d_TooMany:XD K (ax K "TooMany")
 d_NoPiece:XD K (ax K "NoPiece")
 d_NoLap:XD K (ax K "NoLap")
 d_NoOrder:XD K (ax K "NoOrder")
 d_NotHeld:XD K (ax K "NotHeld")
 d_NoTable:XD K (ax K "NoTable")
 d_NoRing:XD K (ax K "NoRing")
 d_TooGreat:XD K (ax K "TooGreat")
 d_NoWords:XD K (ax K "NoWords")
 d_NotApart:XD K (ax K "NotApart")
 d_NoCounts:XD K (ax K "NoCounts")
 d_NotCovered:XD K (ax K "NotCovered")
 d_NoLine:XD K (ax K "NoLine")
 d_NoPaper:XD K (ax K "NoPaper")
 d_NotTold:XD K (ax K "NotTold")
 d_GlueError:XD K (ax K "GlueError")
 z_NoOrder:X0 K (ax K "NoOrder")
 kp_NoOrder:PySem.W.keepIn K (.ref (ax K "NoOrder"))=true
 z_NoTable:X0 K (ax K "NoTable")
 kp_NoTable:PySem.W.keepIn K (.ref (ax K "NoTable"))=true
 z_NoRing:X0 K (ax K "NoRing")
 kp_NoRing:PySem.W.keepIn K (.ref (ax K "NoRing"))=true
 z_NoWords:X0 K (ax K "NoWords")
 kp_NoWords:PySem.W.keepIn K (.ref (ax K "NoWords"))=true
 z_NoPaper:X0 K (ax K "NoPaper")
 kp_NoPaper:PySem.W.keepIn K (.ref (ax K "NoPaper"))=true
 z_NotTold:X0 K (ax K "NotTold")
 kp_NotTold:PySem.W.keepIn K (.ref (ax K "NotTold"))=true
local macro_rules | `(tactic| walk_at "s")=>`(tactic| first | (with_reducible omega) | (with_reducible assumption) | (with_reducible rfl) | exact le_of_ble_eq_true rfl | (simp only [length_cons,length_nil,length_append,length_map];(with_reducible omega)) | assumption | rfl | (refine ⟨?_,?_⟩ <;> first | (with_reducible omega) | (with_reducible assumption) | (with_reducible rfl) | exact le_of_ble_eq_true rfl | assumption | rfl | (refine ⟨?_,?_⟩ <;> first | (with_reducible omega) | (with_reducible assumption) | (with_reducible rfl) | exact le_of_ble_eq_true rfl | assumption | rfl | (refine ⟨?_,?_⟩ <;> first | (with_reducible omega) | (with_reducible assumption) | (with_reducible rfl) | exact le_of_ble_eq_true rfl | assumption | rfl | fail) | fail) | fail) | omega | fail)
local macro_rules | `(tactic| walk_at "r")=>`(tactic| ((try dsimp only [set_cons_zero,set_cons_succ,lK,lM,lN,rZ,r0,iC,gv,gw,jS,jT,tail_cons,iD,iE,jU,lP,lQ,nH]);(conv=>whnf);(repeat (first | ((with_reducible refine And.intro ?_ ?_);(next=>walk_at "s");(conv=>whnf)) | ((with_reducible refine (show Exists _ from ?_));(first | (refine ⟨_,rfl,?_⟩) | (refine ⟨_,p9.lst _,?_⟩) | (refine ⟨_,p9.tup _,?_⟩));(conv=>whnf)) | ((refine (show eO _ _ _ from ?_));(first | (with_reducible refine uS (by assumption) ?_) | (with_reducible refine uT (by assumption) ?_) | (with_reducible refine tw (by assumption) ?_) | (with_reducible refine tz (by assumption) ?_) | ((with_reducible refine tq ?_ ?_);(next=>(first | (with_reducible rfl) | (with_reducible assumption) | (with_reducible omega)))) | ((with_reducible refine tu ?_ ?_);(next=>(first | (with_reducible rfl) | (with_reducible assumption) | (with_reducible omega)))) | ((with_reducible refine rh ?_ ?_);(next=>(first | (with_reducible rfl) | (with_reducible assumption) | (with_reducible omega)))) | ((with_reducible refine ri ?_ ?_);(next=>(first | (with_reducible rfl) | (with_reducible assumption) | (with_reducible omega)))));(conv=>whnf))));(try refine (show eO _ _ _ from ?_));(try dsimp only [set_cons_zero,set_cons_succ,lK,lM,lN,rZ,r0,iC,gv,gw,jS,jT,tail_cons,iD,iE,jU,lP,lQ,nH])))
def jW:Nat:=3
def lY(a b:List Nat)(k:Int):Prop:=0<=k/\k<((min a.length b.length:Nat):Int)/\b.take k.toNat <:+ a
def a4:FX
 | [.str a,.str b,.int k],Q,E=>(a.length<=1000/\b.length<=1000)/\(lY a b k->Q (.dat (.str (a++b.drop k.toNat))))/\(¬ lY a b k->E (.exc "NoLap" ["k"] [.int k]))
 | _,_,_=>False
def eP:Nat:=3
def Dk(zs:List Int):Prop:=∀x∈zs,0<=x/\x<1000
def aV:FN
 | [.int c,.int k],Q=>(0<=k/\k<=100000)/\∀z:Int,0<=z->Q (.dat (.int z))
 | _,_=>False
def fJ:Nat:=7
def a6:FN
 | [.scr ns,.int mo],Q=>(ns.length<=64/\0<=mo/\mo<=2000)/\∀zs:List Int,Dk zs->zs.length=mo.toNat->Q (.own (zs.map .int))
 | _,_=>False
def fK:Nat:=1
def ay:FR
 | .own ds,[],Q=>∃zs:List Int,ds=zs.map .int/\(Dk zs/\0<zs.length/\zs.length<=100000)/\∀(z:Int) (ys:List Int),0<=z->z<1000->Dk ys->ys.length+1=zs.length->Q (.dat (.int z)) (.own (ys.map .int))
 | _,_,_=>False
def dD:Nat:=4
def nJ(n f st:Nat):List Nat:=(List.range n).map fun k=>97+(f+st*k) % 26
theorem pZ{n f st:Nat}(hn:n=2\/n=3\/n=26)(hs:st=1\/st=5\/st=25)(hf:f<26):(nJ n f st).Nodup:=by
 have h:∀n∈[2,3,26],∀st∈[1,5,25],∀f:Fin 26,decide (nJ n f.1 st).Nodup=true:=by decide +kernel
 exact of_decide_eq_true (h n (by rcases hn with rfl|rfl|rfl <;> decide) st (by rcases hs with rfl|rfl|rfl <;> decide) ⟨f,hf⟩)
theorem mS(n f st:Nat):Lts (nJ n f st):=fun c hc=>by
 obtain⟨k,_,rfl⟩:=mem_map.mp hc;have:=mod_lt (f+st*k) (show 0<26 by decide);exact⟨by omega,by omega⟩
theorem se{j:Nat}(h:j<26):atI [97,98,99,100,101,102,103,104,105,106,107,108,109,110,111,112,113,114,115,116,117,118,119,120,121,122] (j:Int)=some (97+j):=by
 have:∀j:Fin 26,atI [97,98,99,100,101,102,103,104,105,106,107,108,109,110,111,112,113,114,115,116,117,118,119,120,121,122] (j.1:Int)=some (97+j.1):=by decide +kernel
 exact this ⟨j,h⟩
def aS:FR
 | .own ds,[],Q=>∃zs:List Int,ds=zs.map .int/\(Dk zs/\3<=zs.length/\zs.length<=100000)/\∀(ls:List Nat) (ys:List Int),2<=ls.length->ls.length<=26->Lts ls->ls.Nodup->Dk ys->ys.length+3=zs.length->Q (.own (ls.map fun c=>.str [c])) (.own (ys.map .int))
 | _,_,_=>False
def eQ:Nat:=5
def aU:FR
 | .own ds,[.lst es,.int n],Q=>∃zs:List Int,ds=zs.map .int/\∃ls:List Nat,es=ls.map (fun c=>.str [c])/\(0<ls.length/\ls.length<=26/\Lts ls)/\(Dk zs/\zs.length<=100000)/\(0<=n/\n<=(zs.length:Int))/\∀(w:List Nat) (ys:List Int),w.length=n.toNat->Lts w->(∀c∈w,c∈ls)->Dk ys->ys.length+n.toNat=zs.length->Q (.dat (.str w)) (.own (ys.map .int))
 | _,_,_=>False
def dE:Nat:=4
def aN:FN
 | [.str t,.lst es,.int i],Q=>∃ls:List Nat,es=ls.map (fun c=>.str [c])/\(2<=ls.length/\ls.length<=26/\Lts ls)/\(t.length<=100000/\Lts t)/\∃k:Nat,i=(k:Int)/\k<t.length/\∀w:List Nat,w.length=t.length->Lts w->Q (.dat (.str w))
 | _,_=>False
def fL:Nat:=9
def bh:FR
 | .own ds,[.int mo],Q=>∃zs:List Int,ds=zs.map .int/\(Dk zs/\40<=zs.length/\zs.length<=10000)/\(60<=mo/\mo<=300)/\∀(a b ls:List Nat) (ys:List Int),0<a.length->(a.length:Int)<=mo->Lts a->0<b.length->(b.length:Int)<=mo->Lts b->2<=ls.length->ls.length<=26->Lts ls->Dk ys->zs.length<=ys.length+40->ys.length<=zs.length->Q (.dat (.tup [.str a,.str b,.lst (ls.map fun c=>.str [c])])) (.own (ys.map .int))
 | _,_,_=>False
def fM:Nat:=4
theorem lR{a b:List Nat}{n:Nat}(ha:n<=a.length)(hb:n<=b.length):b.take n <:+ a ↔ ∀j,j<n->a.getD (a.length - n+j) 0=b.getD j 0:=by
 rw [suffix_iff_eq_drop,length_take,show min n b.length=n by omega]
 constructor
 .intro h j hj;have e:=congrArg (fun l=>l[j]?) h;simp only [getElem?_take_of_lt hj,getElem?_drop] at e;rw [getD_eq_getElem?_getD,getD_eq_getElem?_getD,<- e]
 .intro h;refine ext_getElem? fun j=>?_
  by_cases hj:j<n
  .rw [getElem?_take_of_lt hj,getElem?_drop];have:=h j hj;rw [getD_eq_getElem?_getD,getD_eq_getElem?_getD,getElem?_eq_getElem (show a.length - n+j<a.length by omega),getElem?_eq_getElem (show j<b.length by omega)] at this;rw [getElem?_eq_getElem (show a.length - n+j<a.length by omega),getElem?_eq_getElem (show j<b.length by omega)];exact congrArg some this.symm
  .rw [getElem?_eq_none (by rw [length_take];omega),getElem?_eq_none (by rw [length_drop];omega)]
def a7:FN
 | [.str a,.str b,.int k],Q=>∃n:Nat,k=n/\((n<=a.length/\a.length<=10000)/\n<=b.length/\b.length<=10000)/\Q (.dat (.bl (decide (b.take n <:+ a))))
 | _,_=>False
def eR:Nat:=1
def aW:FN
 | [.int z],Q=>Q (.dat (.bl true))
 | _,_=>False
def eS:Nat:=2
def nK(c:Str):List Bool:=(["TooMany","NoPiece","NoLap","NoOrder","NotHeld","NoTable","NoRing","TooGreat","NoWords","NotApart","NoCounts","NotCovered","NoLine","NoPaper","NotTold"]:List Str).map (ko c)
theorem lS:∀c∈(["TooMany","NoPiece","NoLap","NoOrder","NotHeld","NoTable","NoRing","TooGreat","NoWords","NotApart","NoCounts","NotCovered","NoLine","NoPaper","NotTold"]:List Str),(nK c).countP (· == true)=1:=by decide +kernel
def aX:FN
 | [.exc c ns ds],Q=>xcs.contains c=true/\Q (.dat (.int 1))
 | _,_=>False
def dF:Nat:=2
def aO:FN
 | [.exc c ns ds,.bl b],Q=>xcs.contains c=true/\Q (.dat (.bl b))
 | _,_=>False
def di:Nat:=2
def aE:FN
 | [.exc c ns ds,.int k],Q=>c="NoLap"/\(["k"]:List Str)=ns/\ds=[.int k]/\Q (.dat (.bl true))
 | _,_=>False
def dG:Nat:=5
def aP:FN
 | [.str a,.str b,.int k,.bl p],Q=>(a.length<=1000/\b.length<=1000)/\¬ lY a b k/\Q (.dat (.bl true))
 | _,_=>False
def gy:Nat:=6
def bj:FN
 | [.str a,.str b,.int k],Q=>∃n:Nat,k=n/\(a.length<=1000/\b.length<=1000/\n<=b.length)/\Q (.dat (.str (a++b.drop n)))
 | _,_=>False
def nL:Nat:=10
abbrev jX:FN:=uG
def ff(E:D->Prop):PTS:=(aJ (hU (pOr (m9 (pB (ni fLe fLt (pFz (pC (.int 0))) (pSl 2) (pFz (pCB mF (ag (pFz (pCB i9 (ag (pSl 0) aH))) (ag (pFz (pCB i9 (ag (pSl 1) aH))) aH))))))) (m9 (pB (pSM o7 (bH 0) (ag (pFz (c5 (pSl 1) dz (cr (bH 2)))) aH))))) (lH E (rR "NoLap" "k" (ag (pFz (bH 2)) aH))) b8) (ce (pOp a8 (pSl 0) (pFz (c5 (pSl 1) (cr (bH 2)) dz)))))
theorem lT(a b:List Nat)(k:Int)(Q:PV->Prop)(E:D->Prop)(h:a4 ([.str a,.str b,.int k]) Q E):ua ff jW ([.str a,.str b,.int k]) Q E:=by
 show ff E _ [some (.dat (.str a)),some (.dat (.str b)),some (.dat (.int k))];obtain⟨⟨ha,hb⟩,q,e⟩:=h;have hm:(if (b.length:Int)<(a.length:Int) then (b.length:Int) else (a.length:Int))=((min a.length b.length:Nat):Int):=by split <;> omega
 have go:∀n:Nat,k=n->n<min a.length b.length->(b.take n <:+ a->lY a b k)/\(¬ b.take n <:+ a->¬ lY a b k):=fun n hk hn=>⟨fun z=>⟨by omega,by omega,by rw [hk,toNat_natCast];exact z⟩,fun z y=>z (by have:=y.2.2;rwa [hk,toNat_natCast] at this)⟩
 walk_at "r"
 refine cm (fun c1=>?_) (fun c1=>?_)
 .walk_at "r";rw [hm]
  refine lg (cm (fun c2=>?_) (fun c2=>?_))
  .obtain⟨n,rfl⟩:∃n:Nat,k=(n:Int):=⟨k.toNat,by omega⟩
   obtain⟨g1,g2⟩:=go n rfl (by omega);have ct:=gH b n;have cf:=fq b n;have lc:=bS b (some (n:Int)) none;walk_at "r";rw [ct]
   refine lg (cm (fun c3=>?_) (fun c3=>?_))
   .have q:=q (g1 c3);rw [toNat_natCast,<- cf] at q;walk_at "r";exact q
   .walk_at "r";exact e (g2 c3)
  .walk_at "r";exact e fun z=>c2 z.2.1
 .walk_at "r";exact e fun z=>c1 z.1
theorem mT:∀ds Q E,a4 ds Q E->ua ff jW ds Q E:=fun ds Q E h=>by
 unfold a4 at h
 split at h
 .exact lT _ _ _ _ _ h
 .exact h.elim
def cv:PTS:=(aJ (aR (pOp a8 (pFz (pOp eY (pSl 0) (pFz (pC (.int 2305843009213693951))))) (pFz (pOp i8 (pFz (pOp i8 (pSl 1) (pSl 1))) (pFz (pC (.int 48271)))))) (au 2)) (aJ (aR (pOp eY (pFz (pOp a8 (pFz (pOp a8 (pSl 2) (pFz (pOp i8 (pSl 1) (pFz (pC (.int 9973))))))) (pFz (pC (.int 20021))))) (pFz (pC (.int 2305843009213693951)))) (au 2)) (aJ (aR (pOp eY (pFz (pOp i8 (pSl 2) (pSl 2))) (pFz (pC (.int 2305843009213693951)))) (au 2)) (aJ (aR (pOp i8 (pFz (pOp a8 (pFz (pOp a8 (pSl 2) (pFz (pOp i8 (pSl 1) (pFz (pC (.int 16807))))))) (pFz (pC (.int 11))))) (pFz (pC (.int 69621)))) (au 2)) (aJ (aR (pOp eY (pSl 2) (pFz (pC (.int 2305843009213693951)))) (au 2)) (aJ (aR (pOp eY (pFz (pOp i8 (pSl 2) (pSl 2))) (pFz (pC (.int 2305843009213693951)))) (au 2)) (ce (pOp tX (pSl 2) (pFz (pC (.int 4096)))))))))))
theorem gY(c k:Int)(Q:PV->Prop)(h:aV ([.int c,.int k]) Q):fX cv eP ([.int c,.int k]) Q:=by
 show cv _ [some (.dat (.int c)),some (.dat (.int k)),none];obtain⟨⟨h0,h1⟩,q⟩:=h;walk_at "r";exact q _ (ediv_nonneg (emod_nonneg _ (by decide)) (by decide))
theorem iG:∀ds Q,aV ds Q->fX cv eP ds Q:=fun ds Q h=>by
 unfold aV at h
 split at h
 .exact gY _ _ _ h
 .exact h.elim
def cV:PTS:=(aJ (aR (pOp a8 (pFz (pCB oZ (ag (pSl 0) aH))) (pFz (i5 (ag (pFz (pCB i9 (ag (pSl 0) aH))) aH)))) (au 2)) (aJ (aR (i5 aH) (au 3)) (aJ (aR (pC (.int 0)) (au 4)) (aJ (jb (pB (pOp fLt (pFz (pCB i9 (ag (pSl 3) aH))) (pSl 1))) (aJ (ja (mD (bH 2)) (au 5) (aJ (aR (bH 5) (au 6)) (aJ (dA (hU (pOr (pB (pOp fGt (pSl 4) (pFz (pC (.int 0))))) (pB (pOp fLt (pSl 5) (pFz (pOp sw (pFz (pC (.int 10))) (pFz (pC (.int 18)))))))) (aJ (ln (su 3 (pOp eY (pFz (c6 aV (ag (pFz (bH 5)) (ag (pFz (pOp a8 (pFz (pCB i9 (ag (pSl 3) aH))) (pFz (pC (.int 1))))) aH)))) (pFz (pC (.int 1000)))))) (aR (pC (.int 0)) (au 6))) b8)) (jb (rm (pB (pOp fGt (pSl 6) (pFz (pC (.int 0))))) (pB (pOp fLt (pFz (pCB i9 (ag (pSl 3) aH))) (pSl 1)))) (aJ (ln (su 3 (pOp eY (pSl 6) (pFz (pC (.int 1000)))))) (aR (pOp tX (pSl 6) (pFz (pC (.int 1000)))) (au 6))))))) (aR (pOp a8 (pSl 4) (pFz (pC (.int 1)))) (au 4)))) (ce (jL (pFz (c5 (pSl 3) dz (cr (bH 1))))))))))
theorem iH(ns:List Int)(mo:Int)(Q:PV->Prop)(h:a6 ([.scr ns,.int mo]) Q):fX cV fJ ([.scr ns,.int mo]) Q:=by
 show cV _ [some (.dat (.scr ns)),some (.dat (.int mo)),none,none,none,none,none];obtain⟨⟨hn,h0,h1⟩,q⟩:=h;obtain⟨n,rfl⟩:∃n:Nat,mo=(n:Int):=⟨mo.toNat,by omega⟩
 have ecs:ns.map D.int++[D.int (ns.length:Int)]=(ns++[(ns.length:Int)]).map D.int:=by rw [map_append];rfl
 have hnm:(ns.map D.int).length=ns.length:=length_map _;walk_at "r";rw [ecs];generalize hcs:ns++[(ns.length:Int)]=cs;have hcl:cs.length=ns.length+1:=by rw [<- hcs,length_append];rfl
 have hcm:(cs.map D.int).length=cs.length:=length_map _;refine⟨fun m ρ=>∃(x:Option PV) (zs:List Int) (tn:Nat) (v5 v6:Option PV),(x=some (.own (cs.map .int))\/x=some (.dat (.lst (cs.map .int))))/\Dk zs/\zs.length<=n+65/\tn<=zs.length/\m=n - zs.length/\ρ=[some (.dat (.scr ns)),some (.dat (.int (n:Int))),x,some (.own (zs.map .int)),some (.dat (.int (tn:Int))),v5,v6],⟨n,_,[],0,_,_,.inl rfl,nofun,zero_le _,zero_le _,rfl,rfl⟩,?_⟩
 rintro m ρ ⟨x,zs,tn,v5,v6,hx,hz,hzl,htn,hm,rfl⟩;have hzm:(zs.map D.int).length=zs.length:=length_map _
 have fin:∀zs:List Int,Dk zs->n<=zs.length->Q (.own ((zs.take n).map D.int).reverse):=fun zs hz hl=>by
  rw [<- map_reverse];refine q _ (fun x hx=>hz x (mem_of_mem_take (mem_reverse.mp hx))) ?_;rw [length_reverse,length_take,toNat_natCast];omega
 have p18:((10:Int)^(18:Nat))=1000000000000000000:=by decide
 rcases hx with rfl|rfl <;> (
  walk_at "r"
  refine cm (fun c0=>?_) (fun c0=>?_)
  .have c0:zs.length<n:=by omega
   walk_at "r"
   refine⟨fun k ρ=>∃(ys:List Int) (w5 w6:Option PV),Dk ys/\ys.length<=n+k/\zs.length<=ys.length/\(0<k->zs.length<ys.length)/\ρ=[some (.dat (.scr ns)),some (.dat (.int (n:Int))),some (.dat (.lst (cs.map .int))),some (.own (ys.map .int)),some (.dat (.int (tn:Int))),w5,w6],⟨zs,_,_,hz,by omega,le_refl _,fun z=>absurd z (lt_irrefl _),rfl⟩,?_,?_⟩
   .rintro k ρ d hk ed ⟨ys,w5,w6,hy,hyl,hzy,hpr,rfl⟩;have hk:k<cs.length:=by rw [hcm] at hk;exact hk
    have ed:d=.int (cs.getD k 0):=by rw [ed];exact pd (by rw [hcm];exact hk)
    subst ed;generalize cs.getD k 0=c;have hym:(ys.map D.int).length=ys.length:=length_map _;walk_at "r"
    refine⟨fun ρ=>∃(us:List Int) (r:Int),Dk us/\0<=r/\((us.length=ys.length+1/\r=0)\/(us.length=ys.length/\0<r))/\ρ=[some (.dat (.scr ns)),some (.dat (.int (n:Int))),some (.dat (.lst (cs.map .int))),some (.own (us.map .int)),some (.dat (.int (tn:Int))),some (.dat (.int c)),some (.dat (.int r))],?_,?_⟩
    .have dm:∀(us:List Int) (z:Int),Dk us->Dk (us++[z % 1000]):=fun us z hu x hx=>by
      rcases mem_append.mp hx with w|w
      .exact hu x w
      .rw [mem_singleton.mp w];exact⟨emod_nonneg _ (by decide),emod_lt_of_pos _ (by decide)⟩
     have app:∀(us:List Int) (z:Int),us.map D.int++[D.int (z % 1000)]=(us++[z % 1000]).map D.int:=fun us z=>by rw [map_append];rfl
     walk_at "r"
     refine cm (fun c1=>?_) (fun c1=>?_)
     .walk_at "r";rintro z hz0;walk_at "r";exact⟨ys++[z % 1000],0,dm ys z hy,by decide,.inl ⟨by rw [length_append];rfl,rfl⟩,by rw [<- app]⟩
     .walk_at "r"
      refine cm (fun c2=>?_) (fun c2=>?_)
      .walk_at "r";rintro z hz0;walk_at "r";exact⟨ys++[z % 1000],0,dm ys z hy,by decide,.inl ⟨by rw [length_append];rfl,rfl⟩,by rw [<- app]⟩
      .have c3:¬ (c<1000000000000000000):=c2;walk_at "r";exact⟨ys,c,hy,by omega,.inr ⟨rfl,by omega⟩,rfl⟩
    .rintro ρ ⟨us,r,hu,hr,hc,rfl⟩
     have dm:∀(us:List Int) (z:Int),Dk us->Dk (us++[z % 1000]):=fun us z hu x hx=>by
      rcases mem_append.mp hx with w|w
      .exact hu x w
      .rw [mem_singleton.mp w];exact⟨emod_nonneg _ (by decide),emod_lt_of_pos _ (by decide)⟩
     have app:∀(us:List Int) (z:Int),us.map D.int++[D.int (z % 1000)]=(us++[z % 1000]).map D.int:=fun us z=>by rw [map_append];rfl
     walk_at "r";refine⟨fun m ρ=>∃(vs:List Int) (r:Int),Dk vs/\0<=r/\us.length<=vs.length/\(vs.length<=n\/vs.length=us.length)/\(vs.length=us.length->us.length=ys.length->0<r)/\m=n - vs.length/\ρ=[some (.dat (.scr ns)),some (.dat (.int (n:Int))),some (.dat (.lst (cs.map .int))),some (.own (vs.map .int)),some (.dat (.int (tn:Int))),some (.dat (.int c)),some (.dat (.int r))],⟨_,us,r,hu,hr,le_refl _,.inr rfl,fun _ e=>by omega,rfl,rfl⟩,?_⟩
     rintro m ρ ⟨vs,r,hv,hr0,huv,hvn,hrp,hm2,rfl⟩;have hvm:(vs.map D.int).length=vs.length:=length_map _
     have done:¬ (0<r/\vs.length<n)->∃(ys:List Int) (w5 w6:Option PV),Dk ys/\ys.length<=n+(k+1)/\zs.length<=ys.length/\(0<k+1->zs.length<ys.length)/\[some (.dat (.scr ns)),some (.dat (.int (n:Int))),some (.dat (.lst (cs.map .int))),some (.own (vs.map .int)),some (.dat (.int (tn:Int))),some (.dat (.int c)),some (.dat (.int r))]=[some (PV.dat (.scr ns)),some (.dat (.int (n:Int))),some (.dat (.lst (cs.map .int))),some (.own (ys.map .int)),some (.dat (.int (tn:Int))),w5,w6]:=fun hd=>by
      refine⟨vs,_,_,hv,by omega,by omega,fun _=>?_,rfl⟩
      rcases hc with ⟨e1,e2⟩|⟨e1,e2⟩
      .omega
      .by_cases g:vs.length=us.length
       .have:=hrp g e1
        by_cases k0:0<k
        .have:=hpr k0;omega
        .omega
       .omega
     walk_at "r"
     refine cm (fun c3=>?_) (fun c3=>?_)
     .walk_at "r"
      refine cm (fun c4=>?_) (fun c4=>?_)
      .walk_at "r"
       refine⟨_,?_,vs++[r % 1000],r / 1000,dm vs r hv,ediv_nonneg hr0 (by decide),?_,?_,?_,rfl,by rw [<- app]⟩
       .rw [length_append];show n - (vs.length+1)<m;omega
       .rw [length_append];omega
       .rw [length_append];show vs.length+1<=n\/_;omega
       .rw [length_append];intro e;exfalso;have e:vs.length+1=us.length:=e;omega
      .exact done (by omega)
     .exact done (by omega)
   .rintro ρ ⟨ys,w5,w6,hy,hyl,hzy,hpr,rfl⟩;rw [hcm] at hyl hpr;walk_at "r";exact⟨_,by omega,_,ys,tn+1,_,_,.inr rfl,hy,by omega,by have:=hpr (by omega);omega,rfl,by rw [show ((tn:Int)+1)=((tn+1:Nat):Int) by omega]⟩
  .have c0:n<=zs.length:=by omega
   walk_at "r";rw [gH,<- map_take];exact fin zs hz c0)
theorem jl:∀ds Q,a6 ds Q->fX cV fJ ds Q:=fun ds Q h=>by
 unfold a6 at h
 split at h
 .exact iH _ _ _ h
 .exact h.elim
def cW:PTS:=(ce (tQ 0))
theorem iI(ds:List D)(Q:PV->PV->Prop)(h:ay (.own ds) ([]) Q):nu cW fK (.own ds) ([]) Q:=by
 show cW _ [some (.own ds)];obtain⟨zs,rfl,⟨hz,h0,h1⟩,q⟩:=h;obtain⟨ys,z,rfl⟩:∃ys z,zs=ys++[z]:=⟨zs.dropLast,zs.getLast (ne_nil_of_length_pos h0),(dropLast_concat_getLast _).symm⟩
 have hm:((ys++[z]).map D.int)=ys.map D.int++[D.int z]:=by rw [map_append];rfl
 have hl:(ys.map D.int++[D.int z]).length - 1=(ys.map D.int).length:=by rw [length_append];rfl
 rw [hm];walk_at "r";refine⟨.int z,by rw [hl,getElem?_append_right (le_refl _),sub_self];rfl,?_⟩;walk_at "r";rw [dropLast_concat];have hzz:=hz z (mem_append_right _ (mem_singleton.mpr rfl));exact q z ys hzz.1 hzz.2 (fun x hx=>hz x (mem_append_left _ hx)) (by rw [length_append];rfl)
theorem jm:∀p ds Q,p.isOwn=true->ay p ds Q->nu cW fK p ds Q:=fun p ds Q _ h=>by
 unfold ay at h
 split at h
 .exact iI _ _ h
 .exact h.elim
def bX:PTS:=(aJ (aR (pOp fIx (pFz (i5 (ag (pFz (pC (.int 2))) (ag (pFz (pC (.int 2))) (ag (pFz (pC (.int 3))) (ag (pFz (pC (.int 26))) aH)))))) (pFz (pOp eY (pFz (bQ ay 0 aH)) (pFz (pC (.int 4)))))) (au 1)) (aJ (aR (pOp eY (pFz (bQ ay 0 aH)) (pFz (pC (.int 26)))) (au 2)) (aJ (aR (pOp fIx (pFz (i5 (ag (pFz (pC (.int 1))) (ag (pFz (pC (.int 5))) (ag (pFz (pC (.int 25))) aH))))) (pFz (pOp eY (pFz (bQ ay 0 aH)) (pFz (pC (.int 3)))))) (au 3)) (ce (rC [none,some 2,some 3] (sr (ag (pFz (bH 1)) aH)) (au 0) ss (pOp fIx (pFz (pC (.str [97,98,99,100,101,102,103,104,105,106,107,108,109,110,111,112,113,114,115,116,117,118,119,120,121,122]))) (pFz (pOp eY (pFz (pOp a8 (pSl 1) (pFz (pOp i8 (pSl 2) (pSl 0))))) (pFz (pC (.int 26)))))))))))
theorem fN(ds:List D)(Q:PV->PV->Prop)(h:aS (.own ds) ([]) Q):nu bX dD (.own ds) ([]) Q:=by
 show bX _ [some (.own ds),none,none,none];obtain⟨zs,rfl,⟨hz,h3,h1⟩,q⟩:=h;have g0:Dk zs/\0<zs.length/\zs.length<=100000:=⟨hz,by omega,h1⟩
 walk_at "r";rintro a y1 ha0 ha1 hd1 hl1;have g1:Dk y1/\0<y1.length/\y1.length<=100000:=⟨hd1,by omega,by omega⟩
 have hm:∃n:Nat,atI [D.int 2,D.int 2,D.int 3,D.int 26] (a % 4)=some (.int (n:Int))/\(n=2\/n=3\/n=26):=by
  rcases (show a % 4=0\/a % 4=1\/a % 4=2\/a % 4=3 by omega) with e|e|e|e <;> rw [e]
  .exact⟨2,rfl,.inl rfl⟩
  .exact⟨2,rfl,.inl rfl⟩
  .exact⟨3,rfl,.inr (.inl rfl)⟩
  .exact⟨26,rfl,.inr (.inr rfl)⟩
 obtain⟨n,en,hn⟩:=hm;walk_at "r";refine⟨_,en,?_⟩;walk_at "r";rintro b y2 hb0 hb1 hd2 hl2;have g2:Dk y2/\0<y2.length/\y2.length<=100000:=⟨hd2,by omega,by omega⟩
 walk_at "r";rintro c y3 hc0 hc1 hd3 hl3
 have hst:∃st:Nat,atI [D.int 1,D.int 5,D.int 25] (c % 3)=some (.int (st:Int))/\(st=1\/st=5\/st=25):=by
  rcases (show c % 3=0\/c % 3=1\/c % 3=2 by omega) with e|e|e <;> rw [e]
  .exact⟨1,rfl,.inl rfl⟩
  .exact⟨5,rfl,.inr (.inl rfl)⟩
  .exact⟨25,rfl,.inr (.inr rfl)⟩
 obtain⟨st,est,hst⟩:=hst;walk_at "r";refine⟨_,est,?_⟩;obtain⟨f,hf⟩:∃f:Nat,b % 26=(f:Int):=⟨(b % 26).toNat,by omega⟩
 rw [hf];have hf26:f<26:=by omega
 have hn26:n<=26:=by omega
 have hst25:st<=25:=by omega
 walk_at "r"
 refine cmR (fun k=>.str [97+(f+st*k) % 26]) (fun k hk v K1 k1=>?_) (fun v=>?_)
 .have hk:k<n:=by rw [toNat_natCast] at hk;exact hk
  have hk26:k<26:=by omega
  walk_at "r";rw [show ((f:Int)+(st:Int)*(k:Int)) % 26=(((f+st*k) % 26:Nat):Int) by rw [natCast_emod,natCast_add,natCast_mul];rfl];exact⟨_,se (mod_lt _ (by decide)),k1 _⟩
 .walk_at "r";rw [toNat_natCast,show (List.range n).map (fun k=>D.str [97+(f+st*k) % 26])=(nJ n f st).map fun c=>.str [c] by unfold nJ;rw [map_map];rfl];have hll:(nJ n f st).length=n:=by unfold nJ;rw [length_map,length_range]
  exact q (nJ n f st) y3 (by omega) (by omega) (mS n f st) (pZ hn hst hf26) hd3 (by omega)
theorem f7:∀p ds Q,p.isOwn=true->aS p ds Q->nu bX dD p ds Q:=fun p ds Q _ h=>by
 unfold aS at h
 split at h
 .exact fN _ _ h
 .exact h.elim
def cw:PTS:=(aJ (aR (pC (.str [])) (au 3)) (aJ (ja (sr (ag (pFz (bH 2)) aH)) (au 4) (aR (pOp a8 (pSl 3) (pFz (pOp fIx (pSl 1) (pFz (pOp eY (pFz (bQ ay 0 aH)) (pFz (pCB i9 (ag (pSl 1) aH)))))))) (au 3))) (ce (bH 3))))
theorem gZ(ds es:List D)(n:Int)(Q:PV->PV->Prop)(h:aU (.own ds) ([.lst es,.int n]) Q):nu cw eQ (.own ds) ([.lst es,.int n]) Q:=by
 show cw _ [some (.own ds),some (.dat (.lst es)),some (.dat (.int n)),none,none];obtain⟨zs,rfl,ls,rfl,⟨hl0,hl1,hL⟩,⟨hz,h1⟩,⟨hn0,hn1⟩,q⟩:=h;have hlm:(ls.map fun c=>D.str [c]).length=ls.length:=length_map _;walk_at "r"
 refine⟨fun k ρ=>∃(w:List Nat) (ys:List Int) (v4:Option PV),w.length=k/\Lts w/\(∀c∈w,c∈ls)/\Dk ys/\ys.length+k=zs.length/\ρ=[some (.own (ys.map .int)),some (.dat (.lst (ls.map fun c=>.str [c]))),some (.dat (.int n)),some (.dat (.str w)),v4],⟨[],zs,_,rfl,Lts.nil,(fun c hc=>nomatch hc),hz,rfl,rfl⟩,?_,?_⟩
 .rintro k ρ _ hk rfl ⟨w,ys,v4,hw,hwL,hwc,hy,hyl,rfl⟩;have hk2:(k:Int)<n:=by omega
  have g1:Dk ys/\0<ys.length/\ys.length<=100000:=⟨hy,by omega,by omega⟩
  walk_at "r";rintro z y2 hz0 hz1 hd2 hl2;obtain⟨j,hj⟩:∃j:Nat,z % (ls.length:Int)=(j:Int):=⟨(z % (ls.length:Int)).toNat,by have:=emod_nonneg z (show (ls.length:Int)≠0 by omega);omega⟩
  have hj2:j<ls.length:=by have:=emod_lt_of_pos z (show 0<(ls.length:Int) by omega);omega
  walk_at "r";rw [hlm,hj];refine⟨_,fw (j:=j) (by rw [getElem?_map,getElem?_eq_getElem hj2];rfl) rfl,?_⟩;walk_at "r";refine⟨w++[ls[j]],y2,_,by rw [length_append,hw];rfl,hwL.app (Lts.one (hL _ (getElem_mem hj2))),fun c hc=>?_,hd2,by omega,rfl⟩
  rcases mem_append.mp hc with x|x
  .exact hwc c x
  .rw [mem_singleton.mp x];exact getElem_mem hj2
 .rintro ρ ⟨w,ys,v4,hw,hwL,hwc,hy,hyl,rfl⟩;walk_at "r";exact q w ys hw hwL hwc hy hyl
theorem iJ:∀p ds Q,p.isOwn=true->aU p ds Q->nu cw eQ p ds Q:=fun p ds Q _ h=>by
 unfold aU at h
 split at h
 .exact gZ _ _ _ _ h
 .exact h.elim
def bY:PTS:=(aJ (aR (pOp fIx (pSl 1) (pFz (pC (.int 0)))) (au 3)) (aJ (dA (hU (pB (pOp jN (pFz (pOp fIx (pSl 0) (pSl 2))) (pSl 3))) (aR (pOp fIx (pSl 1) (pFz (pC (.int 1)))) (au 3)) b8)) (ce (pOp a8 (pFz (pOp a8 (pFz (c5 (pSl 0) dz (cr (bH 2)))) (pSl 3))) (pFz (c5 (pSl 0) (cr (pOp a8 (pSl 2) (pFz (pC (.int 1))))) dz))))))
theorem fO(t:List Nat)(es:List D)(i:Int)(Q:PV->Prop)(h:aN ([.str t,.lst es,.int i]) Q):fX bY dE ([.str t,.lst es,.int i]) Q:=by
 show bY _ [some (.dat (.str t)),some (.dat (.lst es)),some (.dat (.int i)),none];obtain⟨ls,rfl,⟨hl0,hl1,hL⟩,⟨ht,htL⟩,k,rfl,hk,q⟩:=h;have hlm:(ls.map fun c=>D.str [c]).length=ls.length:=length_map _;have a0:∀j,j<ls.length->atI (ls.map fun c=>D.str [c]) (j:Int)=some (.str [ls.getD j 0]):=fun j hj=>fw (j:=j) (by rw [getElem?_map,getElem?_eq_getElem hj,getD_eq_getElem?_getD,getElem?_eq_getElem hj];rfl) rfl
 have m0:∀j,j<ls.length->Lts [ls.getD j 0]:=fun j hj=>Lts.one (hL _ (by rw [getD_eq_getElem?_getD,getElem?_eq_getElem hj];exact getElem_mem hj));have at0:=a0 0 (by omega);have at1:=a0 1 (by omega);have fin:∀j,j<ls.length->Q (.dat (.str (t.take k++[ls.getD j 0]++t.drop (k+1)))):=fun j hj=>q _ (by rw [length_append,length_append,length_take,length_drop];show _+1+_=_;omega) (((htL.take _).app (m0 j hj)).app (htL.drop _))
 have c1:dW t none (some (k:Int))=t.take k:=gH _ _;have c2:dW t (some ((k:Int)+1)) none=t.drop (k+1):=by rw [show (k:Int)+1=((k+1:Nat):Int) by omega];exact fq _ _
 have l1:(t.take k).length<=t.length:=by rw [length_take];omega
 have l2:(t.drop (k+1)).length<=t.length:=by rw [length_drop];omega
 walk_at "r";refine⟨_,at0,?_⟩;walk_at "r"
 refine⟨fun ρ=>∃j,j<ls.length/\ρ=[some (PV.dat (D.str t)),some (PV.dat (D.lst (ls.map fun c=>.str [c]))),some (PV.dat (D.int (k:Int))),some (PV.dat (D.str [ls.getD j 0]))],?_,?_⟩
 .walk_at "r";refine⟨_,fw (j:=k) (getElem?_eq_getElem hk) rfl,?_⟩;walk_at "r"
  refine cm (fun d0=>?_) (fun d0=>?_)
  .walk_at "r";refine⟨_,at1,?_⟩;walk_at "r";exact⟨1,by omega,rfl⟩
  .walk_at "r";exact⟨0,by omega,rfl⟩
 .rintro ρ ⟨j,hj,rfl⟩;walk_at "r";rw [c1];refine⟨by show _+1<=_;omega,?_⟩;walk_at "r";rw [c2];refine⟨by rw [length_append];show _+1+_<=_;omega,?_⟩;walk_at "r";exact fin j hj
theorem f8:∀ds Q,aN ds Q->fX bY dE ds Q:=fun ds Q h=>by
 unfold aN at h
 split at h
 .exact fO _ _ _ _ h
 .exact h.elim
def cX:PTS:=(aJ (aR (bQ aS 0 aH) (au 2)) (aJ (aR (bQ aU 0 (ag (pFz (bH 2)) (ag (pFz (pOp a8 (pFz (pC (.int 1))) (pFz (pOp eY (pFz (bQ ay 0 aH)) (pFz (pC (.int 12))))))) aH))) (au 3)) (aJ (aR (pOp eY (pFz (bQ ay 0 aH)) (pFz (pC (.int 9)))) (au 4)) (aJ (aR (pOp eY (pFz (bQ ay 0 aH)) (pFz (pOp a8 (pFz (pCB i9 (ag (pSl 3) aH))) (pFz (pC (.int 1)))))) (au 5)) (aJ (aR (bQ aU 0 (ag (pFz (bH 2)) (ag (pFz (pOp eY (pFz (bQ ay 0 aH)) (pFz (pC (.int 9))))) aH))) (au 6)) (aJ (aR (bQ ay 0 aH) (au 7)) (aJ (aR (pOp a8 (pFz (c5 (pSl 3) (cr (pOp tW (pFz (pCB i9 (ag (pSl 3) aH))) (pSl 5))) dz)) (pSl 6)) (au 8)) (aJ (dA (hU (rm (pB (pOp jN (pSl 4) (pFz (pC (.int 3))))) (pB (pOp fGt (pSl 5) (pFz (pC (.int 0)))))) (aR (c6 aN (ag (pFz (bH 8)) (ag (pFz (bH 2)) (ag (pFz (pOp eY (pSl 7) (pSl 5))) aH)))) (au 8)) b8)) (aJ (dA (hU (pB (pOp jN (pSl 4) (pFz (pC (.int 4))))) (aR (bH 3) (au 8)) b8)) (aJ (dA (hU (pB (pOp jN (pSl 4) (pFz (pC (.int 5))))) (aJ (aR (c5 (pFz (pOp i8 (pSl 3) (pFz (pC (.int 9))))) (cr (bH 5)) (cr (pOp a8 (pFz (pOp a8 (pSl 5) (pFz (pC (.int 1))))) (pFz (pOp eY (pSl 7) (pFz (pC (.int 40)))))))) (au 8)) (aR (pOp i8 (pSl 3) (pFz (pOp a8 (pFz (pC (.int 1))) (pFz (pOp eY (pSl 7) (pFz (pC (.int 7)))))))) (au 3))) b8)) (aJ (dA (hU (pB (pOp jN (pSl 4) (pFz (pC (.int 6))))) (aJ (aR (c5 (pFz (pOp i8 (pSl 3) (pSl 1))) dz (cr (pOp tW (pSl 1) (pFz (pOp eY (pSl 7) (pFz (pC (.int 60)))))))) (au 3)) (aR (c5 (pFz (pOp a8 (pFz (pOp a8 (pSl 3) (pSl 6))) (pSl 3))) (cr (bH 5)) (cr (bH 1))) (au 8))) b8)) (aJ (dA (hU (pB (pOp jN (pSl 4) (pFz (pC (.int 7))))) (aJ (aR (pOp a8 (pSl 3) (pFz (pOp i8 (pFz (pOp fIx (pSl 2) (pFz (pC (.int 0))))) (pFz (pOp eY (pSl 7) (pFz (pC (.int 40)))))))) (au 3)) (aR (pOp a8 (pFz (pOp i8 (pFz (pOp fIx (pSl 2) (pFz (pC (.int 0))))) (pFz (pOp a8 (pFz (pC (.int 1))) (pFz (pOp eY (pFz (pOp tX (pSl 7) (pFz (pC (.int 7))))) (pFz (pC (.int 40))))))))) (pSl 6)) (au 8))) b8)) (aJ (dA (hU (pB (pOp jN (pSl 4) (pFz (pC (.int 8))))) (aR (bQ aU 0 (ag (pFz (bH 2)) (ag (pFz (pOp a8 (pFz (pC (.int 1))) (pFz (pOp eY (pSl 7) (pFz (pC (.int 8))))))) aH))) (au 8)) b8)) (aJ (dA (hU (pB (pOp jN (pSl 8) (pFz (pC (.str []))))) (aR (pOp fIx (pSl 2) (pFz (pC (.int 0)))) (au 8)) b8)) (ce (uz (ag (pFz (c5 (pSl 3) dz (cr (bH 1)))) (ag (pFz (c5 (pSl 8) dz (cr (bH 1)))) (ag (pFz (bH 2)) aH)))))))))))))))))))
theorem iK(ds:List D)(mo:Int)(Q:PV->PV->Prop)(h:bh (.own ds) ([.int mo]) Q):nu cX fL (.own ds) ([.int mo]) Q:=by
 show cX _ [some (.own ds),some (.dat (.int mo)),none,none,none,none,none,none,none];obtain⟨zs,rfl,⟨hz,h40,h1⟩,⟨hm0,hm1⟩,q⟩:=h;have g0:Dk zs/\3<=zs.length/\zs.length<=100000:=⟨hz,by omega,by omega⟩
 walk_at "r";rintro ls y1 hl2 hl26 hlL hlN hd1 hy1;have hlm:(ls.map fun c=>D.str [c]).length=ls.length:=length_map _;have g1:Dk y1/\0<y1.length/\y1.length<=100000:=⟨hd1,by omega,by omega⟩
 have gl:0<ls.length/\ls.length<=26/\Lts ls:=⟨by omega,hl26,hlL⟩
 have gl2:2<=ls.length/\ls.length<=26/\Lts ls:=⟨hl2,hl26,hlL⟩
 walk_at "r";rintro n1 y2 ha0 ha1 hd2 hy2;have gn1:0<=1+n1 % 12/\1+n1 % 12<=(y2.length:Int):=⟨by omega,by omega⟩
 have g2:Dk y2/\y2.length<=100000:=⟨hd2,by omega⟩
 walk_at "r";rintro one y3 ho hoL _ hd3 hy3;have ho1:0<one.length/\one.length<=12:=⟨by omega,by omega⟩
 have g3:Dk y3/\0<y3.length/\y3.length<=100000:=⟨hd3,by omega,by omega⟩
 walk_at "r";rintro n2 y4 hb0 hb1 hd4 hy4;have g4:Dk y4/\0<y4.length/\y4.length<=100000:=⟨hd4,by omega,by omega⟩
 walk_at "r";rintro n3 y5 hc0 hc1 hd5 hy5;have g5:Dk y5/\0<y5.length/\y5.length<=100000:=⟨hd5,by omega,by omega⟩
 obtain⟨k,hk⟩:∃k:Nat,n3 % ((one.length:Int)+1)=(k:Int):=⟨(n3 % ((one.length:Int)+1)).toNat,by have:=emod_nonneg n3 (show (one.length:Int)+1≠0 by omega);omega⟩
 have hk2:k<=one.length:=by have:=emod_lt_of_pos n3 (show 0<(one.length:Int)+1 by omega);omega
 walk_at "r";rw [hk];rintro n4 y6 he0 he1 hd6 hy6;have gn4:0<=n4 % 9/\n4 % 9<=(y6.length:Int):=⟨by omega,by omega⟩
 have g6:Dk y6/\y6.length<=100000:=⟨hd6,by omega⟩
 walk_at "r";rintro more y7 hmo hmoL _ hd7 hy7;have hmo2:more.length<=8:=by omega
 have g7:Dk y7/\0<y7.length/\y7.length<=100000:=⟨hd7,by omega,by omega⟩
 walk_at "r";rintro tm y8 hf0 hf1 hd8 hy8;walk_at "r";have e0:dW one (some ((one.length:Int) - (k:Int))) none=one.drop (one.length - k):=by rw [show (one.length:Int) - (k:Int)=((one.length - k:Nat):Int) by omega,fq]
 rw [e0];have l0:(one.drop (one.length - k)).length=k:=by rw [length_drop];omega
 have oL:Lts (one.drop (one.length - k)++more):=(hoL.drop _).app hmoL;have ol:(one.drop (one.length - k)++more).length=k+more.length:=by rw [length_append,l0]
 have at0:∃c0:Nat,atI (ls.map fun c=>D.str [c]) 0=some (.str [c0])/\Lts [c0]:=⟨ls[0]'(by omega),fw (j:=0) (by rw [getElem?_map,getElem?_eq_getElem (by omega)];rfl) rfl,Lts.one (hlL _ (getElem_mem _))⟩
 obtain⟨c0,at0,c0L⟩:=at0;have rl:=fun (w:List Nat) (z:Int)=>fu w z;refine⟨by omega,?_⟩;walk_at "r"
 refine⟨fun ρ=>∃(u o:List Nat),0<u.length/\u.length<=12/\Lts u/\o.length<=30/\Lts o/\ρ=[some (.own (y8.map .int)),some (.dat (.int mo)),some (.dat (.lst (ls.map fun c=>.str [c]))),some (.dat (.str u)),some (.dat (.int (n2 % 9))),some (.dat (.int (k:Int))),some (.dat (.str more)),some (.dat (.int tm)),some (.dat (.str o))],?_,?_⟩
 .have here:∃(u o:List Nat),0<u.length/\u.length<=12/\Lts u/\o.length<=30/\Lts o/\([some (.own (y8.map .int)),some (.dat (.int mo)),some (.dat (.lst (ls.map fun c=>.str [c]))),some (.dat (.str one)),some (.dat (.int (n2 % 9))),some (.dat (.int (k:Int))),some (.dat (.str more)),some (.dat (.int tm)),some (.dat (.str (one.drop (one.length - k)++more)))]:PSt)=[some (.own (y8.map .int)),some (.dat (.int mo)),some (.dat (.lst (ls.map fun c=>.str [c]))),some (.dat (.str u)),some (.dat (.int (n2 % 9))),some (.dat (.int (k:Int))),some (.dat (.str more)),some (.dat (.int tm)),some (.dat (.str o))]:=⟨one,_,ho1.1,ho1.2,hoL,by rw [ol];omega,oL,rfl⟩
  walk_at "r"
  refine cm (fun c1=>?_) (fun c1=>?_)
  .walk_at "r"
   refine cm (fun c2=>?_) (fun c2=>?_)
   .obtain⟨j,hj⟩:∃j:Nat,tm % (k:Int)=(j:Int):=⟨(tm % (k:Int)).toNat,by have:=emod_nonneg tm (show (k:Int)≠0 by omega);omega⟩
    have hj2:j<(one.drop (one.length - k)++more).length:=by rw [ol];have:=emod_lt_of_pos tm (show 0<(k:Int) by omega);omega
    have gs:(one.drop (one.length - k)++more).length<=100000/\Lts (one.drop (one.length - k)++more):=⟨by rw [ol];omega,oL⟩
    walk_at "r";rw [hj];refine⟨j,rfl,hj2,fun w hw hwL=>?_⟩;walk_at "r";exact⟨one,w,ho1.1,ho1.2,hoL,by rw [hw,ol];omega,hwL,rfl⟩
   .exact here
  .exact here
 rintro ρ ⟨u,o,hu0,hu1,huL,ho2,hoL2,rfl⟩;walk_at "r"
 refine⟨fun ρ=>∃(u o:List Nat),0<u.length/\u.length<=12/\Lts u/\o.length<=30/\Lts o/\ρ=[some (.own (y8.map .int)),some (.dat (.int mo)),some (.dat (.lst (ls.map fun c=>.str [c]))),some (.dat (.str u)),some (.dat (.int (n2 % 9))),some (.dat (.int (k:Int))),some (.dat (.str more)),some (.dat (.int tm)),some (.dat (.str o))],?_,?_⟩
 .walk_at "r"
  refine cm (fun c1=>?_) (fun c1=>?_)
  .walk_at "r";exact⟨u,u,hu0,hu1,huL,by omega,huL,rfl⟩
  .exact⟨u,o,hu0,hu1,huL,ho2,hoL2,rfl⟩
 rintro ρ ⟨u,o,hu0,hu1,huL,ho2,hoL2,rfl⟩;walk_at "r"
 refine⟨fun ρ=>∃(u o:List Nat),0<u.length/\u.length<=100/\Lts u/\o.length<=200/\Lts o/\ρ=[some (.own (y8.map .int)),some (.dat (.int mo)),some (.dat (.lst (ls.map fun c=>.str [c]))),some (.dat (.str u)),some (.dat (.int (n2 % 9))),some (.dat (.int (k:Int))),some (.dat (.str more)),some (.dat (.int tm)),some (.dat (.str o))],?_,?_⟩
 .walk_at "r"
  refine cm (fun c1=>?_) (fun c1=>?_)
  .have r1:=rl u 9;have r2:=rl u (1+tm % 7);have c2:=bS (gI u 9) (some (k:Int)) (some ((k:Int)+1+tm % 40));have n9:(9:Int).toNat=9:=rfl;rw [n9] at r1;have t7:(1+tm % 7).toNat<=7/\1<=(1+tm % 7).toNat:=by omega
   have b7:(1+tm % 7).toNat*u.length<=7*u.length:=mul_le_mul_right _ t7.1;have p7:1*u.length<=(1+tm % 7).toNat*u.length:=mul_le_mul_right _ t7.2;have w9:(-1000000:Int)<=9/\(9:Int)<=1000000/\Int.toNat 9*u.length<=1000000:=⟨by decide,by decide,by show 9*u.length<=1000000;omega⟩
   have w7:(-1000000:Int)<=1+tm % 7/\1+tm % 7<=1000000/\(1+tm % 7).toNat*u.length<=1000000:=⟨by omega,by omega,by omega⟩
   walk_at "r";exact⟨gI u (1+tm % 7),_,by rw [r2];omega,by rw [r2];omega,huL.rep _,by omega,(huL.rep _).cut _ _,rfl⟩
  .exact⟨u,o,hu0,by omega,huL,by omega,hoL2,rfl⟩
 rintro ρ ⟨u,o,hu0,hu1,huL,ho2,hoL2,rfl⟩;walk_at "r"
 refine⟨fun ρ=>∃(u o:List Nat),0<u.length/\u.length<=300/\Lts u/\o.length<=1000/\Lts o/\ρ=[some (.own (y8.map .int)),some (.dat (.int mo)),some (.dat (.lst (ls.map fun c=>.str [c]))),some (.dat (.str u)),some (.dat (.int (n2 % 9))),some (.dat (.int (k:Int))),some (.dat (.str more)),some (.dat (.int tm)),some (.dat (.str o))],?_,?_⟩
 .walk_at "r"
  refine cm (fun c1=>?_) (fun c1=>?_)
  .have r1:=rl u mo;have b1:mo.toNat*u.length<=300*100:=mul_le_mul (by omega) hu1;have p1:mo.toNat*1<=mo.toNat*u.length:=mul_le_mul_left _ hu0;have w6:(-1000000:Int)<=mo/\mo<=1000000/\mo.toNat*u.length<=1000000:=⟨by omega,by omega,by omega⟩
   have e6:dW (gI u mo) none (some (mo - tm % 60))=(gI u mo).take (mo - tm % 60).toNat:=gK _ (by omega);have l6:((gI u mo).take (mo - tm % 60).toNat).length=(mo - tm % 60).toNat:=by rw [length_take,r1];omega
   walk_at "r";rw [e6];generalize hw:(gI u mo).take (mo - tm % 60).toNat=v at l6;have vL:Lts v:=by rw [<- hw];exact (huL.rep _).take _
   have hv0:0<v.length/\v.length<=300:=by omega
   walk_at "r";have c3:=bS (v++more++v) (some (k:Int)) (some mo);rw [length_append,length_append] at c3;exact⟨v,_,hv0.1,hv0.2,vL,by omega,((vL.app hmoL).app vL).cut _ _,rfl⟩
  .exact⟨u,o,hu0,by omega,huL,by omega,hoL2,rfl⟩
 rintro ρ ⟨u,o,hu0,hu1,huL,ho2,hoL2,rfl⟩;walk_at "r"
 refine⟨fun ρ=>∃(u o:List Nat),0<u.length/\u.length<=400/\Lts u/\o.length<=1000/\Lts o/\ρ=[some (.own (y8.map .int)),some (.dat (.int mo)),some (.dat (.lst (ls.map fun c=>.str [c]))),some (.dat (.str u)),some (.dat (.int (n2 % 9))),some (.dat (.int (k:Int))),some (.dat (.str more)),some (.dat (.int tm)),some (.dat (.str o))],?_,?_⟩
 .walk_at "r"
  refine cm (fun c1=>?_) (fun c1=>?_)
  .have r1:=rl [c0] (tm % 40);have r2:=rl [c0] (1+tm / 7 % 40);have lc:[c0].length=1:=rfl;rw [lc,Nat.mul_one] at r1 r2;have w4:(-1000000:Int)<=tm % 40/\tm % 40<=1000000/\(tm % 40).toNat*[c0].length<=1000000:=⟨by omega,by omega,by rw [lc];omega⟩
   have w5:(-1000000:Int)<=1+tm / 7 % 40/\1+tm / 7 % 40<=1000000/\(1+tm / 7 % 40).toNat*[c0].length<=1000000:=⟨by omega,by omega,by rw [lc];omega⟩
   walk_at "r";refine⟨_,at0,?_⟩;walk_at "r";refine⟨_,at0,?_⟩;walk_at "r";exact⟨u++gI [c0] (tm % 40),gI [c0] (1+tm / 7 % 40)++more,by rw [length_append];omega,by rw [length_append,r1];omega,huL.app (c0L.rep _),by rw [length_append,r2];omega,(c0L.rep _).app hmoL,rfl⟩
  .exact⟨u,o,hu0,by omega,huL,by omega,hoL2,rfl⟩
 rintro ρ ⟨u,o,hu0,hu1,huL,ho2,hoL2,rfl⟩;walk_at "r"
 refine⟨fun ρ=>∃(ys:List Int) (u o:List Nat),Dk ys/\y8.length<=ys.length+8/\ys.length<=y8.length/\0<u.length/\u.length<=400/\Lts u/\o.length<=1000/\Lts o/\ρ=[some (.own (ys.map .int)),some (.dat (.int mo)),some (.dat (.lst (ls.map fun c=>.str [c]))),some (.dat (.str u)),some (.dat (.int (n2 % 9))),some (.dat (.int (k:Int))),some (.dat (.str more)),some (.dat (.int tm)),some (.dat (.str o))],?_,?_⟩
 .have gn8:0<=1+tm % 8/\1+tm % 8<=(y8.length:Int):=⟨by omega,by omega⟩
  have g8:Dk y8/\y8.length<=100000:=⟨hd8,by omega⟩
  walk_at "r"
  refine cm (fun c1=>?_) (fun c1=>?_)
  .walk_at "r";rintro w y9 hw hwL _ hd9 hy9;walk_at "r";exact⟨y9,u,w,hd9,by omega,by omega,hu0,hu1,huL,by omega,hwL,rfl⟩
  .exact⟨y8,u,o,hd8,by omega,le_refl _,hu0,hu1,huL,ho2,hoL2,rfl⟩
 rintro ρ ⟨ys,u,o,hdy,hy9,hy10,hu0,hu1,huL,ho2,hoL2,rfl⟩;walk_at "r"
 refine⟨fun ρ=>∃(ys:List Int) (u o:List Nat),Dk ys/\y8.length<=ys.length+8/\ys.length<=y8.length/\0<u.length/\u.length<=400/\Lts u/\0<o.length/\o.length<=1000/\Lts o/\ρ=[some (.own (ys.map .int)),some (.dat (.int mo)),some (.dat (.lst (ls.map fun c=>.str [c]))),some (.dat (.str u)),some (.dat (.int (n2 % 9))),some (.dat (.int (k:Int))),some (.dat (.str more)),some (.dat (.int tm)),some (.dat (.str o))],?_,?_⟩
 .walk_at "r"
  refine cm (fun c1=>?_) (fun c1=>?_)
  .walk_at "r";refine⟨_,at0,?_⟩;walk_at "r";exact⟨ys,u,[c0],hdy,hy9,hy10,hu0,hu1,huL,by show 0<1;decide,by show 1<=1000;decide,c0L,rfl⟩
  .exact⟨ys,u,o,hdy,hy9,hy10,hu0,hu1,huL,length_pos_iff.mpr c1,ho2,hoL2,rfl⟩
 rintro ρ ⟨ys,u,o,hdy,hy9,hy10,hu0,hu1,huL,ho0,ho2,hoL2,rfl⟩;walk_at "r";rw [gK u (show 0<=mo by omega),gK o (show 0<=mo by omega)]
 refine q (u.take mo.toNat) (o.take mo.toNat) ls ys ?_ ?_ (huL.take _) ?_ ?_ (hoL2.take _) hl2 hl26 hlL hdy (by omega) (by omega)
 .rw [length_take];omega
 .rw [length_take];omega
 .rw [length_take];omega
 .rw [length_take];omega
theorem jn:∀p ds Q,p.isOwn=true->bh p ds Q->nu cX fL p ds Q:=fun p ds Q _ h=>by
 unfold bh at h
 split at h
 .exact iK _ _ _ h
 .exact h.elim
def cY:PTS:=(aJ (ja (sr (ag (pFz (bH 2)) aH)) (au 3) (hU (pB (pOp sA (pFz (pOp fIx (pSl 0) (pFz (pOp a8 (pFz (pOp tW (pFz (pCB i9 (ag (pSl 0) aH))) (pSl 2))) (pSl 3))))) (pFz (pOp fIx (pSl 1) (pSl 3))))) (ce (pC (.bl false))) b8)) (ce (pC (.bl true))))
theorem iL(a b:List Nat)(k:Int)(Q:PV->Prop)(h:a7 ([.str a,.str b,.int k]) Q):fX cY fM ([.str a,.str b,.int k]) Q:=by
 show cY _ [some (.dat (.str a)),some (.dat (.str b)),some (.dat (.int k)),none];obtain⟨n,rfl,⟨⟨ha,ha1⟩,hb,hb1⟩,q⟩:=h;walk_at "r";rw [toNat_natCast]
 refine⟨fun i ρ=>(∃v3:Option PV,ρ=[some (.dat (.str a)),some (.dat (.str b)),some (.dat (.int (n:Int))),v3])/\∀j,j<i->a.getD (a.length - n+j) 0=b.getD j 0,⟨⟨_,rfl⟩,fun j hj=>absurd hj (not_lt_zero _)⟩,?_,?_⟩
 .rintro i ρ _ hi rfl ⟨⟨v3,rfl⟩,ih⟩;have h1:a.length - n+i<a.length:=by omega
  have h2:i<b.length:=by omega
  walk_at "r";refine⟨_,fw (j:=a.length - n+i) (getElem?_eq_getElem h1) (by omega),?_⟩;walk_at "r";refine⟨_,fw (j:=i) (getElem?_eq_getElem h2) rfl,?_⟩;walk_at "r";have g1:a.getD (a.length - n+i) 0=a[a.length - n+i]:=by rw [getD_eq_getElem?_getD,getElem?_eq_getElem h1];rfl
  have g2:b.getD i 0=b[i]:=by rw [getD_eq_getElem?_getD,getElem?_eq_getElem h2];rfl
  refine oG (fun c=>?_) (fun c=>?_)
  .walk_at "r";rw [decide_eq_false (fun z=>c (by rw [<- g1,<- g2,(lR ha hb).mp z i hi]))] at q;exact q
  .refine⟨⟨_,rfl⟩,fun j hj=>?_⟩
   by_cases e:j<i
   .exact ih j e
   .rw [show j=i by omega,g1,g2];exact singleton_inj.mp c
 .rintro ρ ⟨⟨v3,rfl⟩,ih⟩;walk_at "r";rw [decide_eq_true ((lR ha hb).mpr ih)] at q;exact q
theorem jo:∀ds Q,a7 ds Q->fX cY fM ds Q:=fun ds Q h=>by
 unfold a7 at h
 split at h
 .exact iL _ _ _ _ h
 .exact h.elim
def cz:PTS:=(ce (lh (sm .int (pSl 0)) (oI (sm .bool (pSl 0)))))
theorem g9(z:Int)(Q:PV->Prop)(h:aW ([.int z]) Q):fX cz eR ([.int z]) Q:=by
 show cz _ [some (.dat (.int z))];walk_at "r";exact h
theorem iM:∀ds Q,aW ds Q->fX cz eR ds Q:=fun ds Q h=>by
 unfold aW at h
 split at h
 .exact g9 _ _ h
 .exact h.elim
def cA:PTS:=(aJ (aR (i5 (ag (pFz (hV xcs "TooMany" (pSl 0))) (ag (pFz (hV xcs "NoPiece" (pSl 0))) aH))) (au 1)) (aJ (aR (pOp a8 (pSl 1) (pFz (i5 (ag (pFz (hV xcs "NoLap" (pSl 0))) (ag (pFz (hV xcs "NoOrder" (pSl 0))) aH))))) (au 1)) (aJ (aR (pOp a8 (pSl 1) (pFz (i5 (ag (pFz (hV xcs "NotHeld" (pSl 0))) (ag (pFz (hV xcs "NoTable" (pSl 0))) aH))))) (au 1)) (aJ (aR (pOp a8 (pSl 1) (pFz (i5 (ag (pFz (hV xcs "NoRing" (pSl 0))) (ag (pFz (hV xcs "TooGreat" (pSl 0))) aH))))) (au 1)) (aJ (aR (pOp a8 (pSl 1) (pFz (i5 (ag (pFz (hV xcs "NoWords" (pSl 0))) (ag (pFz (hV xcs "NotApart" (pSl 0))) aH))))) (au 1)) (aJ (aR (pOp a8 (pSl 1) (pFz (i5 (ag (pFz (hV xcs "NoCounts" (pSl 0))) (ag (pFz (hV xcs "NotCovered" (pSl 0))) aH))))) (au 1)) (aJ (aR (pOp a8 (pSl 1) (pFz (i5 (ag (pFz (hV xcs "NoLine" (pSl 0))) (ag (pFz (hV xcs "NoPaper" (pSl 0))) aH))))) (au 1)) (aJ (aR (pOp a8 (pSl 1) (pFz (i5 (ag (pFz (hV xcs "NotTold" (pSl 0))) aH)))) (au 1)) (ce (sd (pSl 1) (pC (.bl true))))))))))))
theorem hG(c:Str)(ns:List Str)(ds:List D)(Q:PV->Prop)(h:aX ([.exc c ns ds]) Q):fX cA eS ([.exc c ns ds]) Q:=by
 show cA _ [some (.dat (.exc c ns ds)),none];obtain⟨hc,q⟩:=h;have h1:=lS c (contains_iff_mem.mp hc);walk_at "r";refine⟨nK c,rfl,?_⟩;rw [h1];exact q
theorem iN:∀ds Q,aX ds Q->fX cA eS ds Q:=fun ds Q h=>by
 unfold aX at h
 split at h
 .exact hG _ _ _ _ h
 .exact h.elim
def bZ:PTS:=(aJ (hU (pOr (m9 (pB (hV xcs "GlueError" (pSl 0)))) (m9 (pB (uK xcs (pSl 0))))) (ce (pC (.bl false))) b8) (ce (lh (bH 1) (pOp jN (pFz (c6 aX (ag (pFz (bH 0)) aH))) (pFz (pC (.int 1)))))))
theorem fP(c:Str)(ns:List Str)(ds:List D)(b:Bool)(Q:PV->Prop)(h:aO ([.exc c ns ds,.bl b]) Q):fX bZ dF ([.exc c ns ds,.bl b]) Q:=by
 show bZ _ [some (.dat (.exc c ns ds)),some (.dat (.bl b))];obtain⟨hc,q⟩:=h;have i1:ko c "GlueError"=true:=by unfold ko;rw [decide_eq_true (show ("GlueError":Str)="GlueError" from rfl),Bool.or_true]
 walk_at "r"
 cases b with
 | true=>walk_at "r";exact q
 | false=>walk_at "r";exact q
theorem f9:∀ds Q,aO ds Q->fX bZ dF ds Q:=fun ds Q h=>by
 unfold aO at h
 split at h
 .exact fP _ _ _ _ _ h
 .exact h.elim
def bO:PTS:=(aJ (hU (m9 (pB (c6 aO (ag (pFz (bH 0)) (ag (pFz (hV xcs "NoLap" (pSl 0))) aH))))) (ce (pC (.bl false))) b8) (ce (lh (c6 aW (ag (pFz (pO xcs sB "k" (pSl 0))) aH)) (pOp jN (pFz (pO xcs sB "k" (pSl 0))) (pSl 1)))))
theorem fb(c:Str)(ns:List Str)(ds:List D)(k:Int)(Q:PV->Prop)(h:aE ([.exc c ns ds,.int k]) Q):fX bO di ([.exc c ns ds,.int k]) Q:=by
 show bO _ [some (.dat (.exc c ns ds)),some (.dat (.int k))];obtain⟨rfl,rfl,rfl,q⟩:=h;have i1:ko "NoLap" "NoLap"=true:=by decide +kernel
 walk_at "r";rw [decide_eq_true rfl];exact q
theorem fQ:∀ds Q,aE ds Q->fX bO di ds Q:=fun ds Q h=>by
 unfold aE at h
 split at h
 .exact fb _ _ _ _ _ h
 .exact h.elim
def b2:PTS:=(aJ (nI (pB (bH 3)) (pT a4 (ag (pFz (bH 0)) (ag (pFz (bH 1)) (ag (pFz (bH 2)) aH))) (t9 xcs "NoLap" 4 (ce (c6 aE (ag (pFz (bH 4)) (ag (pFz (bH 2)) aH)))) pS)) a4 (ag (pFz (bH 0)) (ag (pFz (bH 1)) (ag (pFz (bH 2)) aH))) (t9 xcs "GlueError" 4 (ce (lh (oI (bH 3)) (c6 aE (ag (pFz (bH 4)) (ag (pFz (bH 2)) aH))))) pS)) (ce (pC (.bl false))))
theorem fR(a b:List Nat)(k:Int)(p:Bool)(Q:PV->Prop)(h:aP ([.str a,.str b,.int k,.bl p]) Q):fX b2 dG ([.str a,.str b,.int k,.bl p]) Q:=by
 show b2 _ [some (.dat (.str a)),some (.dat (.str b)),some (.dat (.int k)),some (.dat (.bl p)),none];obtain⟨hl,hn,q⟩:=h;have i1:ko "NoLap" "NoLap"=true:=by decide +kernel
 have i2:ko "NoLap" "GlueError"=true:=by decide +kernel
 walk_at "r"
 cases p with
 | true =>
  walk_at "r";refine⟨fun z=>absurd z hn,fun _=>?_⟩;walk_at "r";exact q
 | false =>
  walk_at "r";refine⟨fun z=>absurd z hn,fun _=>?_⟩;walk_at "r";exact q
theorem gb:∀ds Q,aP ds Q->fX b2 dG ds Q:=fun ds Q h=>by
 unfold aP at h
 split at h
 .exact fR _ _ _ _ _ h
 .exact h.elim
def du:PTS:=(aJ (aR (pC (.str [])) (au 3)) (aJ (ja (mD (bH 0)) (au 4) (aR (pOp a8 (pSl 3) (pSl 4)) (au 3))) (aJ (ja (uF (ag (pFz (bH 2)) (ag (pFz (pCB i9 (ag (pSl 1) aH))) aH))) (au 5) (aR (pOp a8 (pSl 3) (pFz (pOp fIx (pSl 1) (pSl 5)))) (au 3))) (ce (bH 3)))))
theorem jp(a b:List Nat)(k:Int)(Q:PV->Prop)(h:bj ([.str a,.str b,.int k]) Q):fX du gy ([.str a,.str b,.int k]) Q:=by
 show du _ [some (.dat (.str a)),some (.dat (.str b)),some (.dat (.int k)),none,none,none];obtain⟨n,rfl,⟨ha,hb,hn⟩,q⟩:=h;walk_at "r"
 refine⟨fun i ρ=>∃v4 v5:Option PV,ρ=[some (.dat (.str a)),some (.dat (.str b)),some (.dat (.int (n:Int))),some (.dat (.str (a.take i))),v4,v5],⟨_,_,rfl⟩,?_,?_⟩
 .rintro i ρ d hi ed ⟨v4,v5,rfl⟩;subst ed;have hi:i<a.length:=hi;have htl:(a.take i).length<=1000:=by rw [length_take];omega
  walk_at "r";have e:a.take i++[a.getD i 0]=a.take (i+1):=by rw [take_add_one,getElem?_eq_getElem hi,getD_eq_getElem?_getD,getElem?_eq_getElem hi];rfl
  exact⟨_,_,by rw [e]⟩
 .rintro ρ ⟨v4,v5,rfl⟩;have ht:a.take a.length=a:=take_length;walk_at "r";rw [ht];have hbn:((b.length:Int) - (n:Int)).toNat=b.length - n:=by omega
  rw [hbn]
  refine⟨fun i ρ=>∃v4 v5:Option PV,ρ=[some (.dat (.str a)),some (.dat (.str b)),some (.dat (.int (n:Int))),some (.dat (.str (a++(b.drop n).take i))),v4,v5],⟨_,_,by rw [take_zero,append_nil]⟩,?_,?_⟩
  .rintro i ρ _ hi rfl ⟨v4,v5,rfl⟩;have hi2:n+i<b.length:=by omega
   have htl2:((b.drop n).take i).length<=1000:=by rw [length_take,length_drop];omega
   have htl:(a++(b.drop n).take i).length<=3000:=by rw [length_append,length_take,length_drop];omega
   have e:a++(b.drop n).take i++[b[n+i]]=a++(b.drop n).take (i+1):=by rw [take_add_one,getElem?_drop,getElem?_eq_getElem hi2,append_assoc];rfl
   walk_at "r";refine⟨_,fw (j:=n+i) (getElem?_eq_getElem hi2) (by omega),?_⟩;walk_at "r";rw [e];exact⟨_,_,rfl⟩
  .rintro ρ ⟨v4,v5,rfl⟩;rw [take_of_length_le (show (b.drop n).length<=b.length - n by rw [length_drop];exact le_refl _)];walk_at "r";exact q
theorem km:∀ds Q,bj ds Q->fX du gy ds Q:=fun ds Q h=>by
 unfold bj at h
 split at h
 .exact jp _ _ _ _ h
 .exact h.elim
def jY:PTS:=(aJ (aR (c6 a6 (ag (pFz (bH 0)) (ag (pFz (pC (.int 70))) aH))) (au 1)) (aJ (aR (bQ bh 1 (ag (pFz (pC (.int 60))) aH)) (pq 3 (iu (au 2) (iu (au 3) (iu (au 4) oR))))) (aJ (aR (pOp fIx (pFz (i5 (ag (pFz (pC (.int 1000))) (ag (pFz (pOp sw (pFz (pC (.int 10))) (pFz (pC (.int 6))))) (ag (pFz (pOp sw (pFz (pC (.int 10))) (pFz (pC (.int 18))))) (ag (pFz (pOp sw (pFz (pC (.int 10))) (pFz (pC (.int 30))))) aH)))))) (pFz (pOp eY (pFz (bQ ay 1 aH)) (pFz (pC (.int 4)))))) (au 5)) (aJ (aR (bQ ay 1 aH) (au 6)) (aJ (aR (pCB mF (ag (pFz (pCB i9 (ag (pSl 2) aH))) (ag (pFz (pCB i9 (ag (pSl 3) aH))) aH))) (au 7)) (aJ (ja (mD (pOp a8 (pFz (nq false (ag (pFz (pUn sx (pFz (pC (.int 2))))) (ag (pFz (pOp a8 (pSl 7) (pFz (pC (.int 3))))) aH)))) (pFz (i5 (ag (pFz (bH 5)) (ag (pFz (pUn sx (pSl 5))) aH)))))) (au 8) (hU (rm (pB (pOp fLe (pFz (pC (.int 0))) (pSl 8))) (rm (pB (pOp fLt (pSl 8) (pSl 7))) (pB (c6 a7 (ag (pFz (bH 2)) (ag (pFz (bH 3)) (ag (pFz (bH 8)) aH))))))) (aJ (aR (lJ a4 (ag (pFz (bH 2)) (ag (pFz (bH 3)) (ag (pFz (bH 8)) aH)))) (au 9)) (hU (pOr (m9 (pB (sm .str (pSl 9)))) (pB (pOp sA (pSl 9) (pFz (c6 bj (ag (pFz (bH 2)) (ag (pFz (bH 3)) (ag (pFz (bH 8)) aH)))))))) (ce (pC (.bl false))) b8)) (hU (m9 (pB (c6 aP (ag (pFz (bH 2)) (ag (pFz (bH 3)) (ag (pFz (bH 8)) (ag (pFz (pOp jN (pFz (pOp eY (pFz (pOp a8 (pSl 8) (pSl 6))) (pFz (pC (.int 2))))) (pFz (pC (.int 0))))) aH))))))) (ce (pC (.bl false))) b8))) (ce (pOp jN (pFz (lJ a4 (ag (pFz (bH 2)) (ag (pFz (bH 3)) (ag (pFz (pC (.int 0))) aH))))) (pFz (pOp a8 (pSl 2) (pSl 3)))))))))))
theorem p3(ns:List Int)(h63:ns.length<=63)(Q:PV->Prop)(q:Q (.dat (.bl true))):fX jY nL [.scr ns] Q:=by
 show jY _ [some (.dat (.scr ns)),none,none,none,none,none,none,none,none,none];walk_at "r";rintro zs hz hl;have hl:zs.length=70:=hl;walk_at "r";rintro a b ls ys a0 a1 aL b0 b1 bL l2 l26 lL hy hy1 hy2;have g1:Dk ys/\0<ys.length/\ys.length<=100000:=⟨hy,by omega,by omega⟩
 walk_at "r";rintro z y1 hz0 hz1 hd1 hl1;have g2:Dk y1/\0<y1.length/\y1.length<=100000:=⟨hd1,by omega,by omega⟩
 obtain⟨far,hfar⟩:∃far:Int,atI [D.int 1000,D.int (10^Int.toNat 6),D.int (10^Int.toNat 18),D.int (10^Int.toNat 30)] (z % 4)=some (.int far):=by
  have h0:=emod_nonneg z (show (4:Int)≠0 by decide);have h1:=emod_lt_of_pos z (show (0:Int)<4 by decide);rcases (show z % 4=0\/z % 4=1\/z % 4=2\/z % 4=3 by omega) with h|h|h|h <;> rw [h] <;> exact⟨_,rfl⟩
 walk_at "r";refine⟨_,hfar,?_⟩;walk_at "r";rintro f y2 hf0 hf1 hd2 hl2;have hm:(if (b.length:Int)<(a.length:Int) then (b.length:Int) else (a.length:Int))=((min a.length b.length:Nat):Int):=by split <;> omega
 have al:a.length<=60:=by omega
 have bl:b.length<=60:=by omega
 have hab:a.length<=1000/\b.length<=1000:=⟨by omega,by omega⟩
 walk_at "r"
 obtain⟨ks,hks,hkl⟩:∃ks:List Int,sv (-2) ((if (b.length:Int)<(a.length:Int) then (b.length:Int) else (a.length:Int))+3 - -2).toNat++[D.int far,D.int (-far)]=ks.map D.int/\ks.length<=1000:=by
  refine⟨(List.range ((if (b.length:Int)<(a.length:Int) then (b.length:Int) else (a.length:Int))+3 - -2).toNat).map (fun k:Nat=>-2+(k:Int))++[far,-far],by rw [map_append,map_map];rfl,?_⟩;rw [length_append,length_map,length_range,hm];show _+2<=_;omega
 have hll:(sv (-2) ((if (b.length:Int)<(a.length:Int) then (b.length:Int) else (a.length:Int))+3 - -2).toNat).length+[D.int far,D.int (-far)].length<=1000000:=by
  have:=congrArg List.length hks;rw [length_append,length_map] at this;omega
 refine⟨hll,?_⟩;rw [hks,hm]
 refine u9 (fun _ ρ=>∃v8 v9:Option PV,ρ=[some (.dat (.scr ns)),some (.own (y2.map .int)),some (.dat (.str a)),some (.dat (.str b)),some (.dat (.lst (ls.map fun c=>.str [c]))),some (.dat (.int far)),some (.dat (.int f)),some (.dat (.int ((min a.length b.length:Nat):Int))),v8,v9]) ⟨_,_,rfl⟩ ?_ ?_
 .rintro pre k suf ρ _ ⟨v8,v9,rfl⟩;walk_at "r"
  refine cm (fun c1=>?_) (fun c1=>?_)
  .walk_at "r"
   refine cm (fun c2=>?_) (fun c2=>?_)
   .obtain⟨n,rfl⟩:∃n:Nat,k=(n:Int):=⟨k.toNat,by omega⟩
    have gf:(n<=a.length/\a.length<=10000)/\n<=b.length/\b.length<=10000:=⟨⟨by omega,by omega⟩,by omega,by omega⟩
    have gd:a.length<=1000/\b.length<=1000/\n<=b.length:=⟨by omega,by omega,by omega⟩
    walk_at "r"
    refine cm (fun c3=>?_) (fun c3=>?_)
    .have gk:lY a b (n:Int):=⟨by omega,by omega,by rw [toNat_natCast];exact c3⟩
     walk_at "r";refine⟨fun _=>?_,fun z=>absurd gk z⟩;rw [toNat_natCast];walk_at "r";exact⟨_,_,rfl⟩
    .have gk:¬ lY a b (n:Int):=fun z=>c3 (by have:=z.2.2;rwa [toNat_natCast] at this);walk_at "r";exact⟨_,_,rfl⟩
   .have gk:¬ lY a b k:=fun z=>c2 z.2.1;walk_at "r";exact⟨_,_,rfl⟩
  .have gk:¬ lY a b k:=fun z=>c1 z.1;walk_at "r";exact⟨_,_,rfl⟩
 .rintro ρ ⟨v8,v9,rfl⟩;have gk:lY a b 0:=⟨by omega,by omega,by show b.take 0 <:+ a;rw [take_zero];exact nil_suffix⟩
  walk_at "r";refine⟨fun _=>?_,fun z=>absurd gk z⟩;walk_at "r";rw [show Int.toNat 0=0 from rfl,drop_zero,decide_eq_true rfl];exact q
theorem sf:∀ds Q,jX ds Q->fX jY nL ds Q:=fun ds Q h=>by
 obtain⟨ns,rfl,h63,q⟩:=h;exact p3 ns h63 Q q
section
variable {P:Program}{w:World}{K:PySem.W.Frag}{mg:Str->Option Value}{base:Heap}
theorem jZ:∀ds Q E,a4 ds Q E->ds.length=3:=fun ds Q E h=>by unfold a4 at h;split at h;(first|rfl|exact h.elim);(first|rfl|exact h.elim)
theorem mU(D:b3 K mg "glued" jj)(T:Txt mg)(TX:TxX K mg)(C_NoLap_init:kl P w K mg base 1 (ax K "NoLap") "NoLap" "k"):rV P w K mg base 3 "glued" ["one","other","k"] (spX K a4):=by
 refine D.okE mR (fun _ _ _ _ _ _ us hl=>match us,hl with|[_,_,_],_=>rfl) (fun vs H Q E h=>?_) (fun f cdv A outer s H vs Q E hr h=>?_)
 .exact u4 jZ h
 .have hu:=hr.units;exact⟨_,(af (c9 (PT.nox (PW.pt (l7 (fi (ma uC ro am (pv 2) (ap (nk rfl) rfl T.b_min boot_min (paC (ap (eE K rfl) rfl T.b_len PySem.boot_len (paC (pv 0) ah)) (paC (ap (eE K rfl) rfl T.b_len PySem.boot_len (paC (pv 1) ah)) ah))))) (jv (fi (dg (jE K rfl PySem.F.plainAttrs_str PySem.F.slot_str_endswith PySem.F.type_str_endswith o5 (pv 0) (paC (bI (ll K rfl) (pv 1) cI (bR (pv 2))) ah)))))))) (aq (mO K rfl rfl rT (pI C_NoLap_init (hr.mono (by decide)) (paC (pv 2) ah)))) bp) (aq (PS.nox (bq (aA (aM K rfl) (pv 0) (bI (ll K rfl) (pv 1) (bR (pv 2)) cI)))))),u8 (K:=K) (c:=a4) (ps:=ff) (N:=["one","other","k"]) (fun _=>(rW (t6 (mz (fz (gO (mB rp lj (ac le_int) (ai (i:=2)) (ac (dw lu (aa (ac (dw cH (aa (ai (i:=0)) aj))) (aa (ac (dw cH (aa (ai (i:=1)) aj))) aj))))))) (fz (my (tR o8 (az (i:=0)) (aa (ac (bJ (ai (i:=1)) cb (bz (az (i:=2))))) aj))))) (lI TX.all (contains_iff_mem.mp (by decide +kernel)) (aa (ac (az (i:=2))) aj)) (LS.x bE)) (LS.x (br (ak aC (ai (i:=0)) (ac (bJ (ai (i:=1)) (bz (az (i:=2))) cb))))))) (fun ds Q E h=>le_trans (le_of_eq (jZ ds Q E h)) (by decide)) mT h⟩
theorem eT:∀ds Q,aV ds Q->ds.length=2:=fun ds Q h=>by unfold aV at h;split at h;(first|rfl|exact h.elim);(first|rfl|exact h.elim)
theorem iO(D:b3 K mg "_law_mixed" dP)(T:Txt mg)(TX:TxX K mg):Cal P w K mg base 1 "_law_mixed" ["_law_cell","_law_k"] (spP K aV):=by
 refine D.ok bu (fun _ _ _ _ _ _ us hl=>match us,hl with|[_,_],_=>rfl) (fun vs H Q E h=>?_) (fun f cdv A outer s H vs Q E hr h=>?_)
 .exact lw eT h
 .have hu:=hr.units;exact⟨_,(af (aD (i:=2) bu.nd rfl (by walk_at "o") (aA (aM K rfl) (aA b6 (pv 0) am) (aA eB (aA eB (pv 1) (pv 1)) am))) (af (aD (i:=2) bu.nd rfl (by walk_at "o") (aA b6 (aA (aM K rfl) (aA (aM K rfl) (pv 2) (aA eB (pv 1) am)) am) am)) (af (aD (i:=2) bu.nd rfl (by walk_at "o") (aA b6 (aA eB (pv 2) (pv 2)) am)) (af (aD (i:=2) bu.nd rfl (by walk_at "o") (aA eB (aA (aM K rfl) (aA (aM K rfl) (pv 2) (aA eB (pv 1) am)) am) am)) (af (aD (i:=2) bu.nd rfl (by walk_at "o") (aA b6 (pv 2) am)) (af (aD (i:=2) bu.nd rfl (by walk_at "o") (aA b6 (aA eB (pv 2) (pv 2)) am)) (aq (bq (aA lv (pv 2) am))))))))),fnP (K:=K) (c:=aV) (ps:=cv) (N:=["_law_cell","_law_k","_law_number"]) (aw (aB (ak aC (ac (ak bi (ai (i:=0)) (ac le_int))) (ac (ak cG (ac (ak cG (ai (i:=1)) (ai (i:=1)))) (ac le_int)))) (ar (i:=2) rfl)) (aw (aB (ak bi (ac (ak aC (ac (ak aC (ai (i:=2)) (ac (ak cG (ai (i:=1)) (ac le_int))))) (ac le_int))) (ac le_int)) (ar (i:=2) rfl)) (aw (aB (ak bi (ac (ak cG (ai (i:=2)) (ai (i:=2)))) (ac le_int)) (ar (i:=2) rfl)) (aw (aB (ak cG (ac (ak aC (ac (ak aC (ai (i:=2)) (ac (ak cG (ai (i:=1)) (ac le_int))))) (ac le_int))) (ac le_int)) (ar (i:=2) rfl)) (aw (aB (ak bi (ai (i:=2)) (ac le_int)) (ar (i:=2) rfl)) (aw (aB (ak bi (ac (ak cG (ai (i:=2)) (ai (i:=2)))) (ac le_int)) (ar (i:=2) rfl)) (br (ak i7 (ai (i:=2)) (ac le_int))))))))) (fun ds Q h=>le_trans (le_of_eq (eT ds Q h)) (by decide)) iG h⟩
theorem fS:∀ds Q,a6 ds Q->ds.length=2:=fun ds Q h=>by unfold a6 at h;split at h;(first|rfl|exact h.elim);(first|rfl|exact h.elim)
theorem jq(D:b3 K mg "_law_deck" eG)(T:Txt mg)(TX:TxX K mg)(C_law_mixed:Cal P w K mg base 1 "_law_mixed" ["_law_cell","_law_k"] (spP K aV)):Cal P w K mg base 2 "_law_deck" ["_law_script","_law_many"] (spP K a6):=by
 refine D.ok bg (fun _ _ _ _ _ _ us hl=>match us,hl with|[_,_],_=>rfl) (fun vs H Q E h=>?_) (fun f cdv A outer s H vs Q E hr h=>?_)
 .exact lw fS h
 .have hu:=hr.units;exact⟨_,(af (aD (i:=2) bg.nd rfl (by walk_at "o") (aA (aM K rfl) (gu (rG K rfl) rfl T.b_list boot_list (paC (pv 0) ah)) (cp (paC (ap (eE K rfl) rfl T.b_len PySem.boot_len (paC (pv 0) ah)) ah)))) (af (aD (i:=3) bg.nd rfl (by walk_at "o") (cp ah)) (af (aD (i:=4) bg.nd rfl (by walk_at "o") am) (af (jz PassesOwn.never (bn ro (ap (eE K rfl) rfl T.b_len PySem.boot_len (paC (pv 3) ah)) (pv 1) (bA _)) (af (gm PassesOwn.never rfl (lq K rfl (pv 2)) (cB (i:=5) bg.nd rfl (by walk_at "o")) (af (aD (i:=6) bg.nd rfl (by walk_at "o") (pv 5)) (af (cK (c9 (PW.pt (l7 (bn tY (pv 4) am (bA _)) (jv (bn ro (pv 5) (aA mH am am) (bA _))))) (af (gC (jE K rfl PySem.F.plainAttrs_list PySem.F.slot_list_append PySem.F.type_list_append fm (pv 3) (paC (aA b6 (aZ C_law_mixed (hr.mono (by decide)) (paC (pv 5) (paC (aA (aM K rfl) (ap (eE K rfl) rfl T.b_len PySem.boot_len (paC (pv 3) ah)) am) ah))) am) ah))) (aq (aD (i:=6) bg.nd rfl (by walk_at "o") am))) bp)) (aq (jz PassesOwn.never (PW.pt (jw (bn tY (pv 6) am (bA _)) (iT (bn ro (ap (eE K rfl) rfl T.b_len PySem.boot_len (paC (pv 3) ah)) (pv 1) (bA _))))) (af (gC (jE K rfl PySem.F.plainAttrs_list PySem.F.slot_list_append PySem.F.type_list_append fm (pv 3) (paC (aA b6 (pv 6) am) ah))) (aq (aD (i:=6) bg.nd rfl (by walk_at "o") (aA lv (pv 6) am))))))))) (aq (aD (i:=4) bg.nd rfl (by walk_at "o") (aA (aM K rfl) (pv 4) am))))) (aq (bq (jd K rfl rfl (bI (ll K rfl) (pv 3) cI (bR (pv 1))) rfl T.b_list rfl T.b_reversed))))))),fnP (K:=K) (c:=a6) (ps:=cV) (N:=["_law_script","_law_many","_law_cells","_law_found","_law_turn","_law_cell","_law_rest"]) (aw (aB (ak aC (ac (dw o0 (aa (ai (i:=0)) aj))) (ac (cq (aa (ac (dw cH (aa (ai (i:=0)) aj))) aj)))) (ar (i:=2) rfl)) (aw (aB (cq aj) (ar (i:=3) rfl)) (aw (aB le_int (ar (i:=4) rfl)) (aw (jK (gO (ak lj (ac (dw cH (aa (ai (i:=3)) aj))) (ai (i:=1)))) (aw (gp (lr (az (i:=2))) (bV (i:=5) rfl) (aw (aB (az (i:=5)) (ar (i:=6) rfl)) (aw (cO (dN (mz (gO (ak oM (ai (i:=4)) (ac le_int))) (gO (ak lj (ai (i:=5)) (ac (ak jH (ac le_int) (ac le_int)))))) (aw (lp (nj (i:=3) (ak bi (ac (bM (c:=aV) (aa (ac (az (i:=5))) (aa (ac (ak aC (ac (dw cH (aa (ai (i:=3)) aj))) (ac le_int))) aj)))) (ac le_int)))) (aB le_int (ar (i:=6) rfl))) bE)) (jK (jF (gO (ak oM (ai (i:=6)) (ac le_int))) (gO (ak lj (ac (dw cH (aa (ai (i:=3)) aj))) (ai (i:=1))))) (aw (lp (nj (i:=3) (ak bi (ai (i:=6)) (ac le_int)))) (aB (ak i7 (ai (i:=6)) (ac le_int)) (ar (i:=6) rfl))))))) (aB (ak aC (ai (i:=4)) (ac le_int)) (ar (i:=4) rfl)))) (br (kj (ac (bJ (ai (i:=3)) cb (bz (az (i:=1))))))))))) (fun ds Q h=>le_trans (le_of_eq (fS ds Q h)) (by decide)) jl h⟩
theorem fT:∀p ds Q,ay p ds Q->ds.length+1=1:=fun p ds Q h=>by unfold ay at h;split at h;(first|rfl|exact h.elim);(first|rfl|exact h.elim)
theorem jr(D:b3 K mg "_law_next" eH)(T:Txt mg)(TX:TxX K mg):Cal P w K mg base 1 "_law_next" ["_law_deck_here"] (spR K ay):=by
 refine D.ok jk (fun _ _ _ _ _ _ us hl=>match us,hl with|[_],_=>rfl) (fun vs H Q E h=>?_) (fun f cdv A outer s H vs Q E hr h=>?_)
 .exact sy fT h
 .have hu:=hr.units;exact⟨_,(aq (bq (qN PySem.F.plainAttrs_list PySem.F.slot_list_pop PySem.F.type_list_pop qO (pv 0)))),fnR (K:=K) (c:=ay) (ps:=cW) (N:=["_law_deck_here"]) (br (rE (i:=0))) (fun p ds Q h=>le_trans (le_of_eq (fT p ds Q h)) (by decide)) jm h⟩
theorem dH:∀p ds Q,aS p ds Q->ds.length+1=1:=fun p ds Q h=>by unfold aS at h;split at h;(first|rfl|exact h.elim);(first|rfl|exact h.elim)
theorem gc(D:b3 K mg "_law_letters" cR)(T:Txt mg)(TX:TxX K mg)(C_law_next:Cal P w K mg base 1 "_law_next" ["_law_deck_here"] (spR K ay)):Cal P w K mg base 2 "_law_letters" ["_law_deck_here"] (spR K aS):=by
 refine D.ok bW (fun _ _ _ _ _ _ us hl=>match us,hl with|[_],_=>rfl) (fun vs H Q E h=>?_) (fun f cdv A outer s H vs Q E hr h=>?_)
 .exact sy dH h
 .have hu:=hr.units;exact⟨_,(af (aD (i:=1) bW.nd rfl (by walk_at "o") (dY (jI K rfl) (cp (paC am (paC am (paC am (paC am ah))))) (aA b6 (aZ C_law_next (hr.mono (by decide)) (paC (pv 0) ah)) am) (fun _ _=>rfl))) (af (aD (i:=2) bW.nd rfl (by walk_at "o") (aA b6 (aZ C_law_next (hr.mono (by decide)) (paC (pv 0) ah)) am)) (af (aD (i:=3) bW.nd rfl (by walk_at "o") (dY (jI K rfl) (cp (paC am (paC am (paC am ah)))) (aA b6 (aZ C_law_next (hr.mono (by decide)) (paC (pv 0) ah)) am) (fun _ _=>rfl))) (aq (bq (oE (wi:=(nU (dX (j0 1) me))) (g:=(kt 0)) (tts:=sS) (te:=(tOp (tL K) (tC (V.str (S [97,98,99,100,101,102,103,104,105,106,107,108,109,110,111,112,113,114,115,116,117,118,119,120,121,122]))) (tOp rM (tOp (pV K) (j0 1) (tOp oK (j0 2) (j0 0))) (tC (V.int 26))))) ["_law_k","_law_first","_law_step"] [none,some 2,some 3] rfl (fj rfl T.b_range (paC (pv 1) ah)) (fun _ _ _ _=>⟨(cB (i:=0) (by show List.Nodup (["_law_k","_law_first","_law_step"]:List Str);decide +kernel) rfl (by walk_at "o")),oB,(dY (jI K rfl) (gJ (l:=[97,98,99,100,101,102,103,104,105,106,107,108,109,110,111,112,113,114,115,116,117,118,119,120,121,122]) (by decide +kernel)) (aA b6 (aA (aM K rfl) (pv 1) (aA eB (pv 2) (pv 0))) am) (fun _ _=>rfl))⟩) (by kernel_rfl))))))),fnR (K:=K) (c:=aS) (ps:=bX) (N:=["_law_deck_here","_law_many","_law_first","_law_step"]) (aw (aB (ak eg (ac (cq (aa (ac le_int) (aa (ac le_int) (aa (ac le_int) (aa (ac le_int) aj)))))) (ac (ak bi (ac (ba (i:=0) aj)) (ac le_int)))) (ar (i:=1) rfl)) (aw (aB (ak bi (ac (ba (i:=0) aj)) (ac le_int)) (ar (i:=2) rfl)) (aw (aB (ak eg (ac (cq (aa (ac le_int) (aa (ac le_int) (aa (ac le_int) aj))))) (ac (ak bi (ac (ba (i:=0) aj)) (ac le_int)))) (ar (i:=3) rfl)) (br (oX (ix:=[none,some 2,some 3]) rfl (oV (aa (ac (az (i:=1))) aj)) (fun fs hc=>(bV (i:=0) (uX hc (by decide)))) rD (ak eg (ac (le_str (l:=[97,98,99,100,101,102,103,104,105,106,107,108,109,110,111,112,113,114,115,116,117,118,119,120,121,122]))) (ac (ak bi (ac (ak aC (ai (i:=1)) (ac (ak cG (ai (i:=2)) (ai (i:=0)))))) (ac le_int))))))))) (fun p ds Q h=>le_trans (le_of_eq (dH p ds Q h)) (by decide)) f7 h⟩
theorem eU:∀p ds Q,aU p ds Q->ds.length+1=3:=fun p ds Q h=>by unfold aU at h;split at h;(first|rfl|exact h.elim);(first|rfl|exact h.elim)
theorem iP(D:b3 K mg "_law_signs" dQ)(T:Txt mg)(TX:TxX K mg)(C_law_next:Cal P w K mg base 1 "_law_next" ["_law_deck_here"] (spR K ay)):Cal P w K mg base 2 "_law_signs" ["_law_deck_here","_law_letters_here","_law_many"] (spR K aU):=by
 refine D.ok cu (fun _ _ _ _ _ _ us hl=>match us,hl with|[_,_,_],_=>rfl) (fun vs H Q E h=>?_) (fun f cdv A outer s H vs Q E hr h=>?_)
 .exact sy eU h
 .have hu:=hr.units;exact⟨_,(af (aD (i:=3) cu.nd rfl (by walk_at "o") (gJ (l:=[]) (by decide +kernel))) (af (gm PassesOwn.never rfl (fj rfl T.b_range (paC (pv 2) ah)) (cB (i:=4) cu.nd rfl (by walk_at "o")) (aq (aD (i:=3) cu.nd rfl (by walk_at "o") (aA (aM K rfl) (pv 3) (dY (jI K rfl) (pv 1) (aA b6 (aZ C_law_next (hr.mono (by decide)) (paC (pv 0) ah)) (ap (eE K rfl) rfl T.b_len PySem.boot_len (paC (pv 1) ah))) (fun _ _=>rfl)))))) (aq (bq (pv 3))))),fnR (K:=K) (c:=aU) (ps:=cw) (N:=["_law_deck_here","_law_letters_here","_law_many","_law_found","_law_k"]) (aw (aB (le_str (l:=[])) (ar (i:=3) rfl)) (aw (gp (oV (aa (ac (az (i:=2))) aj)) (bV (i:=4) rfl) (aB (ak aC (ai (i:=3)) (ac (ak eg (ai (i:=1)) (ac (ak bi (ac (ba (i:=0) aj)) (ac (dw cH (aa (ai (i:=1)) aj)))))))) (ar (i:=3) rfl))) (br (az (i:=3))))) (fun p ds Q h=>le_trans (le_of_eq (eU p ds Q h)) (by decide)) iJ h⟩
theorem dI:∀ds Q,aN ds Q->ds.length=3:=fun ds Q h=>by unfold aN at h;split at h;(first|rfl|exact h.elim);(first|rfl|exact h.elim)
theorem gg(D:b3 K mg "_law_spoiled" cS)(T:Txt mg)(TX:TxX K mg):Cal P w K mg base 1 "_law_spoiled" ["_law_text","_law_letters_here","_law_at"] (spP K aN):=by
 refine D.ok cE (fun _ _ _ _ _ _ us hl=>match us,hl with|[_,_,_],_=>rfl) (fun vs H Q E h=>?_) (fun f cdv A outer s H vs Q E hr h=>?_)
 .exact lw dI h
 .have hu:=hr.units;exact⟨_,(af (aD (i:=3) cE.nd rfl (by walk_at "o") (dY (jI K rfl) (pv 1) am (fun _ _=>rfl))) (af (cK (c9 (bn (eZ K rfl hu) (dY (jI K rfl) (pv 0) (pv 2) (fun _ _=>rfl)) (pv 3) (bA _)) (aq (aD (i:=3) cE.nd rfl (by walk_at "o") (dY (jI K rfl) (pv 1) am (fun _ _=>rfl)))) bp)) (aq (bq (aA (aM K rfl) (aA (aM K rfl) (bI (ll K rfl) (pv 0) cI (bR (pv 2))) (pv 3)) (bI (ll K rfl) (pv 0) (bR (aA (aM K rfl) (pv 2) am)) cI)))))),fnP (K:=K) (c:=aN) (ps:=bY) (N:=["_law_text","_law_letters_here","_law_at","_law_other"]) (aw (aB (ak eg (ai (i:=1)) (ac le_int)) (ar (i:=3) rfl)) (aw (cO (dN (gO (ak c7 (ac (ak eg (ai (i:=0)) (ai (i:=2)))) (ai (i:=3)))) (aB (ak eg (ai (i:=1)) (ac le_int)) (ar (i:=3) rfl)) bE)) (br (ak aC (ac (ak aC (ac (bJ (ai (i:=0)) cb (bz (az (i:=2))))) (ai (i:=3)))) (ac (bJ (ai (i:=0)) (bz (ak aC (ai (i:=2)) (ac le_int))) cb)))))) (fun ds Q h=>le_trans (le_of_eq (dI ds Q h)) (by decide)) f8 h⟩
theorem fU:∀p ds Q,bh p ds Q->ds.length+1=2:=fun p ds Q h=>by unfold bh at h;split at h;(first|rfl|exact h.elim);(first|rfl|exact h.elim)
theorem js(D:b3 K mg "_law_pair" eI)(T:Txt mg)(TX:TxX K mg)(C_law_letters:Cal P w K mg base 2 "_law_letters" ["_law_deck_here"] (spR K aS))(C_law_next:Cal P w K mg base 1 "_law_next" ["_law_deck_here"] (spR K ay))(C_law_signs:Cal P w K mg base 2 "_law_signs" ["_law_deck_here","_law_letters_here","_law_many"] (spR K aU))(C_law_spoiled:Cal P w K mg base 1 "_law_spoiled" ["_law_text","_law_letters_here","_law_at"] (spP K aN)):Cal P w K mg base 3 "_law_pair" ["_law_deck_here","_law_most"] (spR K bh):=by
 refine D.ok aG (fun _ _ _ _ _ _ us hl=>match us,hl with|[_,_],_=>rfl) (fun vs H Q E h=>?_) (fun f cdv A outer s H vs Q E hr h=>?_)
 .exact sy fU h
 .have hu:=hr.units;exact⟨_,(af (aD (i:=2) aG.nd rfl (by walk_at "o") (aZ C_law_letters (hr.mono (by decide)) (paC (pv 0) ah))) (af (aD (i:=3) aG.nd rfl (by walk_at "o") (aZ C_law_signs (hr.mono (by decide)) (paC (pv 0) (paC (pv 2) (paC (aA (aM K rfl) am (aA b6 (aZ C_law_next (hr.mono (by decide)) (paC (pv 0) ah)) am)) ah))))) (af (aD (i:=4) aG.nd rfl (by walk_at "o") (aA b6 (aZ C_law_next (hr.mono (by decide)) (paC (pv 0) ah)) am)) (af (aD (i:=5) aG.nd rfl (by walk_at "o") (aA b6 (aZ C_law_next (hr.mono (by decide)) (paC (pv 0) ah)) (aA (aM K rfl) (ap (eE K rfl) rfl T.b_len PySem.boot_len (paC (pv 3) ah)) am))) (af (aD (i:=6) aG.nd rfl (by walk_at "o") (aZ C_law_signs (hr.mono (by decide)) (paC (pv 0) (paC (pv 2) (paC (aA b6 (aZ C_law_next (hr.mono (by decide)) (paC (pv 0) ah)) am) ah))))) (af (aD (i:=7) aG.nd rfl (by walk_at "o") (aZ C_law_next (hr.mono (by decide)) (paC (pv 0) ah))) (af (aD (i:=8) aG.nd rfl (by walk_at "o") (aA (aM K rfl) (bI (ll K rfl) (pv 3) (bR (aA o9 (ap (eE K rfl) rfl T.b_len PySem.boot_len (paC (pv 3) ah)) (pv 5))) cI) (pv 6))) (af (cK (c9 (PW.pt (jw (bn (eZ K rfl hu) (pv 4) am (bA _)) (iT (bn tY (pv 5) am (bA _))))) (aq (aD (i:=8) aG.nd rfl (by walk_at "o") (aZ C_law_spoiled (hr.mono (by decide)) (paC (pv 8) (paC (pv 2) (paC (aA b6 (pv 7) (pv 5)) ah)))))) bp)) (af (cK (c9 (bn (eZ K rfl hu) (pv 4) am (bA _)) (aq (aD (i:=8) aG.nd rfl (by walk_at "o") (pv 3))) bp)) (af (cK (c9 (bn (eZ K rfl hu) (pv 4) am (bA _)) (af (aD (i:=8) aG.nd rfl (by walk_at "o") (bI (ll K rfl) (aA eB (pv 3) am) (bR (pv 5)) (bR (aA (aM K rfl) (aA (aM K rfl) (pv 5) am) (aA b6 (pv 7) am))))) (aq (aD (i:=3) aG.nd rfl (by walk_at "o") (aA eB (pv 3) (aA (aM K rfl) am (aA b6 (pv 7) am)))))) bp)) (af (cK (c9 (bn (eZ K rfl hu) (pv 4) am (bA _)) (af (aD (i:=3) aG.nd rfl (by walk_at "o") (bI (ll K rfl) (aA eB (pv 3) (pv 1)) cI (bR (aA o9 (pv 1) (aA b6 (pv 7) am))))) (aq (aD (i:=8) aG.nd rfl (by walk_at "o") (bI (ll K rfl) (aA (aM K rfl) (aA (aM K rfl) (pv 3) (pv 6)) (pv 3)) (bR (pv 5)) (bR (pv 1)))))) bp)) (af (cK (c9 (bn (eZ K rfl hu) (pv 4) am (bA _)) (af (aD (i:=3) aG.nd rfl (by walk_at "o") (aA (aM K rfl) (pv 3) (aA eB (dY (jI K rfl) (pv 2) am (fun _ _=>rfl)) (aA b6 (pv 7) am)))) (aq (aD (i:=8) aG.nd rfl (by walk_at "o") (aA (aM K rfl) (aA eB (dY (jI K rfl) (pv 2) am (fun _ _=>rfl)) (aA (aM K rfl) am (aA b6 (aA lv (pv 7) am) am))) (pv 6))))) bp)) (af (cK (c9 (bn (eZ K rfl hu) (pv 4) am (bA _)) (aq (aD (i:=8) aG.nd rfl (by walk_at "o") (aZ C_law_signs (hr.mono (by decide)) (paC (pv 0) (paC (pv 2) (paC (aA (aM K rfl) am (aA b6 (pv 7) am)) ah)))))) bp)) (af (cK (c9 (bn (eZ K rfl hu) (pv 8) (gJ (l:=[]) (by decide +kernel)) (bA _)) (aq (aD (i:=8) aG.nd rfl (by walk_at "o") (dY (jI K rfl) (pv 2) am (fun _ _=>rfl)))) bp)) (aq (bq (qF (paC (bI (ll K rfl) (pv 3) cI (bR (pv 1))) (paC (bI (ll K rfl) (pv 8) cI (bR (pv 1))) (paC (pv 2) ah)))))))))))))))))))),fnR (K:=K) (c:=bh) (ps:=cX) (N:=["_law_deck_here","_law_most","_law_letters_here","_law_one","_law_sort","_law_k","_law_more","_law_times","_law_other"]) (aw (aB (ba (i:=0) aj) (ar (i:=2) rfl)) (aw (aB (ba (i:=0) (aa (ac (az (i:=2))) (aa (ac (ak aC (ac le_int) (ac (ak bi (ac (ba (i:=0) aj)) (ac le_int))))) aj))) (ar (i:=3) rfl)) (aw (aB (ak bi (ac (ba (i:=0) aj)) (ac le_int)) (ar (i:=4) rfl)) (aw (aB (ak bi (ac (ba (i:=0) aj)) (ac (ak aC (ac (dw cH (aa (ai (i:=3)) aj))) (ac le_int)))) (ar (i:=5) rfl)) (aw (aB (ba (i:=0) (aa (ac (az (i:=2))) (aa (ac (ak bi (ac (ba (i:=0) aj)) (ac le_int))) aj))) (ar (i:=6) rfl)) (aw (aB (ba (i:=0) aj) (ar (i:=7) rfl)) (aw (aB (ak aC (ac (bJ (ai (i:=3)) (bz (ak li (ac (dw cH (aa (ai (i:=3)) aj))) (ai (i:=5)))) cb)) (ai (i:=6))) (ar (i:=8) rfl)) (aw (cO (dN (jF (gO (ak c7 (ai (i:=4)) (ac le_int))) (gO (ak oM (ai (i:=5)) (ac le_int)))) (aB (bM (c:=aN) (aa (ac (az (i:=8))) (aa (ac (az (i:=2))) (aa (ac (ak bi (ai (i:=7)) (ai (i:=5)))) aj)))) (ar (i:=8) rfl)) bE)) (aw (cO (dN (gO (ak c7 (ai (i:=4)) (ac le_int))) (aB (az (i:=3)) (ar (i:=8) rfl)) bE)) (aw (cO (dN (gO (ak c7 (ai (i:=4)) (ac le_int))) (aw (aB (bJ (ac (ak cG (ai (i:=3)) (ac le_int))) (bz (az (i:=5))) (bz (ak aC (ac (ak aC (ai (i:=5)) (ac le_int))) (ac (ak bi (ai (i:=7)) (ac le_int)))))) (ar (i:=8) rfl)) (aB (ak cG (ai (i:=3)) (ac (ak aC (ac le_int) (ac (ak bi (ai (i:=7)) (ac le_int)))))) (ar (i:=3) rfl))) bE)) (aw (cO (dN (gO (ak c7 (ai (i:=4)) (ac le_int))) (aw (aB (bJ (ac (ak cG (ai (i:=3)) (ai (i:=1)))) cb (bz (ak li (ai (i:=1)) (ac (ak bi (ai (i:=7)) (ac le_int)))))) (ar (i:=3) rfl)) (aB (bJ (ac (ak aC (ac (ak aC (ai (i:=3)) (ai (i:=6)))) (ai (i:=3)))) (bz (az (i:=5))) (bz (az (i:=1)))) (ar (i:=8) rfl))) bE)) (aw (cO (dN (gO (ak c7 (ai (i:=4)) (ac le_int))) (aw (aB (ak aC (ai (i:=3)) (ac (ak cG (ac (ak eg (ai (i:=2)) (ac le_int))) (ac (ak bi (ai (i:=7)) (ac le_int)))))) (ar (i:=3) rfl)) (aB (ak aC (ac (ak cG (ac (ak eg (ai (i:=2)) (ac le_int))) (ac (ak aC (ac le_int) (ac (ak bi (ac (ak i7 (ai (i:=7)) (ac le_int))) (ac le_int))))))) (ai (i:=6))) (ar (i:=8) rfl))) bE)) (aw (cO (dN (gO (ak c7 (ai (i:=4)) (ac le_int))) (aB (ba (i:=0) (aa (ac (az (i:=2))) (aa (ac (ak aC (ac le_int) (ac (ak bi (ai (i:=7)) (ac le_int))))) aj))) (ar (i:=8) rfl)) bE)) (aw (cO (dN (gO (ak c7 (ai (i:=8)) (ac (le_str (l:=[]))))) (aB (ak eg (ai (i:=2)) (ac le_int)) (ar (i:=8) rfl)) bE)) (br (rk (aa (ac (bJ (ai (i:=3)) cb (bz (az (i:=1))))) (aa (ac (bJ (ai (i:=8)) cb (bz (az (i:=1))))) (aa (ac (az (i:=2))) aj))))))))))))))))))) (fun p ds Q h=>le_trans (le_of_eq (fU p ds Q h)) (by decide)) jn h⟩
theorem fV:∀ds Q,a7 ds Q->ds.length=3:=fun ds Q h=>by unfold a7 at h;split at h;(first|rfl|exact h.elim);(first|rfl|exact h.elim)
theorem jt(D:b3 K mg "_law_fits" eJ)(T:Txt mg)(TX:TxX K mg):Cal P w K mg base 1 "_law_fits" ["_law_one","_law_other","_law_k"] (spP K a7):=by
 refine D.ok fC (fun _ _ _ _ _ _ us hl=>match us,hl with|[_,_,_],_=>rfl) (fun vs H Q E h=>?_) (fun f cdv A outer s H vs Q E hr h=>?_)
 .exact lw fV h
 .have hu:=hr.units;exact⟨_,(af (gm PassesOwn.never rfl (fj rfl T.b_range (paC (pv 2) ah)) (cB (i:=3) fC.nd rfl (by walk_at "o")) (aq (c9 (bn (rN K rfl hu) (dY (jI K rfl) (pv 0) (aA (aM K rfl) (aA o9 (ap (eE K rfl) rfl T.b_len PySem.boot_len (paC (pv 0) ah)) (pv 2)) (pv 3)) (fun _ _=>rfl)) (dY (jI K rfl) (pv 1) (pv 3) (fun _ _=>rfl)) (bA _)) (aq (bq hZ)) bp))) (aq (bq hZ))),fnP (K:=K) (c:=a7) (ps:=cY) (N:=["_law_one","_law_other","_law_k","_law_at"]) (aw (gp (oV (aa (ac (az (i:=2))) aj)) (bV (i:=3) rfl) (dN (gO (ak nv (ac (ak eg (ai (i:=0)) (ac (ak aC (ac (ak li (ac (dw cH (aa (ai (i:=0)) aj))) (ai (i:=2)))) (ai (i:=3)))))) (ac (ak eg (ai (i:=1)) (ai (i:=3)))))) (br ir) bE)) (br ir)) (fun ds Q h=>le_trans (le_of_eq (fV ds Q h)) (by decide)) jo h⟩
theorem eV:∀ds Q,aW ds Q->ds.length=1:=fun ds Q h=>by unfold aW at h;split at h;(first|rfl|exact h.elim);(first|rfl|exact h.elim)
theorem iQ(D:b3 K mg "_law_whole" dR)(T:Txt mg)(TX:TxX K mg):lX P w K mg base 1 "_law_whole" ["_law_found"] (spP K aW):=by
 refine D.okN iF (fun _ _ _ _ _ _ us hl=>match us,hl with|[_],_=>rfl) (fun vs H Q E h=>?_) (fun f cdv A outer s H vs Q E hr h=>?_)
 .exact lw eV h
 .have hu:=hr.units;exact⟨_,(aq (bq (jy (ap (oP K rfl) rfl T.b_isinstance boot_isinstance (paC (pv 0) (paC (gB (v:=.ty "int") rfl T.b_int boot_int rfl) ah))) (jx (mW (ap (oP K rfl) rfl T.b_isinstance boot_isinstance (paC (pv 0) (paC (gB (v:=.ty "bool") rfl T.b_bool boot_bool rfl) ah)))))))),fnP (K:=K) (c:=aW) (ps:=cz) (N:=["_law_found"]) (br (jG (lm .int (ai (i:=0))) (ng (lm .bool (ai (i:=0)))))) (fun ds Q h=>le_trans (le_of_eq (eV ds Q h)) (by decide)) iM h⟩
theorem eW:∀ds Q,aX ds Q->ds.length=1:=fun ds Q h=>by unfold aX at h;split at h;(first|rfl|exact h.elim);(first|rfl|exact h.elim)
theorem iR(D:b3 K mg "_law_kinds" dS)(T:Txt mg)(TX:TxX K mg):lX P w K mg base 1 "_law_kinds" ["_law_error"] (spP K aX):=by
 refine D.okN a3 (fun _ _ _ _ _ _ us hl=>match us,hl with|[_],_=>rfl) (fun vs H Q E h=>?_) (fun f cdv A outer s H vs Q E hr h=>?_)
 .exact lw eW h
 .have hu:=hr.units;exact⟨_,(af (aD (i:=1) a3.nd rfl (by walk_at "o") (cp (paC (ap (dh K rfl) rfl T.b_isinstance boot_isinstance (paC (pv 0) (paC (bt TX.m_TooMany) ah))) (paC (ap (dh K rfl) rfl T.b_isinstance boot_isinstance (paC (pv 0) (paC (bt TX.m_NoPiece) ah))) ah)))) (af (aD (i:=1) a3.nd rfl (by walk_at "o") (aA (aM K rfl) (pv 1) (cp (paC (ap (dh K rfl) rfl T.b_isinstance boot_isinstance (paC (pv 0) (paC (bt TX.m_NoLap) ah))) (paC (ap (dh K rfl) rfl T.b_isinstance boot_isinstance (paC (pv 0) (paC (bt TX.m_NoOrder) ah))) ah))))) (af (aD (i:=1) a3.nd rfl (by walk_at "o") (aA (aM K rfl) (pv 1) (cp (paC (ap (dh K rfl) rfl T.b_isinstance boot_isinstance (paC (pv 0) (paC (bt TX.m_NotHeld) ah))) (paC (ap (dh K rfl) rfl T.b_isinstance boot_isinstance (paC (pv 0) (paC (bt TX.m_NoTable) ah))) ah))))) (af (aD (i:=1) a3.nd rfl (by walk_at "o") (aA (aM K rfl) (pv 1) (cp (paC (ap (dh K rfl) rfl T.b_isinstance boot_isinstance (paC (pv 0) (paC (bt TX.m_NoRing) ah))) (paC (ap (dh K rfl) rfl T.b_isinstance boot_isinstance (paC (pv 0) (paC (bt TX.m_TooGreat) ah))) ah))))) (af (aD (i:=1) a3.nd rfl (by walk_at "o") (aA (aM K rfl) (pv 1) (cp (paC (ap (dh K rfl) rfl T.b_isinstance boot_isinstance (paC (pv 0) (paC (bt TX.m_NoWords) ah))) (paC (ap (dh K rfl) rfl T.b_isinstance boot_isinstance (paC (pv 0) (paC (bt TX.m_NotApart) ah))) ah))))) (af (aD (i:=1) a3.nd rfl (by walk_at "o") (aA (aM K rfl) (pv 1) (cp (paC (ap (dh K rfl) rfl T.b_isinstance boot_isinstance (paC (pv 0) (paC (bt TX.m_NoCounts) ah))) (paC (ap (dh K rfl) rfl T.b_isinstance boot_isinstance (paC (pv 0) (paC (bt TX.m_NotCovered) ah))) ah))))) (af (aD (i:=1) a3.nd rfl (by walk_at "o") (aA (aM K rfl) (pv 1) (cp (paC (ap (dh K rfl) rfl T.b_isinstance boot_isinstance (paC (pv 0) (paC (bt TX.m_NoLine) ah))) (paC (ap (dh K rfl) rfl T.b_isinstance boot_isinstance (paC (pv 0) (paC (bt TX.m_NoPaper) ah))) ah))))) (af (aD (i:=1) a3.nd rfl (by walk_at "o") (aA (aM K rfl) (pv 1) (cp (paC (ap (dh K rfl) rfl T.b_isinstance boot_isinstance (paC (pv 0) (paC (bt TX.m_NotTold) ah))) ah)))) (aq (bq (jE K rfl PySem.F.plainAttrs_list PySem.F.slot_list_count PySem.F.type_list_count (pW K rfl) (pv 1) (paC hZ ah)))))))))))),fnP (K:=K) (c:=aX) (ps:=cA) (N:=["_law_error","_law_found"]) (aw (aB (cq (aa (ac (b4 (d:="TooMany") TX.all (by first|exact Or.inr rfl|exact Or.inl (contains_iff_mem.mp (by decide +kernel))) (ai (i:=0)))) (aa (ac (b4 (d:="NoPiece") TX.all (by first|exact Or.inr rfl|exact Or.inl (contains_iff_mem.mp (by decide +kernel))) (ai (i:=0)))) aj))) (ar (i:=1) rfl)) (aw (aB (ak aC (ai (i:=1)) (ac (cq (aa (ac (b4 (d:="NoLap") TX.all (by first|exact Or.inr rfl|exact Or.inl (contains_iff_mem.mp (by decide +kernel))) (ai (i:=0)))) (aa (ac (b4 (d:="NoOrder") TX.all (by first|exact Or.inr rfl|exact Or.inl (contains_iff_mem.mp (by decide +kernel))) (ai (i:=0)))) aj))))) (ar (i:=1) rfl)) (aw (aB (ak aC (ai (i:=1)) (ac (cq (aa (ac (b4 (d:="NotHeld") TX.all (by first|exact Or.inr rfl|exact Or.inl (contains_iff_mem.mp (by decide +kernel))) (ai (i:=0)))) (aa (ac (b4 (d:="NoTable") TX.all (by first|exact Or.inr rfl|exact Or.inl (contains_iff_mem.mp (by decide +kernel))) (ai (i:=0)))) aj))))) (ar (i:=1) rfl)) (aw (aB (ak aC (ai (i:=1)) (ac (cq (aa (ac (b4 (d:="NoRing") TX.all (by first|exact Or.inr rfl|exact Or.inl (contains_iff_mem.mp (by decide +kernel))) (ai (i:=0)))) (aa (ac (b4 (d:="TooGreat") TX.all (by first|exact Or.inr rfl|exact Or.inl (contains_iff_mem.mp (by decide +kernel))) (ai (i:=0)))) aj))))) (ar (i:=1) rfl)) (aw (aB (ak aC (ai (i:=1)) (ac (cq (aa (ac (b4 (d:="NoWords") TX.all (by first|exact Or.inr rfl|exact Or.inl (contains_iff_mem.mp (by decide +kernel))) (ai (i:=0)))) (aa (ac (b4 (d:="NotApart") TX.all (by first|exact Or.inr rfl|exact Or.inl (contains_iff_mem.mp (by decide +kernel))) (ai (i:=0)))) aj))))) (ar (i:=1) rfl)) (aw (aB (ak aC (ai (i:=1)) (ac (cq (aa (ac (b4 (d:="NoCounts") TX.all (by first|exact Or.inr rfl|exact Or.inl (contains_iff_mem.mp (by decide +kernel))) (ai (i:=0)))) (aa (ac (b4 (d:="NotCovered") TX.all (by first|exact Or.inr rfl|exact Or.inl (contains_iff_mem.mp (by decide +kernel))) (ai (i:=0)))) aj))))) (ar (i:=1) rfl)) (aw (aB (ak aC (ai (i:=1)) (ac (cq (aa (ac (b4 (d:="NoLine") TX.all (by first|exact Or.inr rfl|exact Or.inl (contains_iff_mem.mp (by decide +kernel))) (ai (i:=0)))) (aa (ac (b4 (d:="NoPaper") TX.all (by first|exact Or.inr rfl|exact Or.inl (contains_iff_mem.mp (by decide +kernel))) (ai (i:=0)))) aj))))) (ar (i:=1) rfl)) (aw (aB (ak aC (ai (i:=1)) (ac (cq (aa (ac (b4 (d:="NotTold") TX.all (by first|exact Or.inr rfl|exact Or.inl (contains_iff_mem.mp (by decide +kernel))) (ai (i:=0)))) aj)))) (ar (i:=1) rfl)) (br (pX (ai (i:=1)) ir)))))))))) (fun ds Q h=>le_trans (le_of_eq (eW ds Q h)) (by decide)) iN h⟩
theorem dJ:∀ds Q,aO ds Q->ds.length=2:=fun ds Q h=>by unfold aO at h;split at h;(first|rfl|exact h.elim);(first|rfl|exact h.elim)
theorem gi(D:b3 K mg "_law_is_just" cT)(T:Txt mg)(TX:TxX K mg)(C_law_kinds:lX P w K mg base 1 "_law_kinds" ["_law_error"] (spP K aX)):lX P w K mg base 2 "_law_is_just" ["_law_error","_law_told"] (spP K aO):=by
 refine D.okN fY (fun _ _ _ _ _ _ us hl=>match us,hl with|[_,_],_=>rfl) (fun vs H Q E h=>?_) (fun f cdv A outer s H vs Q E hr h=>?_)
 .exact lw dJ h
 .have hu:=hr.units;exact⟨_,(af (c9 (PW.pt (l7 (fi (dg (ap (dh K rfl) rfl T.b_isinstance boot_isinstance (paC (pv 0) (paC (bt TX.m_GlueError) ah))))) (jv (fi (dg (ap (t0 K rfl) rfl T.b_isinstance boot_isinstance (paC (pv 0) (paC (gB (v:=.ty "ValueError") rfl T.b_ValueError PyProof.Rows.Boot.«ValueError» rfl) ah)))))))) (aq (bq hZ)) bp) (aq (bq (jy (pv 1) (jx (gE (eZ K rfl hu) (fA C_law_kinds (hr.mono (by decide)) (paC (pv 0) ah)) am (bA _))))))),fnP (K:=K) (c:=aO) (ps:=bZ) (N:=["_law_error","_law_told"]) (aw (dN (mz (fz (my (b4 (d:="GlueError") TX.all (by first|exact Or.inr rfl|exact Or.inl (contains_iff_mem.mp (by decide +kernel))) (ai (i:=0))))) (fz (my (rS TX.all (ai (i:=0)))))) (br ir) bE) (br (jG (az (i:=1)) (ak c7 (ac (bM (c:=aX) (aa (ac (az (i:=0))) aj))) (ac le_int))))) (fun ds Q h=>le_trans (le_of_eq (dJ ds Q h)) (by decide)) f9 h⟩
theorem dk:∀ds Q,aE ds Q->ds.length=2:=fun ds Q h=>by unfold aE at h;split at h;(first|rfl|exact h.elim);(first|rfl|exact h.elim)
theorem fW(D:b3 K mg "_law_is_right" cD)(T:Txt mg)(TX:TxX K mg)(C_law_is_just:lX P w K mg base 2 "_law_is_just" ["_law_error","_law_told"] (spP K aO))(C_law_whole:lX P w K mg base 1 "_law_whole" ["_law_found"] (spP K aW)):lX P w K mg base 3 "_law_is_right" ["_law_error","_law_k"] (spP K aE):=by
 refine D.okN fE (fun _ _ _ _ _ _ us hl=>match us,hl with|[_,_],_=>rfl) (fun vs H Q E h=>?_) (fun f cdv A outer s H vs Q E hr h=>?_)
 .exact lw dk h
 .have hu:=hr.units;exact⟨_,(af (c9 (fi (dg (fA C_law_is_just (hr.mono (by decide)) (paC (pv 0) (paC (ap (dh K rfl) rfl T.b_isinstance boot_isinstance (paC (pv 0) (paC (bt TX.m_NoLap) ah))) ah))))) (aq (bq hZ)) bp) (aq (bq (jy (fA C_law_whole (hr.mono (by decide)) (paC (jP K rfl (pv 0) rfl) ah)) (jx (gE (eZ K rfl hu) (jP K rfl (pv 0) rfl) (pv 1) (bA _))))))),fnP (K:=K) (c:=aE) (ps:=bO) (N:=["_law_error","_law_k"]) (aw (dN (fz (my (bM (c:=aO) (aa (ac (az (i:=0))) (aa (ac (b4 (d:="NoLap") TX.all (by first|exact Or.inr rfl|exact Or.inl (contains_iff_mem.mp (by decide +kernel))) (ai (i:=0)))) aj))))) (br ir) bE) (br (jG (bM (c:=aW) (aa (ac (lC TX.all TX.at_ (ai (i:=0)))) aj)) (ak c7 (ac (lC TX.all TX.at_ (ai (i:=0)))) (ai (i:=1)))))) (fun ds Q h=>le_trans (le_of_eq (dk ds Q h)) (by decide)) fQ h⟩
theorem dL:∀ds Q,aP ds Q->ds.length=4:=fun ds Q h=>by unfold aP at h;split at h;(first|rfl|exact h.elim);(first|rfl|exact h.elim)
theorem gj(D:b3 K mg "_law_refused" cU)(T:Txt mg)(TX:TxX K mg)(C_law_is_right:lX P w K mg base 3 "_law_is_right" ["_law_error","_law_k"] (spP K aE))(C_glued:rV P w K mg base 3 "glued" ["one","other","k"] (spX K a4)):Cal P w K mg base 4 "_law_refused" ["_law_one","_law_other","_law_k","_law_plain"] (spP K aP):=by
 refine D.ok cF (fun _ _ _ _ _ _ us hl=>match us,hl with|[_,_,_,_],_=>rfl) (fun vs H Q E h=>?_) (fun f cdv A outer s H vs Q E hr h=>?_)
 .exact lw dL h
 .have hu:=hr.units;exact⟨_,(af (nC rfl rfl (fun J pn E px=>aq (c9 (PT.nox (dg (pv 3))) (aq (PS.nox (nC rfl rfl (fun J pn E px=>af (gC (gU C_glued (hr.mono (by decide)) px (paC (pv 0) (paC (pv 1) (paC (pv 2) ah))))) bp) (nF 4 K rfl TX.d_NoLap TX.m_NoLap cF.nd rfl rfl (fun _=>(aq (bq (fA C_law_is_right ((hr.mark _).mono (by decide)) (paC (pv 4) (paC (pv 2) ah)))))) nB)))) (af (gC (gU C_glued (hr.mono (by decide)) px (paC (pv 0) (paC (pv 1) (paC (pv 2) ah))))) bp))) (nF 4 K rfl TX.d_GlueError TX.m_GlueError cF.nd rfl rfl (fun _=>(aq (bq (jy (mW (pv 3)) (jx (fA C_law_is_right ((hr.mark _).mono (by decide)) (paC (pv 4) (paC (pv 2) ah)))))))) nB)) (aq (bq hZ))),fnP (K:=K) (c:=aP) (ps:=b2) (N:=["_law_one","_law_other","_law_k","_law_plain","_law_error"]) (aw (pY (c:=a4) (my (az (i:=3))) (rY (c:=a4) (aa (ac (az (i:=0))) (aa (ac (az (i:=1))) (aa (ac (az (i:=2))) aj))) (rX (c0:="NoLap") TX.all (by first|exact Or.inr rfl|exact Or.inl (contains_iff_mem.mp (by decide +kernel))) rfl (br (bM (c:=aE) (aa (ac (az (i:=4))) (aa (ac (az (i:=2))) aj)))) nE)) (aa (ac (az (i:=0))) (aa (ac (az (i:=1))) (aa (ac (az (i:=2))) aj))) (rX (c0:="GlueError") TX.all (by first|exact Or.inr rfl|exact Or.inl (contains_iff_mem.mp (by decide +kernel))) rfl (br (jG (ng (az (i:=3))) (bM (c:=aE) (aa (ac (az (i:=4))) (aa (ac (az (i:=2))) aj))))) nE)) (br ir)) (fun ds Q h=>le_trans (le_of_eq (dL ds Q h)) (by decide)) gb h⟩
theorem gz:∀ds Q,bj ds Q->ds.length=3:=fun ds Q h=>by unfold bj at h;split at h;(first|rfl|exact h.elim);(first|rfl|exact h.elim)
theorem kn(D:b3 K mg "_law_due" fB)(T:Txt mg)(TX:TxX K mg):Cal P w K mg base 1 "_law_due" ["_law_one","_law_other","_law_k"] (spP K bj):=by
 refine D.ok ci (fun _ _ _ _ _ _ us hl=>match us,hl with|[_,_,_],_=>rfl) (fun vs H Q E h=>?_) (fun f cdv A outer s H vs Q E hr h=>?_)
 .exact lw gz h
 .have hu:=hr.units;exact⟨_,(af (aD (i:=3) ci.nd rfl (by walk_at "o") (gJ (l:=[]) (by decide +kernel))) (af (gm PassesOwn.never rfl (lq K rfl (pv 0)) (cB (i:=4) ci.nd rfl (by walk_at "o")) (aq (aD (i:=3) ci.nd rfl (by walk_at "o") (aA (aM K rfl) (pv 3) (pv 4))))) (af (gm PassesOwn.never rfl (kv rfl T.b_range (paC (pv 2) (paC (ap (eE K rfl) rfl T.b_len PySem.boot_len (paC (pv 1) ah)) ah))) (cB (i:=5) ci.nd rfl (by walk_at "o")) (aq (aD (i:=3) ci.nd rfl (by walk_at "o") (aA (aM K rfl) (pv 3) (dY (jI K rfl) (pv 1) (pv 5) (fun _ _=>rfl)))))) (aq (bq (pv 3)))))),fnP (K:=K) (c:=bj) (ps:=du) (N:=["_law_one","_law_other","_law_k","_law_found","_law_sign","_law_at"]) (aw (aB (le_str (l:=[])) (ar (i:=3) rfl)) (aw (gp (lr (az (i:=0))) (bV (i:=4) rfl) (aB (ak aC (ai (i:=3)) (ai (i:=4))) (ar (i:=3) rfl))) (aw (gp (tO (aa (ac (az (i:=2))) (aa (ac (dw cH (aa (ai (i:=1)) aj))) aj))) (bV (i:=5) rfl) (aB (ak aC (ai (i:=3)) (ac (ak eg (ai (i:=1)) (ai (i:=5))))) (ar (i:=3) rfl))) (br (az (i:=3)))))) (fun ds Q h=>le_trans (le_of_eq (gz ds Q h)) (by decide)) km h⟩
theorem nM:∀ds Q,jX ds Q->ds.length=1:=fun ds Q h=>by obtain⟨_,rfl,_⟩:=h;rfl
theorem sg(D:b3 K mg "law" mQ)(T:Txt mg)(TX:TxX K mg)(C_law_deck:Cal P w K mg base 2 "_law_deck" ["_law_script","_law_many"] (spP K a6))(C_law_due:Cal P w K mg base 1 "_law_due" ["_law_one","_law_other","_law_k"] (spP K bj))(C_law_fits:Cal P w K mg base 1 "_law_fits" ["_law_one","_law_other","_law_k"] (spP K a7))(C_law_next:Cal P w K mg base 1 "_law_next" ["_law_deck_here"] (spR K ay))(C_law_pair:Cal P w K mg base 3 "_law_pair" ["_law_deck_here","_law_most"] (spR K bh))(C_law_refused:Cal P w K mg base 4 "_law_refused" ["_law_one","_law_other","_law_k","_law_plain"] (spP K aP))(C_glued:rV P w K mg base 3 "glued" ["one","other","k"] (spX K a4)):Cal P w K mg base 5 "law" ["_law_script"] (spP K jX):=by
 refine D.ok dC (fun _ _ _ _ _ _ us hl=>match us,hl with|[_],_=>rfl) (fun vs H Q E h=>?_) (fun f cdv A outer s H vs Q E hr h=>?_)
 .exact lw nM h
 .have hu:=hr.units;exact⟨_,(af (aD (i:=1) dC.nd rfl (by walk_at "o") (aZ C_law_deck (hr.mono (by decide)) (paC (pv 0) (paC am ah)))) (af (mX (aZ C_law_pair (hr.mono (by decide)) (paC (pv 1) (paC am ah))) (rO K rfl (n:=3) rfl (gD (cB (i:=2) dC.nd rfl (by walk_at "o")) (gD (cB (i:=3) dC.nd rfl (by walk_at "o")) (gD (cB (i:=4) dC.nd rfl (by walk_at "o")) nR))))) (af (aD (i:=5) dC.nd rfl (by walk_at "o") (dY (jI K rfl) (cp (paC am (paC (aA mH am am) (paC (aA mH am am) (paC (aA mH am am) ah))))) (aA b6 (aZ C_law_next (hr.mono (by decide)) (paC (pv 1) ah)) am) (fun _ _=>rfl))) (af (aD (i:=6) dC.nd rfl (by walk_at "o") (aZ C_law_next (hr.mono (by decide)) (paC (pv 1) ah))) (af (aD (i:=7) dC.nd rfl (by walk_at "o") (ap (nk rfl) rfl T.b_min boot_min (paC (ap (eE K rfl) rfl T.b_len PySem.boot_len (paC (pv 2) ah)) (paC (ap (eE K rfl) rfl T.b_len PySem.boot_len (paC (pv 3) ah)) ah)))) (af (gm PassesOwn.never rfl (lq K rfl (aA (aM K rfl) (gu (rK K rfl rfl) rfl T.b_list boot_list (paC (k9 rfl T.b_range (paC (qy mZ am) (paC (aA (aM K rfl) (pv 7) am) ah))) ah)) (cp (paC (pv 5) (paC (qy mZ (pv 5)) ah))))) (cB (i:=8) dC.nd rfl (by walk_at "o")) (aq (c9 (PW.pt (jw (bn uC am (pv 8) (bA _)) (jw (bn ro (pv 8) (pv 7) (bA _)) (iT (dg (aZ C_law_fits (hr.mono (by decide)) (paC (pv 2) (paC (pv 3) (paC (pv 8) ah))))))))) (af (aD (i:=9) dC.nd rfl (by walk_at "o") (gU C_glued (hr.mono (by decide)) px0 (paC (pv 2) (paC (pv 3) (paC (pv 8) ah))))) (aq (c9 (PW.pt (l7 (fi (dg (ap (oP K rfl) rfl T.b_isinstance boot_isinstance (paC (pv 9) (paC (gB (v:=.ty "str") rfl T.b_str boot_str rfl) ah))))) (jv (bn (rN K rfl hu) (pv 9) (aZ C_law_due (hr.mono (by decide)) (paC (pv 2) (paC (pv 3) (paC (pv 8) ah)))) (bA _))))) (aq (bq hZ)) bp))) (aq (c9 (fi (dg (aZ C_law_refused (hr.mono (by decide)) (paC (pv 2) (paC (pv 3) (paC (pv 8) (paC (gE (eZ K rfl hu) (aA b6 (aA (aM K rfl) (pv 8) (pv 6)) am) am (bA _)) ah))))))) (aq (bq hZ)) bp))))) (aq (bq (gE (eZ K rfl hu) (gU C_glued (hr.mono (by decide)) px0 (paC (pv 2) (paC (pv 3) (paC am ah)))) (aA (aM K rfl) (pv 2) (pv 3)) (bA _)))))))))),fnP (K:=K) (c:=jX) (ps:=jY) (N:=["_law_script","_law_deck_here","_law_one","_law_other","_law_letters_here","_law_far","_law_flip","_law_least","_law_k","_law_told"]) (aw (aB (bM (c:=a6) (aa (ac (az (i:=0))) (aa (ac le_int) aj))) (ar (i:=1) rfl)) (aw (aB (ba (i:=1) (aa (ac le_int) aj)) (rP (gP (bV (i:=2) rfl) (gP (bV (i:=3) rfl) (gP (bV (i:=4) rfl) oS))))) (aw (aB (ak eg (ac (cq (aa (ac le_int) (aa (ac (ak jH (ac le_int) (ac le_int))) (aa (ac (ak jH (ac le_int) (ac le_int))) (aa (ac (ak jH (ac le_int) (ac le_int))) aj)))))) (ac (ak bi (ac (ba (i:=1) aj)) (ac le_int)))) (ar (i:=5) rfl)) (aw (aB (ba (i:=1) aj) (ar (i:=6) rfl)) (aw (aB (dw lu (aa (ac (dw cH (aa (ai (i:=2)) aj))) (aa (ac (dw cH (aa (ai (i:=3)) aj))) aj))) (ar (i:=7) rfl)) (aw (gp (lr (ak aC (ac (mG false (aa (ac (rj nr (ac le_int))) (aa (ac (ak aC (ai (i:=7)) (ac le_int))) aj)))) (ac (cq (aa (ac (az (i:=5))) (aa (ac (rj nr (ai (i:=5)))) aj)))))) (bV (i:=8) rfl) (dN (jF (gO (ak rp (ac le_int) (ai (i:=8)))) (jF (gO (ak lj (ai (i:=8)) (ai (i:=7)))) (my (bM (c:=a7) (aa (ac (az (i:=2))) (aa (ac (az (i:=3))) (aa (ac (az (i:=8))) aj))))))) (aw (aB (jR (c:=a4) (aa (ac (az (i:=2))) (aa (ac (az (i:=3))) (aa (ac (az (i:=8))) aj)))) (ar (i:=9) rfl)) (dN (mz (fz (my (lm .str (ai (i:=9))))) (gO (ak nv (ai (i:=9)) (ac (bM (c:=bj) (aa (ac (az (i:=2))) (aa (ac (az (i:=3))) (aa (ac (az (i:=8))) aj)))))))) (br ir) bE)) (dN (fz (my (bM (c:=aP) (aa (ac (az (i:=2))) (aa (ac (az (i:=3))) (aa (ac (az (i:=8))) (aa (ac (ak c7 (ac (ak bi (ac (ak aC (ai (i:=8)) (ai (i:=6)))) (ac le_int))) (ac le_int))) aj))))))) (br ir) bE))) (br (ak c7 (ac (jR (c:=a4) (aa (ac (az (i:=2))) (aa (ac (az (i:=3))) (aa (ac le_int) aj))))) (ac (ak aC (ai (i:=2)) (ai (i:=3)))))))))))) (fun ds Q h=>le_trans (le_of_eq (nM ds Q h)) (by decide)) sf h⟩
end
theorem sh{l:PySem.W.OpenLaw}{w:World}{K:PySem.W.Frag}{h:Heap}{mg:Str->Option Value}{fa:Addr}(X:K.In h)(G:h.Ns mainGlobals mg)(hfa:mg "law"=some (.ref fa))
  {C_GlueError:Addr} (aC_GlueError:PySem.W.nsIn K mainGlobals "GlueError"=some (some (.ref C_GlueError))) {q_GlueError:Str}{N_GlueError:Addr}{bs_GlueError sub_GlueError:List Value}{sn_GlueError:List Str}{ab_GlueError:Bool}{col_GlueError:Option Bool}{k0_GlueError k1_GlueError k2_GlueError k3_GlueError k5_GlueError:Option Value} (lC_GlueError:K.lookup C_GlueError=some (excClassObj "GlueError" q_GlueError C_GlueError N_GlueError bs_GlueError [.type "ValueError",.type "Exception",.type "BaseException",.type "object"] true sn_GlueError sub_GlueError ab_GlueError col_GlueError none k0_GlueError k1_GlueError k2_GlueError k3_GlueError k5_GlueError "ValueError.__new__")) (xq_GlueError:PySem.W.excIn K C_GlueError [.type "ValueError",.type "Exception",.type "BaseException",.type "object"] "ValueError.__new__"=true)
  {C_TooMany:Addr} (aC_TooMany:PySem.W.nsIn K mainGlobals "TooMany"=some (some (.ref C_TooMany))) {q_TooMany:Str}{N_TooMany:Addr}{bs_TooMany sub_TooMany:List Value}{sn_TooMany:List Str}{ab_TooMany:Bool}{col_TooMany:Option Bool}{k0_TooMany k1_TooMany k2_TooMany k3_TooMany k5_TooMany:Option Value} (lC_TooMany:K.lookup C_TooMany=some (excClassObj "TooMany" q_TooMany C_TooMany N_TooMany bs_TooMany (.ref C_GlueError::[.type "ValueError",.type "Exception",.type "BaseException",.type "object"]) true sn_TooMany sub_TooMany ab_TooMany col_TooMany none k0_TooMany k1_TooMany k2_TooMany k3_TooMany k5_TooMany "ValueError.__new__")) (ga_TooMany:PySem.W.findIn K (.ref C_TooMany) "__getattribute__"=some (some (.builtin "BaseException.__getattribute__"))) (gh_TooMany:PySem.W.findIn K (.ref C_TooMany) "__getattr__"=some none) (sa_TooMany:PySem.W.findIn K (.ref C_TooMany) "__setattr__"=some (some (.builtin "object.__setattr__"))) (cl_TooMany:PySem.W.findIn K (.ref C_TooMany) "__class__"=some (some (.builtin "object.__class__"))) (kc_TooMany:PySem.W.keepIn K (.ref C_TooMany)=true)
  {fx_TooMany:Addr}{xoc_TooMany xkV_TooMany xdc_TooMany xpm_TooMany xcd_TooMany xct_TooMany:Value}{xod_TooMany xan_TooMany:Option Addr}{xsl_TooMany:Array (Option Value)} (xi_TooMany:PySem.W.findIn K (.ref C_TooMany) "__init__"=some (some (.ref fx_TooMany))) (xt_TooMany:PySem.W.typeIn K (.ref fx_TooMany)=some (.type "function")) (xl_TooMany:K.lookup fx_TooMany=some ⟨xoc_TooMany,xod_TooMany,.func (PySem.W.fnOf "__init__" "TooMany.__init__" (a5 bB) (aT bB) (ae bB) .none xkV_TooMany xdc_TooMany xpm_TooMany xan_TooMany xcd_TooMany xct_TooMany),xsl_TooMany⟩) (xc0_TooMany:PySem.W.codeIn K xcd_TooMany "TooMany.__init__"=true) (xk_TooMany:PySem.W.keepIn K (.ref fx_TooMany)=true) (xn_TooMany:PySem.W.findIn K (.ref C_TooMany) "most"=some none)
  {C_NoPiece:Addr} (aC_NoPiece:PySem.W.nsIn K mainGlobals "NoPiece"=some (some (.ref C_NoPiece))) {q_NoPiece:Str}{N_NoPiece:Addr}{bs_NoPiece sub_NoPiece:List Value}{sn_NoPiece:List Str}{ab_NoPiece:Bool}{col_NoPiece:Option Bool}{k0_NoPiece k1_NoPiece k2_NoPiece k3_NoPiece k5_NoPiece:Option Value} (lC_NoPiece:K.lookup C_NoPiece=some (excClassObj "NoPiece" q_NoPiece C_NoPiece N_NoPiece bs_NoPiece (.ref C_GlueError::[.type "ValueError",.type "Exception",.type "BaseException",.type "object"]) true sn_NoPiece sub_NoPiece ab_NoPiece col_NoPiece none k0_NoPiece k1_NoPiece k2_NoPiece k3_NoPiece k5_NoPiece "ValueError.__new__")) (ga_NoPiece:PySem.W.findIn K (.ref C_NoPiece) "__getattribute__"=some (some (.builtin "BaseException.__getattribute__"))) (gh_NoPiece:PySem.W.findIn K (.ref C_NoPiece) "__getattr__"=some none) (sa_NoPiece:PySem.W.findIn K (.ref C_NoPiece) "__setattr__"=some (some (.builtin "object.__setattr__"))) (cl_NoPiece:PySem.W.findIn K (.ref C_NoPiece) "__class__"=some (some (.builtin "object.__class__"))) (kc_NoPiece:PySem.W.keepIn K (.ref C_NoPiece)=true)
  {fx_NoPiece:Addr}{xoc_NoPiece xkV_NoPiece xdc_NoPiece xpm_NoPiece xcd_NoPiece xct_NoPiece:Value}{xod_NoPiece xan_NoPiece:Option Addr}{xsl_NoPiece:Array (Option Value)} (xi_NoPiece:PySem.W.findIn K (.ref C_NoPiece) "__init__"=some (some (.ref fx_NoPiece))) (xt_NoPiece:PySem.W.typeIn K (.ref fx_NoPiece)=some (.type "function")) (xl_NoPiece:K.lookup fx_NoPiece=some ⟨xoc_NoPiece,xod_NoPiece,.func (PySem.W.fnOf "__init__" "NoPiece.__init__" (a5 bC) (aT bC) (ae bC) .none xkV_NoPiece xdc_NoPiece xpm_NoPiece xan_NoPiece xcd_NoPiece xct_NoPiece),xsl_NoPiece⟩) (xc0_NoPiece:PySem.W.codeIn K xcd_NoPiece "NoPiece.__init__"=true) (xk_NoPiece:PySem.W.keepIn K (.ref fx_NoPiece)=true) (xn_NoPiece:PySem.W.findIn K (.ref C_NoPiece) "at"=some none)
  {C_NoLap:Addr} (aC_NoLap:PySem.W.nsIn K mainGlobals "NoLap"=some (some (.ref C_NoLap))) {q_NoLap:Str}{N_NoLap:Addr}{bs_NoLap sub_NoLap:List Value}{sn_NoLap:List Str}{ab_NoLap:Bool}{col_NoLap:Option Bool}{k0_NoLap k1_NoLap k2_NoLap k3_NoLap k5_NoLap:Option Value} (lC_NoLap:K.lookup C_NoLap=some (excClassObj "NoLap" q_NoLap C_NoLap N_NoLap bs_NoLap (.ref C_GlueError::[.type "ValueError",.type "Exception",.type "BaseException",.type "object"]) true sn_NoLap sub_NoLap ab_NoLap col_NoLap none k0_NoLap k1_NoLap k2_NoLap k3_NoLap k5_NoLap "ValueError.__new__")) (ga_NoLap:PySem.W.findIn K (.ref C_NoLap) "__getattribute__"=some (some (.builtin "BaseException.__getattribute__"))) (gh_NoLap:PySem.W.findIn K (.ref C_NoLap) "__getattr__"=some none) (sa_NoLap:PySem.W.findIn K (.ref C_NoLap) "__setattr__"=some (some (.builtin "object.__setattr__"))) (cl_NoLap:PySem.W.findIn K (.ref C_NoLap) "__class__"=some (some (.builtin "object.__class__"))) (kc_NoLap:PySem.W.keepIn K (.ref C_NoLap)=true)
  {fx_NoLap:Addr}{xoc_NoLap xkV_NoLap xdc_NoLap xpm_NoLap xcd_NoLap xct_NoLap:Value}{xod_NoLap xan_NoLap:Option Addr}{xsl_NoLap:Array (Option Value)} (xi_NoLap:PySem.W.findIn K (.ref C_NoLap) "__init__"=some (some (.ref fx_NoLap))) (xt_NoLap:PySem.W.typeIn K (.ref fx_NoLap)=some (.type "function")) (xl_NoLap:K.lookup fx_NoLap=some ⟨xoc_NoLap,xod_NoLap,.func (PySem.W.fnOf "__init__" "NoLap.__init__" (a5 b5) (aT b5) (ae b5) .none xkV_NoLap xdc_NoLap xpm_NoLap xan_NoLap xcd_NoLap xct_NoLap),xsl_NoLap⟩) (xc0_NoLap:PySem.W.codeIn K xcd_NoLap "NoLap.__init__"=true) (xk_NoLap:PySem.W.keepIn K (.ref fx_NoLap)=true) (xn_NoLap:PySem.W.findIn K (.ref C_NoLap) "k"=some none)
  {C_NoOrder:Addr} (aC_NoOrder:PySem.W.nsIn K mainGlobals "NoOrder"=some (some (.ref C_NoOrder))) {q_NoOrder:Str}{N_NoOrder:Addr}{bs_NoOrder sub_NoOrder:List Value}{sn_NoOrder:List Str}{ab_NoOrder:Bool}{col_NoOrder:Option Bool}{k0_NoOrder k1_NoOrder k2_NoOrder k3_NoOrder k5_NoOrder:Option Value} (lC_NoOrder:K.lookup C_NoOrder=some (excClassObj "NoOrder" q_NoOrder C_NoOrder N_NoOrder bs_NoOrder (.ref C_GlueError::[.type "ValueError",.type "Exception",.type "BaseException",.type "object"]) true sn_NoOrder sub_NoOrder ab_NoOrder col_NoOrder none k0_NoOrder k1_NoOrder k2_NoOrder k3_NoOrder k5_NoOrder "ValueError.__new__")) (ga_NoOrder:PySem.W.findIn K (.ref C_NoOrder) "__getattribute__"=some (some (.builtin "BaseException.__getattribute__"))) (gh_NoOrder:PySem.W.findIn K (.ref C_NoOrder) "__getattr__"=some none) (sa_NoOrder:PySem.W.findIn K (.ref C_NoOrder) "__setattr__"=some (some (.builtin "object.__setattr__"))) (cl_NoOrder:PySem.W.findIn K (.ref C_NoOrder) "__class__"=some (some (.builtin "object.__class__"))) (kc_NoOrder:PySem.W.keepIn K (.ref C_NoOrder)=true)
  (xq_NoOrder:PySem.W.excIn K C_NoOrder [.type "ValueError",.type "Exception",.type "BaseException",.type "object"] "ValueError.__new__"=true)
  {C_NotHeld:Addr} (aC_NotHeld:PySem.W.nsIn K mainGlobals "NotHeld"=some (some (.ref C_NotHeld))) {q_NotHeld:Str}{N_NotHeld:Addr}{bs_NotHeld sub_NotHeld:List Value}{sn_NotHeld:List Str}{ab_NotHeld:Bool}{col_NotHeld:Option Bool}{k0_NotHeld k1_NotHeld k2_NotHeld k3_NotHeld k5_NotHeld:Option Value} (lC_NotHeld:K.lookup C_NotHeld=some (excClassObj "NotHeld" q_NotHeld C_NotHeld N_NotHeld bs_NotHeld (.ref C_GlueError::[.type "ValueError",.type "Exception",.type "BaseException",.type "object"]) true sn_NotHeld sub_NotHeld ab_NotHeld col_NotHeld none k0_NotHeld k1_NotHeld k2_NotHeld k3_NotHeld k5_NotHeld "ValueError.__new__")) (ga_NotHeld:PySem.W.findIn K (.ref C_NotHeld) "__getattribute__"=some (some (.builtin "BaseException.__getattribute__"))) (gh_NotHeld:PySem.W.findIn K (.ref C_NotHeld) "__getattr__"=some none) (sa_NotHeld:PySem.W.findIn K (.ref C_NotHeld) "__setattr__"=some (some (.builtin "object.__setattr__"))) (cl_NotHeld:PySem.W.findIn K (.ref C_NotHeld) "__class__"=some (some (.builtin "object.__class__"))) (kc_NotHeld:PySem.W.keepIn K (.ref C_NotHeld)=true)
  {fx_NotHeld:Addr}{xoc_NotHeld xkV_NotHeld xdc_NotHeld xpm_NotHeld xcd_NotHeld xct_NotHeld:Value}{xod_NotHeld xan_NotHeld:Option Addr}{xsl_NotHeld:Array (Option Value)} (xi_NotHeld:PySem.W.findIn K (.ref C_NotHeld) "__init__"=some (some (.ref fx_NotHeld))) (xt_NotHeld:PySem.W.typeIn K (.ref fx_NotHeld)=some (.type "function")) (xl_NotHeld:K.lookup fx_NotHeld=some ⟨xoc_NotHeld,xod_NotHeld,.func (PySem.W.fnOf "__init__" "NotHeld.__init__" (a5 bD) (aT bD) (ae bD) .none xkV_NotHeld xdc_NotHeld xpm_NotHeld xan_NotHeld xcd_NotHeld xct_NotHeld),xsl_NotHeld⟩) (xc0_NotHeld:PySem.W.codeIn K xcd_NotHeld "NotHeld.__init__"=true) (xk_NotHeld:PySem.W.keepIn K (.ref fx_NotHeld)=true) (xn_NotHeld:PySem.W.findIn K (.ref C_NotHeld) "at"=some none)
  {C_NoTable:Addr} (aC_NoTable:PySem.W.nsIn K mainGlobals "NoTable"=some (some (.ref C_NoTable))) {q_NoTable:Str}{N_NoTable:Addr}{bs_NoTable sub_NoTable:List Value}{sn_NoTable:List Str}{ab_NoTable:Bool}{col_NoTable:Option Bool}{k0_NoTable k1_NoTable k2_NoTable k3_NoTable k5_NoTable:Option Value} (lC_NoTable:K.lookup C_NoTable=some (excClassObj "NoTable" q_NoTable C_NoTable N_NoTable bs_NoTable (.ref C_GlueError::[.type "ValueError",.type "Exception",.type "BaseException",.type "object"]) true sn_NoTable sub_NoTable ab_NoTable col_NoTable none k0_NoTable k1_NoTable k2_NoTable k3_NoTable k5_NoTable "ValueError.__new__")) (ga_NoTable:PySem.W.findIn K (.ref C_NoTable) "__getattribute__"=some (some (.builtin "BaseException.__getattribute__"))) (gh_NoTable:PySem.W.findIn K (.ref C_NoTable) "__getattr__"=some none) (sa_NoTable:PySem.W.findIn K (.ref C_NoTable) "__setattr__"=some (some (.builtin "object.__setattr__"))) (cl_NoTable:PySem.W.findIn K (.ref C_NoTable) "__class__"=some (some (.builtin "object.__class__"))) (kc_NoTable:PySem.W.keepIn K (.ref C_NoTable)=true)
  (xq_NoTable:PySem.W.excIn K C_NoTable [.type "ValueError",.type "Exception",.type "BaseException",.type "object"] "ValueError.__new__"=true)
  {C_NoRing:Addr} (aC_NoRing:PySem.W.nsIn K mainGlobals "NoRing"=some (some (.ref C_NoRing))) {q_NoRing:Str}{N_NoRing:Addr}{bs_NoRing sub_NoRing:List Value}{sn_NoRing:List Str}{ab_NoRing:Bool}{col_NoRing:Option Bool}{k0_NoRing k1_NoRing k2_NoRing k3_NoRing k5_NoRing:Option Value} (lC_NoRing:K.lookup C_NoRing=some (excClassObj "NoRing" q_NoRing C_NoRing N_NoRing bs_NoRing (.ref C_GlueError::[.type "ValueError",.type "Exception",.type "BaseException",.type "object"]) true sn_NoRing sub_NoRing ab_NoRing col_NoRing none k0_NoRing k1_NoRing k2_NoRing k3_NoRing k5_NoRing "ValueError.__new__")) (ga_NoRing:PySem.W.findIn K (.ref C_NoRing) "__getattribute__"=some (some (.builtin "BaseException.__getattribute__"))) (gh_NoRing:PySem.W.findIn K (.ref C_NoRing) "__getattr__"=some none) (sa_NoRing:PySem.W.findIn K (.ref C_NoRing) "__setattr__"=some (some (.builtin "object.__setattr__"))) (cl_NoRing:PySem.W.findIn K (.ref C_NoRing) "__class__"=some (some (.builtin "object.__class__"))) (kc_NoRing:PySem.W.keepIn K (.ref C_NoRing)=true)
  (xq_NoRing:PySem.W.excIn K C_NoRing [.type "ValueError",.type "Exception",.type "BaseException",.type "object"] "ValueError.__new__"=true)
  {C_TooGreat:Addr} (aC_TooGreat:PySem.W.nsIn K mainGlobals "TooGreat"=some (some (.ref C_TooGreat))) {q_TooGreat:Str}{N_TooGreat:Addr}{bs_TooGreat sub_TooGreat:List Value}{sn_TooGreat:List Str}{ab_TooGreat:Bool}{col_TooGreat:Option Bool}{k0_TooGreat k1_TooGreat k2_TooGreat k3_TooGreat k5_TooGreat:Option Value} (lC_TooGreat:K.lookup C_TooGreat=some (excClassObj "TooGreat" q_TooGreat C_TooGreat N_TooGreat bs_TooGreat (.ref C_GlueError::[.type "ValueError",.type "Exception",.type "BaseException",.type "object"]) true sn_TooGreat sub_TooGreat ab_TooGreat col_TooGreat none k0_TooGreat k1_TooGreat k2_TooGreat k3_TooGreat k5_TooGreat "ValueError.__new__")) (ga_TooGreat:PySem.W.findIn K (.ref C_TooGreat) "__getattribute__"=some (some (.builtin "BaseException.__getattribute__"))) (gh_TooGreat:PySem.W.findIn K (.ref C_TooGreat) "__getattr__"=some none) (sa_TooGreat:PySem.W.findIn K (.ref C_TooGreat) "__setattr__"=some (some (.builtin "object.__setattr__"))) (cl_TooGreat:PySem.W.findIn K (.ref C_TooGreat) "__class__"=some (some (.builtin "object.__class__"))) (kc_TooGreat:PySem.W.keepIn K (.ref C_TooGreat)=true)
  {fx_TooGreat:Addr}{xoc_TooGreat xkV_TooGreat xdc_TooGreat xpm_TooGreat xcd_TooGreat xct_TooGreat:Value}{xod_TooGreat xan_TooGreat:Option Addr}{xsl_TooGreat:Array (Option Value)} (xi_TooGreat:PySem.W.findIn K (.ref C_TooGreat) "__init__"=some (some (.ref fx_TooGreat))) (xt_TooGreat:PySem.W.typeIn K (.ref fx_TooGreat)=some (.type "function")) (xl_TooGreat:K.lookup fx_TooGreat=some ⟨xoc_TooGreat,xod_TooGreat,.func (PySem.W.fnOf "__init__" "TooGreat.__init__" (a5 bv) (aT bv) (ae bv) .none xkV_TooGreat xdc_TooGreat xpm_TooGreat xan_TooGreat xcd_TooGreat xct_TooGreat),xsl_TooGreat⟩) (xc0_TooGreat:PySem.W.codeIn K xcd_TooGreat "TooGreat.__init__"=true) (xk_TooGreat:PySem.W.keepIn K (.ref fx_TooGreat)=true) (xn_TooGreat:PySem.W.findIn K (.ref C_TooGreat) "most"=some none)
  {C_NoWords:Addr} (aC_NoWords:PySem.W.nsIn K mainGlobals "NoWords"=some (some (.ref C_NoWords))) {q_NoWords:Str}{N_NoWords:Addr}{bs_NoWords sub_NoWords:List Value}{sn_NoWords:List Str}{ab_NoWords:Bool}{col_NoWords:Option Bool}{k0_NoWords k1_NoWords k2_NoWords k3_NoWords k5_NoWords:Option Value} (lC_NoWords:K.lookup C_NoWords=some (excClassObj "NoWords" q_NoWords C_NoWords N_NoWords bs_NoWords (.ref C_GlueError::[.type "ValueError",.type "Exception",.type "BaseException",.type "object"]) true sn_NoWords sub_NoWords ab_NoWords col_NoWords none k0_NoWords k1_NoWords k2_NoWords k3_NoWords k5_NoWords "ValueError.__new__")) (ga_NoWords:PySem.W.findIn K (.ref C_NoWords) "__getattribute__"=some (some (.builtin "BaseException.__getattribute__"))) (gh_NoWords:PySem.W.findIn K (.ref C_NoWords) "__getattr__"=some none) (sa_NoWords:PySem.W.findIn K (.ref C_NoWords) "__setattr__"=some (some (.builtin "object.__setattr__"))) (cl_NoWords:PySem.W.findIn K (.ref C_NoWords) "__class__"=some (some (.builtin "object.__class__"))) (kc_NoWords:PySem.W.keepIn K (.ref C_NoWords)=true)
  (xq_NoWords:PySem.W.excIn K C_NoWords [.type "ValueError",.type "Exception",.type "BaseException",.type "object"] "ValueError.__new__"=true)
  {C_NotApart:Addr} (aC_NotApart:PySem.W.nsIn K mainGlobals "NotApart"=some (some (.ref C_NotApart))) {q_NotApart:Str}{N_NotApart:Addr}{bs_NotApart sub_NotApart:List Value}{sn_NotApart:List Str}{ab_NotApart:Bool}{col_NotApart:Option Bool}{k0_NotApart k1_NotApart k2_NotApart k3_NotApart k5_NotApart:Option Value} (lC_NotApart:K.lookup C_NotApart=some (excClassObj "NotApart" q_NotApart C_NotApart N_NotApart bs_NotApart (.ref C_GlueError::[.type "ValueError",.type "Exception",.type "BaseException",.type "object"]) true sn_NotApart sub_NotApart ab_NotApart col_NotApart none k0_NotApart k1_NotApart k2_NotApart k3_NotApart k5_NotApart "ValueError.__new__")) (ga_NotApart:PySem.W.findIn K (.ref C_NotApart) "__getattribute__"=some (some (.builtin "BaseException.__getattribute__"))) (gh_NotApart:PySem.W.findIn K (.ref C_NotApart) "__getattr__"=some none) (sa_NotApart:PySem.W.findIn K (.ref C_NotApart) "__setattr__"=some (some (.builtin "object.__setattr__"))) (cl_NotApart:PySem.W.findIn K (.ref C_NotApart) "__class__"=some (some (.builtin "object.__class__"))) (kc_NotApart:PySem.W.keepIn K (.ref C_NotApart)=true)
  {fx_NotApart:Addr}{xoc_NotApart xkV_NotApart xdc_NotApart xpm_NotApart xcd_NotApart xct_NotApart:Value}{xod_NotApart xan_NotApart:Option Addr}{xsl_NotApart:Array (Option Value)} (xi_NotApart:PySem.W.findIn K (.ref C_NotApart) "__init__"=some (some (.ref fx_NotApart))) (xt_NotApart:PySem.W.typeIn K (.ref fx_NotApart)=some (.type "function")) (xl_NotApart:K.lookup fx_NotApart=some ⟨xoc_NotApart,xod_NotApart,.func (PySem.W.fnOf "__init__" "NotApart.__init__" (a5 bw) (aT bw) (ae bw) .none xkV_NotApart xdc_NotApart xpm_NotApart xan_NotApart xcd_NotApart xct_NotApart),xsl_NotApart⟩) (xc0_NotApart:PySem.W.codeIn K xcd_NotApart "NotApart.__init__"=true) (xk_NotApart:PySem.W.keepIn K (.ref fx_NotApart)=true) (xn_NotApart:PySem.W.findIn K (.ref C_NotApart) "at"=some none)
  {C_NoCounts:Addr} (aC_NoCounts:PySem.W.nsIn K mainGlobals "NoCounts"=some (some (.ref C_NoCounts))) {q_NoCounts:Str}{N_NoCounts:Addr}{bs_NoCounts sub_NoCounts:List Value}{sn_NoCounts:List Str}{ab_NoCounts:Bool}{col_NoCounts:Option Bool}{k0_NoCounts k1_NoCounts k2_NoCounts k3_NoCounts k5_NoCounts:Option Value} (lC_NoCounts:K.lookup C_NoCounts=some (excClassObj "NoCounts" q_NoCounts C_NoCounts N_NoCounts bs_NoCounts (.ref C_GlueError::[.type "ValueError",.type "Exception",.type "BaseException",.type "object"]) true sn_NoCounts sub_NoCounts ab_NoCounts col_NoCounts none k0_NoCounts k1_NoCounts k2_NoCounts k3_NoCounts k5_NoCounts "ValueError.__new__")) (ga_NoCounts:PySem.W.findIn K (.ref C_NoCounts) "__getattribute__"=some (some (.builtin "BaseException.__getattribute__"))) (gh_NoCounts:PySem.W.findIn K (.ref C_NoCounts) "__getattr__"=some none) (sa_NoCounts:PySem.W.findIn K (.ref C_NoCounts) "__setattr__"=some (some (.builtin "object.__setattr__"))) (cl_NoCounts:PySem.W.findIn K (.ref C_NoCounts) "__class__"=some (some (.builtin "object.__class__"))) (kc_NoCounts:PySem.W.keepIn K (.ref C_NoCounts)=true)
  {fx_NoCounts:Addr}{xoc_NoCounts xkV_NoCounts xdc_NoCounts xpm_NoCounts xcd_NoCounts xct_NoCounts:Value}{xod_NoCounts xan_NoCounts:Option Addr}{xsl_NoCounts:Array (Option Value)} (xi_NoCounts:PySem.W.findIn K (.ref C_NoCounts) "__init__"=some (some (.ref fx_NoCounts))) (xt_NoCounts:PySem.W.typeIn K (.ref fx_NoCounts)=some (.type "function")) (xl_NoCounts:K.lookup fx_NoCounts=some ⟨xoc_NoCounts,xod_NoCounts,.func (PySem.W.fnOf "__init__" "NoCounts.__init__" (a5 bx) (aT bx) (ae bx) .none xkV_NoCounts xdc_NoCounts xpm_NoCounts xan_NoCounts xcd_NoCounts xct_NoCounts),xsl_NoCounts⟩) (xc0_NoCounts:PySem.W.codeIn K xcd_NoCounts "NoCounts.__init__"=true) (xk_NoCounts:PySem.W.keepIn K (.ref fx_NoCounts)=true) (xn_NoCounts:PySem.W.findIn K (.ref C_NoCounts) "at"=some none)
  {C_NotCovered:Addr} (aC_NotCovered:PySem.W.nsIn K mainGlobals "NotCovered"=some (some (.ref C_NotCovered))) {q_NotCovered:Str}{N_NotCovered:Addr}{bs_NotCovered sub_NotCovered:List Value}{sn_NotCovered:List Str}{ab_NotCovered:Bool}{col_NotCovered:Option Bool}{k0_NotCovered k1_NotCovered k2_NotCovered k3_NotCovered k5_NotCovered:Option Value} (lC_NotCovered:K.lookup C_NotCovered=some (excClassObj "NotCovered" q_NotCovered C_NotCovered N_NotCovered bs_NotCovered (.ref C_GlueError::[.type "ValueError",.type "Exception",.type "BaseException",.type "object"]) true sn_NotCovered sub_NotCovered ab_NotCovered col_NotCovered none k0_NotCovered k1_NotCovered k2_NotCovered k3_NotCovered k5_NotCovered "ValueError.__new__")) (ga_NotCovered:PySem.W.findIn K (.ref C_NotCovered) "__getattribute__"=some (some (.builtin "BaseException.__getattribute__"))) (gh_NotCovered:PySem.W.findIn K (.ref C_NotCovered) "__getattr__"=some none) (sa_NotCovered:PySem.W.findIn K (.ref C_NotCovered) "__setattr__"=some (some (.builtin "object.__setattr__"))) (cl_NotCovered:PySem.W.findIn K (.ref C_NotCovered) "__class__"=some (some (.builtin "object.__class__"))) (kc_NotCovered:PySem.W.keepIn K (.ref C_NotCovered)=true)
  {fx_NotCovered:Addr}{xoc_NotCovered xkV_NotCovered xdc_NotCovered xpm_NotCovered xcd_NotCovered xct_NotCovered:Value}{xod_NotCovered xan_NotCovered:Option Addr}{xsl_NotCovered:Array (Option Value)} (xi_NotCovered:PySem.W.findIn K (.ref C_NotCovered) "__init__"=some (some (.ref fx_NotCovered))) (xt_NotCovered:PySem.W.typeIn K (.ref fx_NotCovered)=some (.type "function")) (xl_NotCovered:K.lookup fx_NotCovered=some ⟨xoc_NotCovered,xod_NotCovered,.func (PySem.W.fnOf "__init__" "NotCovered.__init__" (a5 bb) (aT bb) (ae bb) .none xkV_NotCovered xdc_NotCovered xpm_NotCovered xan_NotCovered xcd_NotCovered xct_NotCovered),xsl_NotCovered⟩) (xc0_NotCovered:PySem.W.codeIn K xcd_NotCovered "NotCovered.__init__"=true) (xk_NotCovered:PySem.W.keepIn K (.ref fx_NotCovered)=true) (xn_NotCovered:PySem.W.findIn K (.ref C_NotCovered) "at"=some none)
  {C_NoLine:Addr} (aC_NoLine:PySem.W.nsIn K mainGlobals "NoLine"=some (some (.ref C_NoLine))) {q_NoLine:Str}{N_NoLine:Addr}{bs_NoLine sub_NoLine:List Value}{sn_NoLine:List Str}{ab_NoLine:Bool}{col_NoLine:Option Bool}{k0_NoLine k1_NoLine k2_NoLine k3_NoLine k5_NoLine:Option Value} (lC_NoLine:K.lookup C_NoLine=some (excClassObj "NoLine" q_NoLine C_NoLine N_NoLine bs_NoLine (.ref C_GlueError::[.type "ValueError",.type "Exception",.type "BaseException",.type "object"]) true sn_NoLine sub_NoLine ab_NoLine col_NoLine none k0_NoLine k1_NoLine k2_NoLine k3_NoLine k5_NoLine "ValueError.__new__")) (ga_NoLine:PySem.W.findIn K (.ref C_NoLine) "__getattribute__"=some (some (.builtin "BaseException.__getattribute__"))) (gh_NoLine:PySem.W.findIn K (.ref C_NoLine) "__getattr__"=some none) (sa_NoLine:PySem.W.findIn K (.ref C_NoLine) "__setattr__"=some (some (.builtin "object.__setattr__"))) (cl_NoLine:PySem.W.findIn K (.ref C_NoLine) "__class__"=some (some (.builtin "object.__class__"))) (kc_NoLine:PySem.W.keepIn K (.ref C_NoLine)=true)
  {fx_NoLine:Addr}{xoc_NoLine xkV_NoLine xdc_NoLine xpm_NoLine xcd_NoLine xct_NoLine:Value}{xod_NoLine xan_NoLine:Option Addr}{xsl_NoLine:Array (Option Value)} (xi_NoLine:PySem.W.findIn K (.ref C_NoLine) "__init__"=some (some (.ref fx_NoLine))) (xt_NoLine:PySem.W.typeIn K (.ref fx_NoLine)=some (.type "function")) (xl_NoLine:K.lookup fx_NoLine=some ⟨xoc_NoLine,xod_NoLine,.func (PySem.W.fnOf "__init__" "NoLine.__init__" (a5 bN) (aT bN) (ae bN) .none xkV_NoLine xdc_NoLine xpm_NoLine xan_NoLine xcd_NoLine xct_NoLine),xsl_NoLine⟩) (xc0_NoLine:PySem.W.codeIn K xcd_NoLine "NoLine.__init__"=true) (xk_NoLine:PySem.W.keepIn K (.ref fx_NoLine)=true) (xn_NoLine:PySem.W.findIn K (.ref C_NoLine) "at"=some none)
  {C_NoPaper:Addr} (aC_NoPaper:PySem.W.nsIn K mainGlobals "NoPaper"=some (some (.ref C_NoPaper))) {q_NoPaper:Str}{N_NoPaper:Addr}{bs_NoPaper sub_NoPaper:List Value}{sn_NoPaper:List Str}{ab_NoPaper:Bool}{col_NoPaper:Option Bool}{k0_NoPaper k1_NoPaper k2_NoPaper k3_NoPaper k5_NoPaper:Option Value} (lC_NoPaper:K.lookup C_NoPaper=some (excClassObj "NoPaper" q_NoPaper C_NoPaper N_NoPaper bs_NoPaper (.ref C_GlueError::[.type "ValueError",.type "Exception",.type "BaseException",.type "object"]) true sn_NoPaper sub_NoPaper ab_NoPaper col_NoPaper none k0_NoPaper k1_NoPaper k2_NoPaper k3_NoPaper k5_NoPaper "ValueError.__new__")) (ga_NoPaper:PySem.W.findIn K (.ref C_NoPaper) "__getattribute__"=some (some (.builtin "BaseException.__getattribute__"))) (gh_NoPaper:PySem.W.findIn K (.ref C_NoPaper) "__getattr__"=some none) (sa_NoPaper:PySem.W.findIn K (.ref C_NoPaper) "__setattr__"=some (some (.builtin "object.__setattr__"))) (cl_NoPaper:PySem.W.findIn K (.ref C_NoPaper) "__class__"=some (some (.builtin "object.__class__"))) (kc_NoPaper:PySem.W.keepIn K (.ref C_NoPaper)=true)
  (xq_NoPaper:PySem.W.excIn K C_NoPaper [.type "ValueError",.type "Exception",.type "BaseException",.type "object"] "ValueError.__new__"=true)
  {C_NotTold:Addr} (aC_NotTold:PySem.W.nsIn K mainGlobals "NotTold"=some (some (.ref C_NotTold))) {q_NotTold:Str}{N_NotTold:Addr}{bs_NotTold sub_NotTold:List Value}{sn_NotTold:List Str}{ab_NotTold:Bool}{col_NotTold:Option Bool}{k0_NotTold k1_NotTold k2_NotTold k3_NotTold k5_NotTold:Option Value} (lC_NotTold:K.lookup C_NotTold=some (excClassObj "NotTold" q_NotTold C_NotTold N_NotTold bs_NotTold (.ref C_GlueError::[.type "ValueError",.type "Exception",.type "BaseException",.type "object"]) true sn_NotTold sub_NotTold ab_NotTold col_NotTold none k0_NotTold k1_NotTold k2_NotTold k3_NotTold k5_NotTold "ValueError.__new__")) (ga_NotTold:PySem.W.findIn K (.ref C_NotTold) "__getattribute__"=some (some (.builtin "BaseException.__getattribute__"))) (gh_NotTold:PySem.W.findIn K (.ref C_NotTold) "__getattr__"=some none) (sa_NotTold:PySem.W.findIn K (.ref C_NotTold) "__setattr__"=some (some (.builtin "object.__setattr__"))) (cl_NotTold:PySem.W.findIn K (.ref C_NotTold) "__class__"=some (some (.builtin "object.__class__"))) (kc_NotTold:PySem.W.keepIn K (.ref C_NotTold)=true)
  (xq_NotTold:PySem.W.excIn K C_NotTold [.type "ValueError",.type "Exception",.type "BaseException",.type "object"] "ValueError.__new__"=true)
  (d1:hX K "_law_mixed" dP)
  (d2:hX K "_law_next" eH)
  (d3:hX K "_law_spoiled" cS)
  (d4:hX K "_law_fits" eJ)
  (d5:hX K "_law_whole" dR)
  (d6:hX K "_law_kinds" dS)
  (d7:hX K "_law_due" fB)
  (d8:hX K "_law_deck" eG)
  (d9:hX K "_law_letters" cR)
  (d10:hX K "_law_signs" dQ)
  (d11:hX K "_law_is_just" cT)
  (d12:hX K "glued" jj)
  (d13:hX K "_law_pair" eI)
  (d14:hX K "_law_is_right" cD)
  (d15:hX K "_law_refused" cU)
  (d16:hX K "law" mQ)
  (z1:PySem.W.nsIn K mainGlobals "ValueError"=some none)
  (z2:PySem.W.nsIn K mainGlobals "bool"=some none)
  (z3:PySem.W.nsIn K mainGlobals "int"=some none)
  (z4:PySem.W.nsIn K mainGlobals "isinstance"=some none)
  (z5:PySem.W.nsIn K mainGlobals "len"=some none)
  (z6:PySem.W.nsIn K mainGlobals "list"=some none)
  (z7:PySem.W.nsIn K mainGlobals "min"=some none)
  (z8:PySem.W.nsIn K mainGlobals "range"=some none)
  (z9:PySem.W.nsIn K mainGlobals "reversed"=some none)
  (z10:PySem.W.nsIn K mainGlobals "str"=some none) :
  ∃fd:FuncData,(∀(s:Shared) (v:Value),BindsTo s fd ⟨[v],[]⟩ [("_law_script",v)])/\∀base:Heap,K.In base->base.Ns mainGlobals mg->iW l.prog w K mg base CX0 5 fa fd ["_law_script"] (kd K):=by
 have eC_GlueError:=a9 aC_GlueError;have tl_:=pJ xq_GlueError ⟨_,_,_,_,_,_,_,_,_,_,_,_,_,lC_GlueError⟩;have eC_TooMany:=a9 aC_TooMany;have xc_TooMany:XC K C_TooMany C_GlueError:=⟨⟨_,_,_,_,_,_,_,_,_,_,_,_,_,lC_TooMany⟩,ga_TooMany,gh_TooMany,sa_TooMany,cl_TooMany⟩
 have eC_NoPiece:=a9 aC_NoPiece;have xc_NoPiece:XC K C_NoPiece C_GlueError:=⟨⟨_,_,_,_,_,_,_,_,_,_,_,_,_,lC_NoPiece⟩,ga_NoPiece,gh_NoPiece,sa_NoPiece,cl_NoPiece⟩
 have eC_NoLap:=a9 aC_NoLap;have xc_NoLap:XC K C_NoLap C_GlueError:=⟨⟨_,_,_,_,_,_,_,_,_,_,_,_,_,lC_NoLap⟩,ga_NoLap,gh_NoLap,sa_NoLap,cl_NoLap⟩
 have eC_NoOrder:=a9 aC_NoOrder;have xc_NoOrder:XC K C_NoOrder C_GlueError:=⟨⟨_,_,_,_,_,_,_,_,_,_,_,_,_,lC_NoOrder⟩,ga_NoOrder,gh_NoOrder,sa_NoOrder,cl_NoOrder⟩
 have eC_NotHeld:=a9 aC_NotHeld;have xc_NotHeld:XC K C_NotHeld C_GlueError:=⟨⟨_,_,_,_,_,_,_,_,_,_,_,_,_,lC_NotHeld⟩,ga_NotHeld,gh_NotHeld,sa_NotHeld,cl_NotHeld⟩
 have eC_NoTable:=a9 aC_NoTable;have xc_NoTable:XC K C_NoTable C_GlueError:=⟨⟨_,_,_,_,_,_,_,_,_,_,_,_,_,lC_NoTable⟩,ga_NoTable,gh_NoTable,sa_NoTable,cl_NoTable⟩
 have eC_NoRing:=a9 aC_NoRing;have xc_NoRing:XC K C_NoRing C_GlueError:=⟨⟨_,_,_,_,_,_,_,_,_,_,_,_,_,lC_NoRing⟩,ga_NoRing,gh_NoRing,sa_NoRing,cl_NoRing⟩
 have eC_TooGreat:=a9 aC_TooGreat;have xc_TooGreat:XC K C_TooGreat C_GlueError:=⟨⟨_,_,_,_,_,_,_,_,_,_,_,_,_,lC_TooGreat⟩,ga_TooGreat,gh_TooGreat,sa_TooGreat,cl_TooGreat⟩
 have eC_NoWords:=a9 aC_NoWords;have xc_NoWords:XC K C_NoWords C_GlueError:=⟨⟨_,_,_,_,_,_,_,_,_,_,_,_,_,lC_NoWords⟩,ga_NoWords,gh_NoWords,sa_NoWords,cl_NoWords⟩
 have eC_NotApart:=a9 aC_NotApart;have xc_NotApart:XC K C_NotApart C_GlueError:=⟨⟨_,_,_,_,_,_,_,_,_,_,_,_,_,lC_NotApart⟩,ga_NotApart,gh_NotApart,sa_NotApart,cl_NotApart⟩
 have eC_NoCounts:=a9 aC_NoCounts;have xc_NoCounts:XC K C_NoCounts C_GlueError:=⟨⟨_,_,_,_,_,_,_,_,_,_,_,_,_,lC_NoCounts⟩,ga_NoCounts,gh_NoCounts,sa_NoCounts,cl_NoCounts⟩
 have eC_NotCovered:=a9 aC_NotCovered;have xc_NotCovered:XC K C_NotCovered C_GlueError:=⟨⟨_,_,_,_,_,_,_,_,_,_,_,_,_,lC_NotCovered⟩,ga_NotCovered,gh_NotCovered,sa_NotCovered,cl_NotCovered⟩
 have eC_NoLine:=a9 aC_NoLine;have xc_NoLine:XC K C_NoLine C_GlueError:=⟨⟨_,_,_,_,_,_,_,_,_,_,_,_,_,lC_NoLine⟩,ga_NoLine,gh_NoLine,sa_NoLine,cl_NoLine⟩
 have eC_NoPaper:=a9 aC_NoPaper;have xc_NoPaper:XC K C_NoPaper C_GlueError:=⟨⟨_,_,_,_,_,_,_,_,_,_,_,_,_,lC_NoPaper⟩,ga_NoPaper,gh_NoPaper,sa_NoPaper,cl_NoPaper⟩
 have eC_NotTold:=a9 aC_NotTold;have xc_NotTold:XC K C_NotTold C_GlueError:=⟨⟨_,_,_,_,_,_,_,_,_,_,_,_,_,lC_NotTold⟩,ga_NotTold,gh_NotTold,sa_NotTold,cl_NotTold⟩
 have TX:TxX K mg:=⟨⟨by rw [XCl,eC_GlueError];exact⟨_,_,_,lC_GlueError,rfl⟩,fun c hc=>by
  simp only [xcs,mem_cons,not_mem_nil,or_false] at hc
  rcases hc with rfl|rfl|rfl|rfl|rfl|rfl|rfl|rfl|rfl|rfl|rfl|rfl|rfl|rfl|rfl
  .rw [XCl,eC_TooMany];exact⟨_,_,_,lC_TooMany,rfl⟩
  .rw [XCl,eC_NoPiece];exact⟨_,_,_,lC_NoPiece,rfl⟩
  .rw [XCl,eC_NoLap];exact⟨_,_,_,lC_NoLap,rfl⟩
  .rw [XCl,eC_NoOrder];exact⟨_,_,_,lC_NoOrder,rfl⟩
  .rw [XCl,eC_NotHeld];exact⟨_,_,_,lC_NotHeld,rfl⟩
  .rw [XCl,eC_NoTable];exact⟨_,_,_,lC_NoTable,rfl⟩
  .rw [XCl,eC_NoRing];exact⟨_,_,_,lC_NoRing,rfl⟩
  .rw [XCl,eC_TooGreat];exact⟨_,_,_,lC_TooGreat,rfl⟩
  .rw [XCl,eC_NoWords];exact⟨_,_,_,lC_NoWords,rfl⟩
  .rw [XCl,eC_NotApart];exact⟨_,_,_,lC_NotApart,rfl⟩
  .rw [XCl,eC_NoCounts];exact⟨_,_,_,lC_NoCounts,rfl⟩
  .rw [XCl,eC_NotCovered];exact⟨_,_,_,lC_NotCovered,rfl⟩
  .rw [XCl,eC_NoLine];exact⟨_,_,_,lC_NoLine,rfl⟩
  .rw [XCl,eC_NoPaper];exact⟨_,_,_,lC_NoPaper,rfl⟩
  .rw [XCl,eC_NotTold];exact⟨_,_,_,lC_NotTold,rfl⟩,fun c hc=>by
  simp only [xcs,mem_cons,not_mem_nil,or_false] at hc
  rcases hc with rfl|rfl|rfl|rfl|rfl|rfl|rfl|rfl|rfl|rfl|rfl|rfl|rfl|rfl|rfl
  .rw [eC_TooMany,eC_GlueError];exact xc_TooMany
  .rw [eC_NoPiece,eC_GlueError];exact xc_NoPiece
  .rw [eC_NoLap,eC_GlueError];exact xc_NoLap
  .rw [eC_NoOrder,eC_GlueError];exact xc_NoOrder
  .rw [eC_NotHeld,eC_GlueError];exact xc_NotHeld
  .rw [eC_NoTable,eC_GlueError];exact xc_NoTable
  .rw [eC_NoRing,eC_GlueError];exact xc_NoRing
  .rw [eC_TooGreat,eC_GlueError];exact xc_TooGreat
  .rw [eC_NoWords,eC_GlueError];exact xc_NoWords
  .rw [eC_NotApart,eC_GlueError];exact xc_NotApart
  .rw [eC_NoCounts,eC_GlueError];exact xc_NoCounts
  .rw [eC_NotCovered,eC_GlueError];exact xc_NotCovered
  .rw [eC_NoLine,eC_GlueError];exact xc_NoLine
  .rw [eC_NoPaper,eC_GlueError];exact xc_NoPaper
  .rw [eC_NotTold,eC_GlueError];exact xc_NotTold⟩,fun c g hc=>by
  simp only [sB,mem_cons,not_mem_nil,or_false,Prod.mk.injEq] at hc
  rcases hc with ⟨rfl,rfl⟩|⟨rfl,rfl⟩|⟨rfl,rfl⟩|⟨rfl,rfl⟩|⟨rfl,rfl⟩|⟨rfl,rfl⟩|⟨rfl,rfl⟩|⟨rfl,rfl⟩|⟨rfl,rfl⟩
  .rw [eC_TooMany];exact xn_TooMany
  .rw [eC_NoPiece];exact xn_NoPiece
  .rw [eC_NoLap];exact xn_NoLap
  .rw [eC_NotHeld];exact xn_NotHeld
  .rw [eC_TooGreat];exact xn_TooGreat
  .rw [eC_NotApart];exact xn_NotApart
  .rw [eC_NoCounts];exact xn_NoCounts
  .rw [eC_NotCovered];exact xn_NotCovered
  .rw [eC_NoLine];exact xn_NoLine,by rw [eC_TooMany];exact PySem.W.mg_of X G aC_TooMany,by rw [eC_NoPiece];exact PySem.W.mg_of X G aC_NoPiece,by rw [eC_NoLap];exact PySem.W.mg_of X G aC_NoLap,by rw [eC_NoOrder];exact PySem.W.mg_of X G aC_NoOrder,by rw [eC_NotHeld];exact PySem.W.mg_of X G aC_NotHeld,by rw [eC_NoTable];exact PySem.W.mg_of X G aC_NoTable,by rw [eC_NoRing];exact PySem.W.mg_of X G aC_NoRing,by rw [eC_TooGreat];exact PySem.W.mg_of X G aC_TooGreat,by rw [eC_NoWords];exact PySem.W.mg_of X G aC_NoWords,by rw [eC_NotApart];exact PySem.W.mg_of X G aC_NotApart,by rw [eC_NoCounts];exact PySem.W.mg_of X G aC_NoCounts,by rw [eC_NotCovered];exact PySem.W.mg_of X G aC_NotCovered,by rw [eC_NoLine];exact PySem.W.mg_of X G aC_NoLine,by rw [eC_NoPaper];exact PySem.W.mg_of X G aC_NoPaper,by rw [eC_NotTold];exact PySem.W.mg_of X G aC_NotTold,by rw [eC_GlueError];exact PySem.W.mg_of X G aC_GlueError,by rw [eC_TooMany];exact⟨_,_,_,_,_,_,_,_,_,_,_,_,_,_,_,_,_,lC_TooMany,rfl⟩,by rw [eC_NoPiece];exact⟨_,_,_,_,_,_,_,_,_,_,_,_,_,_,_,_,_,lC_NoPiece,rfl⟩,by rw [eC_NoLap];exact⟨_,_,_,_,_,_,_,_,_,_,_,_,_,_,_,_,_,lC_NoLap,rfl⟩,by rw [eC_NoOrder];exact⟨_,_,_,_,_,_,_,_,_,_,_,_,_,_,_,_,_,lC_NoOrder,rfl⟩,by rw [eC_NotHeld];exact⟨_,_,_,_,_,_,_,_,_,_,_,_,_,_,_,_,_,lC_NotHeld,rfl⟩,by rw [eC_NoTable];exact⟨_,_,_,_,_,_,_,_,_,_,_,_,_,_,_,_,_,lC_NoTable,rfl⟩,by rw [eC_NoRing];exact⟨_,_,_,_,_,_,_,_,_,_,_,_,_,_,_,_,_,lC_NoRing,rfl⟩,by rw [eC_TooGreat];exact⟨_,_,_,_,_,_,_,_,_,_,_,_,_,_,_,_,_,lC_TooGreat,rfl⟩,by rw [eC_NoWords];exact⟨_,_,_,_,_,_,_,_,_,_,_,_,_,_,_,_,_,lC_NoWords,rfl⟩,by rw [eC_NotApart];exact⟨_,_,_,_,_,_,_,_,_,_,_,_,_,_,_,_,_,lC_NotApart,rfl⟩,by rw [eC_NoCounts];exact⟨_,_,_,_,_,_,_,_,_,_,_,_,_,_,_,_,_,lC_NoCounts,rfl⟩,by rw [eC_NotCovered];exact⟨_,_,_,_,_,_,_,_,_,_,_,_,_,_,_,_,_,lC_NotCovered,rfl⟩,by rw [eC_NoLine];exact⟨_,_,_,_,_,_,_,_,_,_,_,_,_,_,_,_,_,lC_NoLine,rfl⟩,by rw [eC_NoPaper];exact⟨_,_,_,_,_,_,_,_,_,_,_,_,_,_,_,_,_,lC_NoPaper,rfl⟩,by rw [eC_NotTold];exact⟨_,_,_,_,_,_,_,_,_,_,_,_,_,_,_,_,_,lC_NotTold,rfl⟩,by rw [eC_GlueError];exact⟨_,_,_,_,_,_,_,_,_,_,_,_,_,_,_,_,_,lC_GlueError,rfl⟩,by rw [eC_NoOrder];exact jg xq_NoOrder,by rw [eC_NoOrder];exact kc_NoOrder,by rw [eC_NoTable];exact jg xq_NoTable,by rw [eC_NoTable];exact kc_NoTable,by rw [eC_NoRing];exact jg xq_NoRing,by rw [eC_NoRing];exact kc_NoRing,by rw [eC_NoWords];exact jg xq_NoWords,by rw [eC_NoWords];exact kc_NoWords,by rw [eC_NoPaper];exact jg xq_NoPaper,by rw [eC_NoPaper];exact kc_NoPaper,by rw [eC_NotTold];exact jg xq_NotTold,by rw [eC_NotTold];exact kc_NotTold⟩
 have D_law_mixed:=b9 d1 X G;have D_law_next:=b9 d2 X G;have D_law_spoiled:=b9 d3 X G;have D_law_fits:=b9 d4 X G;have D_law_whole:=b9 d5 X G;have D_law_kinds:=b9 d6 X G;have D_law_due:=b9 d7 X G;have D_law_deck:=b9 d8 X G;have D_law_letters:=b9 d9 X G;have D_law_signs:=b9 d10 X G;have D_law_is_just:=b9 d11 X G;have D_glued:=b9 d12 X G;have D_law_pair:=b9 d13 X G;have D_law_is_right:=b9 d14 X G;have D_law_refused:=b9 d15 X G
 have D_law:=b9 d16 X G;have T:Txt mg:=⟨PySem.W.mg_none_of X G z1,PySem.W.mg_none_of X G z2,PySem.W.mg_none_of X G z3,PySem.W.mg_none_of X G z4,PySem.W.mg_none_of X G z5,PySem.W.mg_none_of X G z6,PySem.W.mg_none_of X G z7,PySem.W.mg_none_of X G z8,PySem.W.mg_none_of X G z9,PySem.W.mg_none_of X G z10⟩
 refine rd (st:=mQ) hfa D_law (fun _ _ _ _ _ _ s v=>.of_eq rfl) fun base=>?_
 have C_TooMany_init:kl l.prog w K mg base 1 (ax K "TooMany") "TooMany" "most":=by
  rw [eC_TooMany];exact cQ (dy (st:=bB) xl_TooMany xc0_TooMany xk_TooMany) fF rfl (fun _ _ _ _ _ _ us hl=>match us,hl with|[_,_],_=>rfl) (fun cdv A outer s H E=>aq (cg K rfl (pv 0) (pv 1) rfl)) ⟨xc_TooMany,tl_,xi_TooMany,xt_TooMany,kc_TooMany⟩ xn_TooMany (PySem.W.mg_of X G aC_TooMany)
 have C_NoPiece_init:kl l.prog w K mg base 1 (ax K "NoPiece") "NoPiece" "at":=by
  rw [eC_NoPiece];exact cQ (dy (st:=bC) xl_NoPiece xc0_NoPiece xk_NoPiece) fG rfl (fun _ _ _ _ _ _ us hl=>match us,hl with|[_,_],_=>rfl) (fun cdv A outer s H E=>aq (cg K rfl (pv 0) (pv 1) rfl)) ⟨xc_NoPiece,tl_,xi_NoPiece,xt_NoPiece,kc_NoPiece⟩ xn_NoPiece (PySem.W.mg_of X G aC_NoPiece)
 have C_NoLap_init:kl l.prog w K mg base 1 (ax K "NoLap") "NoLap" "k":=by
  rw [eC_NoLap];exact cQ (dy (st:=b5) xl_NoLap xc0_NoLap xk_NoLap) gX rfl (fun _ _ _ _ _ _ us hl=>match us,hl with|[_,_],_=>rfl) (fun cdv A outer s H E=>aq (cg K rfl (pv 0) (pv 1) rfl)) ⟨xc_NoLap,tl_,xi_NoLap,xt_NoLap,kc_NoLap⟩ xn_NoLap (PySem.W.mg_of X G aC_NoLap)
 have C_NotHeld_init:kl l.prog w K mg base 1 (ax K "NotHeld") "NotHeld" "at":=by
  rw [eC_NotHeld];exact cQ (dy (st:=bD) xl_NotHeld xc0_NotHeld xk_NotHeld) fH rfl (fun _ _ _ _ _ _ us hl=>match us,hl with|[_,_],_=>rfl) (fun cdv A outer s H E=>aq (cg K rfl (pv 0) (pv 1) rfl)) ⟨xc_NotHeld,tl_,xi_NotHeld,xt_NotHeld,kc_NotHeld⟩ xn_NotHeld (PySem.W.mg_of X G aC_NotHeld)
 have C_TooGreat_init:kl l.prog w K mg base 1 (ax K "TooGreat") "TooGreat" "most":=by
  rw [eC_TooGreat];exact cQ (dy (st:=bv) xl_TooGreat xc0_TooGreat xk_TooGreat) e7 rfl (fun _ _ _ _ _ _ us hl=>match us,hl with|[_,_],_=>rfl) (fun cdv A outer s H E=>aq (cg K rfl (pv 0) (pv 1) rfl)) ⟨xc_TooGreat,tl_,xi_TooGreat,xt_TooGreat,kc_TooGreat⟩ xn_TooGreat (PySem.W.mg_of X G aC_TooGreat)
 have C_NotApart_init:kl l.prog w K mg base 1 (ax K "NotApart") "NotApart" "at":=by
  rw [eC_NotApart];exact cQ (dy (st:=bw) xl_NotApart xc0_NotApart xk_NotApart) e8 rfl (fun _ _ _ _ _ _ us hl=>match us,hl with|[_,_],_=>rfl) (fun cdv A outer s H E=>aq (cg K rfl (pv 0) (pv 1) rfl)) ⟨xc_NotApart,tl_,xi_NotApart,xt_NotApart,kc_NotApart⟩ xn_NotApart (PySem.W.mg_of X G aC_NotApart)
 have C_NoCounts_init:kl l.prog w K mg base 1 (ax K "NoCounts") "NoCounts" "at":=by
  rw [eC_NoCounts];exact cQ (dy (st:=bx) xl_NoCounts xc0_NoCounts xk_NoCounts) e9 rfl (fun _ _ _ _ _ _ us hl=>match us,hl with|[_,_],_=>rfl) (fun cdv A outer s H E=>aq (cg K rfl (pv 0) (pv 1) rfl)) ⟨xc_NoCounts,tl_,xi_NoCounts,xt_NoCounts,kc_NoCounts⟩ xn_NoCounts (PySem.W.mg_of X G aC_NoCounts)
 have C_NotCovered_init:kl l.prog w K mg base 1 (ax K "NotCovered") "NotCovered" "at":=by
  rw [eC_NotCovered];exact cQ (dy (st:=bb) xl_NotCovered xc0_NotCovered xk_NotCovered) et rfl (fun _ _ _ _ _ _ us hl=>match us,hl with|[_,_],_=>rfl) (fun cdv A outer s H E=>aq (cg K rfl (pv 0) (pv 1) rfl)) ⟨xc_NotCovered,tl_,xi_NotCovered,xt_NotCovered,kc_NotCovered⟩ xn_NotCovered (PySem.W.mg_of X G aC_NotCovered)
 have C_NoLine_init:kl l.prog w K mg base 1 (ax K "NoLine") "NoLine" "at":=by
  rw [eC_NoLine];exact cQ (dy (st:=bN) xl_NoLine xc0_NoLine xk_NoLine) fZ rfl (fun _ _ _ _ _ _ us hl=>match us,hl with|[_,_],_=>rfl) (fun cdv A outer s H E=>aq (cg K rfl (pv 0) (pv 1) rfl)) ⟨xc_NoLine,tl_,xi_NoLine,xt_NoLine,kc_NoLine⟩ xn_NoLine (PySem.W.mg_of X G aC_NoLine)
 have C_law_mixed:=iO (P:=l.prog) (w:=w) (base:=base) D_law_mixed T TX;have C_law_next:=jr (P:=l.prog) (w:=w) (base:=base) D_law_next T TX;have C_law_spoiled:=gg (P:=l.prog) (w:=w) (base:=base) D_law_spoiled T TX;have C_law_fits:=jt (P:=l.prog) (w:=w) (base:=base) D_law_fits T TX;have C_law_whole:=iQ (P:=l.prog) (w:=w) (base:=base) D_law_whole T TX;have C_law_kinds:=iR (P:=l.prog) (w:=w) (base:=base) D_law_kinds T TX
 have C_law_due:=kn (P:=l.prog) (w:=w) (base:=base) D_law_due T TX;have C_law_deck:=jq (P:=l.prog) (w:=w) (base:=base) D_law_deck T TX C_law_mixed;have C_law_letters:=gc (P:=l.prog) (w:=w) (base:=base) D_law_letters T TX C_law_next;have C_law_signs:=iP (P:=l.prog) (w:=w) (base:=base) D_law_signs T TX C_law_next;have C_law_is_just:=gi (P:=l.prog) (w:=w) (base:=base) D_law_is_just T TX C_law_kinds;have C_glued:=mU (P:=l.prog) (w:=w) (base:=base) D_glued T TX C_NoLap_init
 have C_law_pair:=js (P:=l.prog) (w:=w) (base:=base) D_law_pair T TX C_law_letters C_law_next C_law_signs C_law_spoiled;have C_law_is_right:=fW (P:=l.prog) (w:=w) (base:=base) D_law_is_right T TX C_law_is_just C_law_whole;have C_law_refused:=gj (P:=l.prog) (w:=w) (base:=base) D_law_refused T TX C_law_is_right C_glued;exact (sg (P:=l.prog) (w:=w) (base:=base) D_law T TX C_law_deck C_law_due C_law_fits C_law_next C_law_pair C_law_refused C_glued).imp fun _ _ _ _ h=>oY h
end K08

open PySem PySem.W PyProof.Rows
local macro_rules | `(tactic| walk_at "fn") => `(tactic| (refine' L2.r8 ?a ?l ?c ?k; (case a => k_is); (case l => k_is); (case c => k_is); (case k => k_is)))
set_option maxRecDepth 100000 in
set_option maxHeartbeats 0 in
theorem PySem.Challenge.cw_shortglue_k08_glued_holds : PySem.Challenge.rw_shortglue_k08_glued.Holds := by
  refine topHd ?_
  k_fill
  refine L2.re (l := PySem.Challenge.rw_shortglue_k08_glued) (k := 5) (x := "_law_script") rfl rfl ⟨rfl, by decide, by decide⟩ (fun w h Y => PySem.W.kIn_of Y) ?F
  case F =>
    intro w mg fa h KX G hmg
    refine' K08.sh KX G hmg ?aC_GlueError ?lC_GlueError ?xq_GlueError ?aC_TooMany ?lC_TooMany ?ga_TooMany ?gh_TooMany ?sa_TooMany ?cl_TooMany ?kc_TooMany ?xi_TooMany ?xt_TooMany ?xl_TooMany ?xc0_TooMany ?xk_TooMany ?xn_TooMany ?aC_NoPiece ?lC_NoPiece ?ga_NoPiece ?gh_NoPiece ?sa_NoPiece ?cl_NoPiece ?kc_NoPiece ?xi_NoPiece ?xt_NoPiece ?xl_NoPiece ?xc0_NoPiece ?xk_NoPiece ?xn_NoPiece ?aC_NoLap ?lC_NoLap ?ga_NoLap ?gh_NoLap ?sa_NoLap ?cl_NoLap ?kc_NoLap ?xi_NoLap ?xt_NoLap ?xl_NoLap ?xc0_NoLap ?xk_NoLap ?xn_NoLap ?aC_NoOrder ?lC_NoOrder ?ga_NoOrder ?gh_NoOrder ?sa_NoOrder ?cl_NoOrder ?kc_NoOrder ?xq_NoOrder ?aC_NotHeld ?lC_NotHeld ?ga_NotHeld ?gh_NotHeld ?sa_NotHeld ?cl_NotHeld ?kc_NotHeld ?xi_NotHeld ?xt_NotHeld ?xl_NotHeld ?xc0_NotHeld ?xk_NotHeld ?xn_NotHeld ?aC_NoTable ?lC_NoTable ?ga_NoTable ?gh_NoTable ?sa_NoTable ?cl_NoTable ?kc_NoTable ?xq_NoTable ?aC_NoRing ?lC_NoRing ?ga_NoRing ?gh_NoRing ?sa_NoRing ?cl_NoRing ?kc_NoRing ?xq_NoRing ?aC_TooGreat ?lC_TooGreat ?ga_TooGreat ?gh_TooGreat ?sa_TooGreat ?cl_TooGreat ?kc_TooGreat ?xi_TooGreat ?xt_TooGreat ?xl_TooGreat ?xc0_TooGreat ?xk_TooGreat ?xn_TooGreat ?aC_NoWords ?lC_NoWords ?ga_NoWords ?gh_NoWords ?sa_NoWords ?cl_NoWords ?kc_NoWords ?xq_NoWords ?aC_NotApart ?lC_NotApart ?ga_NotApart ?gh_NotApart ?sa_NotApart ?cl_NotApart ?kc_NotApart ?xi_NotApart ?xt_NotApart ?xl_NotApart ?xc0_NotApart ?xk_NotApart ?xn_NotApart ?aC_NoCounts ?lC_NoCounts ?ga_NoCounts ?gh_NoCounts ?sa_NoCounts ?cl_NoCounts ?kc_NoCounts ?xi_NoCounts ?xt_NoCounts ?xl_NoCounts ?xc0_NoCounts ?xk_NoCounts ?xn_NoCounts ?aC_NotCovered ?lC_NotCovered ?ga_NotCovered ?gh_NotCovered ?sa_NotCovered ?cl_NotCovered ?kc_NotCovered ?xi_NotCovered ?xt_NotCovered ?xl_NotCovered ?xc0_NotCovered ?xk_NotCovered ?xn_NotCovered ?aC_NoLine ?lC_NoLine ?ga_NoLine ?gh_NoLine ?sa_NoLine ?cl_NoLine ?kc_NoLine ?xi_NoLine ?xt_NoLine ?xl_NoLine ?xc0_NoLine ?xk_NoLine ?xn_NoLine ?aC_NoPaper ?lC_NoPaper ?ga_NoPaper ?gh_NoPaper ?sa_NoPaper ?cl_NoPaper ?kc_NoPaper ?xq_NoPaper ?aC_NotTold ?lC_NotTold ?ga_NotTold ?gh_NotTold ?sa_NotTold ?cl_NotTold ?kc_NotTold ?xq_NotTold ?d1 ?d2 ?d3 ?d4 ?d5 ?d6 ?d7 ?d8 ?d9 ?d10 ?d11 ?d12 ?d13 ?d14 ?d15 ?d16 ?z1 ?z2 ?z3 ?z4 ?z5 ?z6 ?z7 ?z8 ?z9 ?z10
    (case aC_GlueError => k_is)
    (case lC_GlueError => k_is)
    (case xq_GlueError => k_exc)
    (case aC_TooMany => k_is)
    (case lC_TooMany => k_is)
    (case ga_TooMany => k_is)
    (case gh_TooMany => k_is)
    (case sa_TooMany => k_is)
    (case cl_TooMany => k_is)
    (case kc_TooMany => k_is)
    (case xi_TooMany => k_is)
    (case xt_TooMany => k_is)
    (case xl_TooMany => k_is)
    (case xc0_TooMany => k_is)
    (case xk_TooMany => k_is)
    (case xn_TooMany => k_is)
    (case aC_NoPiece => k_is)
    (case lC_NoPiece => k_is)
    (case ga_NoPiece => k_is)
    (case gh_NoPiece => k_is)
    (case sa_NoPiece => k_is)
    (case cl_NoPiece => k_is)
    (case kc_NoPiece => k_is)
    (case xi_NoPiece => k_is)
    (case xt_NoPiece => k_is)
    (case xl_NoPiece => k_is)
    (case xc0_NoPiece => k_is)
    (case xk_NoPiece => k_is)
    (case xn_NoPiece => k_is)
    (case aC_NoLap => k_is)
    (case lC_NoLap => k_is)
    (case ga_NoLap => k_is)
    (case gh_NoLap => k_is)
    (case sa_NoLap => k_is)
    (case cl_NoLap => k_is)
    (case kc_NoLap => k_is)
    (case xi_NoLap => k_is)
    (case xt_NoLap => k_is)
    (case xl_NoLap => k_is)
    (case xc0_NoLap => k_is)
    (case xk_NoLap => k_is)
    (case xn_NoLap => k_is)
    (case aC_NoOrder => k_is)
    (case lC_NoOrder => k_is)
    (case ga_NoOrder => k_is)
    (case gh_NoOrder => k_is)
    (case sa_NoOrder => k_is)
    (case cl_NoOrder => k_is)
    (case kc_NoOrder => k_is)
    (case xq_NoOrder => k_exc)
    (case aC_NotHeld => k_is)
    (case lC_NotHeld => k_is)
    (case ga_NotHeld => k_is)
    (case gh_NotHeld => k_is)
    (case sa_NotHeld => k_is)
    (case cl_NotHeld => k_is)
    (case kc_NotHeld => k_is)
    (case xi_NotHeld => k_is)
    (case xt_NotHeld => k_is)
    (case xl_NotHeld => k_is)
    (case xc0_NotHeld => k_is)
    (case xk_NotHeld => k_is)
    (case xn_NotHeld => k_is)
    (case aC_NoTable => k_is)
    (case lC_NoTable => k_is)
    (case ga_NoTable => k_is)
    (case gh_NoTable => k_is)
    (case sa_NoTable => k_is)
    (case cl_NoTable => k_is)
    (case kc_NoTable => k_is)
    (case xq_NoTable => k_exc)
    (case aC_NoRing => k_is)
    (case lC_NoRing => k_is)
    (case ga_NoRing => k_is)
    (case gh_NoRing => k_is)
    (case sa_NoRing => k_is)
    (case cl_NoRing => k_is)
    (case kc_NoRing => k_is)
    (case xq_NoRing => k_exc)
    (case aC_TooGreat => k_is)
    (case lC_TooGreat => k_is)
    (case ga_TooGreat => k_is)
    (case gh_TooGreat => k_is)
    (case sa_TooGreat => k_is)
    (case cl_TooGreat => k_is)
    (case kc_TooGreat => k_is)
    (case xi_TooGreat => k_is)
    (case xt_TooGreat => k_is)
    (case xl_TooGreat => k_is)
    (case xc0_TooGreat => k_is)
    (case xk_TooGreat => k_is)
    (case xn_TooGreat => k_is)
    (case aC_NoWords => k_is)
    (case lC_NoWords => k_is)
    (case ga_NoWords => k_is)
    (case gh_NoWords => k_is)
    (case sa_NoWords => k_is)
    (case cl_NoWords => k_is)
    (case kc_NoWords => k_is)
    (case xq_NoWords => k_exc)
    (case aC_NotApart => k_is)
    (case lC_NotApart => k_is)
    (case ga_NotApart => k_is)
    (case gh_NotApart => k_is)
    (case sa_NotApart => k_is)
    (case cl_NotApart => k_is)
    (case kc_NotApart => k_is)
    (case xi_NotApart => k_is)
    (case xt_NotApart => k_is)
    (case xl_NotApart => k_is)
    (case xc0_NotApart => k_is)
    (case xk_NotApart => k_is)
    (case xn_NotApart => k_is)
    (case aC_NoCounts => k_is)
    (case lC_NoCounts => k_is)
    (case ga_NoCounts => k_is)
    (case gh_NoCounts => k_is)
    (case sa_NoCounts => k_is)
    (case cl_NoCounts => k_is)
    (case kc_NoCounts => k_is)
    (case xi_NoCounts => k_is)
    (case xt_NoCounts => k_is)
    (case xl_NoCounts => k_is)
    (case xc0_NoCounts => k_is)
    (case xk_NoCounts => k_is)
    (case xn_NoCounts => k_is)
    (case aC_NotCovered => k_is)
    (case lC_NotCovered => k_is)
    (case ga_NotCovered => k_is)
    (case gh_NotCovered => k_is)
    (case sa_NotCovered => k_is)
    (case cl_NotCovered => k_is)
    (case kc_NotCovered => k_is)
    (case xi_NotCovered => k_is)
    (case xt_NotCovered => k_is)
    (case xl_NotCovered => k_is)
    (case xc0_NotCovered => k_is)
    (case xk_NotCovered => k_is)
    (case xn_NotCovered => k_is)
    (case aC_NoLine => k_is)
    (case lC_NoLine => k_is)
    (case ga_NoLine => k_is)
    (case gh_NoLine => k_is)
    (case sa_NoLine => k_is)
    (case cl_NoLine => k_is)
    (case kc_NoLine => k_is)
    (case xi_NoLine => k_is)
    (case xt_NoLine => k_is)
    (case xl_NoLine => k_is)
    (case xc0_NoLine => k_is)
    (case xk_NoLine => k_is)
    (case xn_NoLine => k_is)
    (case aC_NoPaper => k_is)
    (case lC_NoPaper => k_is)
    (case ga_NoPaper => k_is)
    (case gh_NoPaper => k_is)
    (case sa_NoPaper => k_is)
    (case cl_NoPaper => k_is)
    (case kc_NoPaper => k_is)
    (case xq_NoPaper => k_exc)
    (case aC_NotTold => k_is)
    (case lC_NotTold => k_is)
    (case ga_NotTold => k_is)
    (case gh_NotTold => k_is)
    (case sa_NotTold => k_is)
    (case cl_NotTold => k_is)
    (case kc_NotTold => k_is)
    (case xq_NotTold => k_exc)
    (case d1 => walk_at "fn")
    (case d2 => walk_at "fn")
    (case d3 => walk_at "fn")
    (case d4 => walk_at "fn")
    (case d5 => walk_at "fn")
    (case d6 => walk_at "fn")
    (case d7 => walk_at "fn")
    (case d8 => walk_at "fn")
    (case d9 => walk_at "fn")
    (case d10 => walk_at "fn")
    (case d11 => walk_at "fn")
    (case d12 => walk_at "fn")
    (case d13 => walk_at "fn")
    (case d14 => walk_at "fn")
    (case d15 => walk_at "fn")
    (case d16 => walk_at "fn")
    (case z1 => k_is)
    (case z2 => k_is)
    (case z3 => k_is)
    (case z4 => k_is)
    (case z5 => k_is)
    (case z6 => k_is)
    (case z7 => k_is)
    (case z8 => k_is)
    (case z9 => k_is)
    (case z10 => k_is)
