import PyProof.Rows.All
import Wide.All
import OpenK.AllK
import Wide.FinOn
import Lean
import PyProof.EqAt
import PyProof.EqKinds
import PyProof.TupleCall
import PySem.Challenge.RW_shortglue_k76_errors
set_option Elab.async false
set_option linter.all false
set_option maxRecDepth 100000
-- CHANGE: your row's module here, as the last of these rows
namespace L2
open PySem PySem.Spec PyProof.Rows
abbrev Key := Sum Int Str
def keyIs : Key → Value → Bool
  | .inl k, v => Value.isInt k v
  | .inr x, v => Value.isStrOf x v
def keyH (w : World) : Key → Int
  | .inl k => hashInt k
  | .inr x => hashStr w x
theorem keyIs_shape : ∀ {k : Key} {v : Value}, keyIs k v = true → (∃ i t, k = Sum.inl i ∧ v = Value.int i t) ∨ (∃ x t, k = Sum.inr x ∧ v = Value.str x t)
  | .inl i, v, h => by
    obtain ⟨t, e⟩ := Value.isInt_shape (k := i) (v := v) h
    exact .inl ⟨i, t, rfl, e⟩
  | .inr x, v, h => by
    obtain ⟨t, e⟩ := Value.isStrOf_shape (x := x) (v := v) h
    exact .inr ⟨x, t, rfl, e⟩
theorem key_ll (a b : Int) : decide ((Sum.inl a : Key) = Sum.inl b) = (a == b) := by
  by_cases e : a = b
  · subst e; simp
  · have h : ¬ (Sum.inl a : Key) = Sum.inl b := fun q => e (Sum.inl.inj q)
    rw [decide_eq_false h]
    exact (beq_eq_false_iff_ne.mpr e).symm
theorem key_rr (a b : Str) : decide ((Sum.inr a : Key) = Sum.inr b) = decide (a = b) := by
  by_cases e : a = b
  · subst e; simp
  · have h : ¬ (Sum.inr a : Key) = Sum.inr b := fun q => e (Sum.inr.inj q)
    rw [decide_eq_false h, decide_eq_false e]
theorem key_lr (a : Int) (b : Str) : decide ((Sum.inl a : Key) = Sum.inr b) = false := decide_eq_false (fun q => nomatch q)
theorem key_rl (a : Str) (b : Int) : decide ((Sum.inr a : Key) = Sum.inl b) = false := decide_eq_false (fun q => nomatch q)
def mixKind (prog : Program) (w : World) : PySem.KeyKind prog w Key where
  is := keyIs
  hash := keyH w
  inj := fun v a b ha hb => by
    rcases keyIs_shape ha with ⟨i, t, rfl, rfl⟩ | ⟨x, t, rfl, rfl⟩
    · rcases keyIs_shape hb with ⟨j, u, rfl, e⟩ | ⟨y, u, rfl, e⟩
      · injection e with e1 _; rw [e1]
      · exact nomatch e
    · rcases keyIs_shape hb with ⟨j, u, rfl, e⟩ | ⟨y, u, rfl, e⟩
      · exact nomatch e
      · injection e with e1 _; rw [e1]
  byValue := fun k v h => by
    rcases keyIs_shape h with ⟨i, t, rfl, rfl⟩ | ⟨x, t, rfl, rfl⟩ <;> rfl
  pyHash := fun hv h => by
    rcases keyIs_shape hv with ⟨i, t, rfl, rfl⟩ | ⟨x, t, rfl, rfl⟩
    · exact wpAny_pyHash_int h
    · exact wpAny_pyHash_str h
  eqBool := fun hu hv h => by
    rcases keyIs_shape hu with ⟨i, t, rfl, rfl⟩ | ⟨x, t, rfl, rfl⟩
    · rcases keyIs_shape hv with ⟨j, u, rfl, rfl⟩ | ⟨y, u, rfl, rfl⟩
      · rw [key_ll] at h; exact wpAny_eqBool_int h
      · rw [key_lr] at h; exact SeqAt.EqAt.int_str i t y u _ _ _ _ h
    · rcases keyIs_shape hv with ⟨j, u, rfl, rfl⟩ | ⟨y, u, rfl, rfl⟩
      · rw [key_rl] at h; exact SeqAt.EqAt.str_int x t j u _ _ _ _ h
      · rw [key_rr] at h; exact wpAny_eqBool_str h
  «strs» := fun k x t v h => by
    rcases keyIs_shape h with ⟨i, u, rfl, e⟩ | ⟨y, u, rfl, e⟩
    · exact nomatch e
    · injection e with e1 _
      subst e1
      cases v <;> rfl
end L2
namespace L2
open PySem PySem.Spec PyProof.Rows
inductive V where
  | non | bl (b : Bool) | int (i : Int) | str (x : Str) | byt (b : Array UInt8) | flt (b : UInt64) | ref (a : Addr) | ty (n : String)
  deriving DecidableEq
def RelV : V → Value → Prop
  | .non, u => u = Value.none
  | .bl b, u => u = Value.bool b
  | .int i, u => ∃ t, u = Value.int i t
  | .str x, u => ∃ t, u = Value.str x t
  | .byt b, u => ∃ t, u = Value.bytes b t
  | .flt b, u => ∃ t, u = Value.float b t
  | .ref a, u => u = Value.ref a
  | .ty n, u => u = Value.type n
abbrev Vals : List V → List Value → Prop := Paired RelV
theorem Vals.length {xs : List V} {us : List Value} (r : Vals xs us) : xs.length = us.length := Paired.length r
theorem Vals.get : ∀ {xs : List V} {us : List Value} {i : Nat} {x : V}, Vals xs us → xs[i]? = some x → ∃ u, us[i]? = some u ∧ RelV x u
  | _, _, _, _, .nil, e => by simp at e
  | _, _, 0, _, .cons r _, e => by simp at e; subst e; exact ⟨_, rfl, r⟩
  | _, _, i + 1, x, .cons _ t, e => by
    obtain ⟨u, h1, h2⟩ := Vals.get (i := i) (x := x) t (by simpa using e)
    exact ⟨u, by simpa using h1, h2⟩
theorem Vals.append : ∀ {xs ys : List V} {us ws : List Value}, Vals xs us → Vals ys ws → Vals (xs ++ ys) (us ++ ws)
  | _, _, _, _, .nil, s => s
  | _, _, _, _, .cons r t, s => .cons r (Vals.append t s)
def RelO : Option V → Option Value → Prop
  | some v, some u => RelV v u
  | none, none => True
  | _, _ => False
def KV {κ : Type} : List (κ × V) → List (κ × Value) → Prop := Paired fun (p : κ × V) (q : κ × Value) => p.1 = q.1 ∧ RelV p.2 q.2
def kV : Key → V
  | .inl i => .int i
  | .inr x => .str x
inductive HO where
  /-- a list -/
  | lst (xs : List V)
  /-- a tuple (never changes) -/
  | tup (xs : List V)
  /-- a dict whose keys are ints and texts; one whose keys are tuples of ints and texts (the empty one is both) -/
  | dK (kvs : List (Key × V)) | dT (kvs : List (List Key × V))
  /-- a set of ints: its members, its size -/
  | set (S : Int → Bool) (n : Nat)
  /-- an instance of the class at C, its dict at dx, its attributes -/
  | ins (C dx : Addr) (fs : List (Str × V))
  /-- the dict of the instance at x -/
  | own (x : Addr)
  /-- the dict of an exception -/
  | xd (fs : List (Str × V))
  /-- a bound method, f of x -/
  | met (f x : Addr)
  /-- a range object lo, lo + 1, .. below hi -/
  | rng (lo hi : Int)
  /-- a thing that is known to the object (the script; a dict while a loop walks it): read, never written while it is so -/
  | frz (o : Obj) (u : HO)
  /-- a code object's table -/
  | tbl (ps : Array Value)
  /-- any other thing, by what is true of its one object (a def of one's own: SetO a S n := HO.ext fun h => ..) -/
  | ext (φ : Heap → Prop)
abbrev Hp := Addr → Option HO
def upd (H : Hp) (a : Addr) (o : HO) : Hp := fun b => if b = a then some o else H b
theorem upd_same {H : Hp} {a : Addr} {o : HO} : upd H a o a = some o := by unfold upd; rw [if_pos rfl]
theorem upd_ne {H : Hp} {a b : Addr} {o : HO} (h : b ≠ a) : upd H a o b = H b := by unfold upd; rw [if_neg h]
theorem ne_of_none {H : Hp} {a b : Addr} {o : HO} (h : H a = some o) (h' : H b = none) : a ≠ b := by
  intro e; subst e; rw [h] at h'; cases h'
section
variable (P : Program) (w : World)
def ObjOk (H : Hp) (h : Heap) (a : Addr) : HO → Prop
  | .lst xs => xs.length ≤ sizeLine ∧ ∃ (its : List Value) (n : Nat), Vals xs its ∧ h.get? a = some { cls := .type "list", data := .seq its.toArray n }
  | .tup xs => xs.length ≤ sizeLine ∧ ∃ its : List Value, Vals xs its ∧ IsTup h a its.toArray
  | .dK kvs => kvs.length ≤ sizeLine ∧ (a == sysModules) = false ∧ ∃ vs, KV kvs vs ∧ h.DictOf (mixKind P w) a vs
  | .dT kvs => kvs.length ≤ sizeLine ∧ (a == sysModules) = false ∧ ∃ xs : List (List Key × Addr × Value),
      Paired (fun (p : List Key × V) (q : List Key × Addr × Value) => p.1 = q.1 ∧ H q.2.1 = some (.tup (p.1.map kV)) ∧ RelV p.2 q.2.2) kvs xs ∧
      ∃ o es ep, h.get? a = some o ∧ o.ExactDict ∧ o.data = .dict es ep ∧ es.toList = xs.map (entryOfKey (tupleKind (mixKind P w))) ∧ (xs.map (·.1)).Nodup
  | .set S n => h.SetOf (intKind P w) a S n
  | .ins C dx fs => H dx = some (.own a) ∧ fs.length ≤ 1000 ∧ dx ≠ a ∧ h.get? a = some (PySem.W.instObj C dx) ∧
      ∃ mA, h.Ns1 dx mA ∧ (∀ f, RelO (fs.lookup f) (mA f)) ∧ PySem.Within mA (fs.map (·.1))
  | .own _ => ∃ o, h.get? a = some o
  | .xd fs => ∃ mA, h.Ns1 a mA ∧ ∀ f, RelO (fs.lookup f) (mA f)
  | .rng lo hi => ∃ t u v, h.get? a = some { cls := .type "range", data := .fields #[.int lo t, .int hi u, .int 1 v] }
  | .frz o u => h.get? a = some o ∧ ObjOk H h a u
  | .tbl ps => h.get? a = some { cls := .none, data := .fields ps }
  | .met f x => h.get? a = some (PySem.W.methodObj (.ref f) (.ref x))
  | .ext φ => φ h ∧ (∃ o, h.get? a = some o) ∧ ∀ h1 h2 : Heap, φ h1 → (∀ o, h1.get? a = some o → h2.get? a = some o) → φ h2
def HOk (H : Hp) (h : Heap) : Prop := ∀ a o, H a = some o → ObjOk P w H h a o
end
section
variable {P : Program} {w : World} {H H' : Hp} {h h' : Heap} {a : Addr} {o : HO}
theorem ObjOk.lt (x : ObjOk P w H h a o) : a < h.objs.size := by
  cases o with
  | lst xs => obtain ⟨_, _, _, _, e⟩ := x; exact Heap.lt_size e
  | tup xs => obtain ⟨_, _, _, p⟩ := x; exact p.lt
  | dK kvs => obtain ⟨_, _, _, _, o, _, _, e, _⟩ := x; exact Heap.lt_size e
  | dT kvs => obtain ⟨_, _, _, _, o, _, _, e, _⟩ := x; exact Heap.lt_size e
  | set S n => obtain ⟨o, _, _, _, e, _⟩ := x; exact Heap.lt_size e
  | ins C dx fs => obtain ⟨_, _, _, e, _⟩ := x; exact Heap.lt_size e
  | own y => obtain ⟨_, e⟩ := x; exact Heap.lt_size e
  | xd fs => obtain ⟨_, ⟨_, _, _, e, _⟩, _⟩ := x; exact Heap.lt_size e
  | rng lo hi => obtain ⟨_, _, _, e⟩ := x; exact Heap.lt_size e
  | frz ob u => obtain ⟨e, _⟩ := x; exact Heap.lt_size e
  | tbl ps => exact Heap.lt_size (show h.get? a = some _ from x)
  | met f y => exact Heap.lt_size (show h.get? a = some _ from x)
  | ext φ => obtain ⟨_, ⟨_, e⟩, _⟩ := x; exact Heap.lt_size e
theorem Paired.mapP {α β : Type} {F G : α → β → Prop} : ∀ {l₁ : List α} {l₂ : List β}, Paired F l₁ l₂ → (∀ a b, F a b → G a b) → Paired G l₁ l₂
  | _, _, .nil, _ => .nil
  | _, _, .cons r t, f => .cons (f _ _ r) (Paired.mapP t f)
theorem ObjOk.stay (x : ObjOk P w H h a o) (k : ∀ b u, (b = a ∨ H b = some (.own a)) → h.get? b = some u → h'.get? b = some u)
    (ho : ∀ b, H b = some (.own a) → H' b = some (.own a)) (ht : ∀ b xs, H b = some (.tup xs) → H' b = some (.tup xs)) : ObjOk P w H' h' a o := by
  induction o with
  | lst xs => obtain ⟨z, its, n, r, e⟩ := x; exact ⟨z, its, n, r, k _ _ (.inl rfl) e⟩
  | tup xs => obtain ⟨z, its, r, ob, e, c⟩ := x; exact ⟨z, its, r, ob, k _ _ (.inl rfl) e, c⟩
  | dK kvs => obtain ⟨z, y, vs, r, ob, es, ep, e, c⟩ := x; exact ⟨z, y, vs, r, ob, es, ep, k _ _ (.inl rfl) e, c⟩
  | dT kvs =>
    obtain ⟨z, y, xs, r, ob, es, ep, e, c⟩ := x
    exact ⟨z, y, xs, Paired.mapP r fun p q z => ⟨z.1, ht _ _ z.2.1, z.2.2⟩, ob, es, ep, k _ _ (.inl rfl) e, c⟩
  | set S n => obtain ⟨ob, es, ep, t, e, c⟩ := x; exact ⟨ob, es, ep, t, k _ _ (.inl rfl) e, c⟩
  | ins C dx fs =>
    obtain ⟨d, z, ne, e, mA, ⟨od, es, ep, e2, c⟩, r⟩ := x
    exact ⟨ho _ d, z, ne, k _ _ (.inl rfl) e, mA, ⟨od, es, ep, k _ _ (.inr d) e2, c⟩, r⟩
  | own y => obtain ⟨ob, e⟩ := x; exact ⟨ob, k _ _ (.inl rfl) e⟩
  | xd fs => obtain ⟨mA, ⟨od, es, ep, e, c⟩, r⟩ := x; exact ⟨mA, ⟨od, es, ep, k _ _ (.inl rfl) e, c⟩, r⟩
  | rng lo hi => obtain ⟨t, u, v, e⟩ := x; exact ⟨t, u, v, k _ _ (.inl rfl) e⟩
  | frz ob u ih => obtain ⟨e, q⟩ := x; exact ⟨k _ _ (.inl rfl) e, ih q⟩
  | tbl ps =>
    have e : h.get? a = some { cls := .none, data := .fields ps } := x
    show h'.get? a = some { cls := .none, data := .fields ps }
    exact k a _ (.inl rfl) e
  | met f y =>
    have e : h.get? a = some (PySem.W.methodObj (.ref f) (.ref y)) := x
    show h'.get? a = some (PySem.W.methodObj (.ref f) (.ref y))
    exact k a _ (.inl rfl) e
  | ext φ => obtain ⟨p, ⟨o, e⟩, st⟩ := x; exact ⟨st _ _ p fun o q => k _ _ (.inl rfl) q, ⟨o, k _ _ (.inl rfl) e⟩, st⟩
theorem HOk.lt (x : HOk P w H h) (e : H a = some o) : a < h.objs.size := (x a o e).lt
theorem HOk.fresh (x : HOk P w H h) (e : h.objs.size ≤ a) : H a = none := by
  cases q : H a with
  | none => rfl
  | some u => exact absurd (Nat.lt_of_lt_of_le (x.lt q) e) (Nat.lt_irrefl _)
theorem HOk.kept (x : HOk P w H h) (k : ∀ b u, h.get? b = some u → h'.get? b = some u) : HOk P w H h' := fun a o e =>
  (x a o e).stay (fun b u _ q => k b u q) (fun _ q => q) fun _ _ q => q
theorem HOk.laid (x : HOk P w H h) (k : ∀ b u, h.get? b = some u → h'.get? b = some u) (hp : h.objs.size ≤ a) (new : ObjOk P w (upd H a o) h' a o) : HOk P w (upd H a o) h' := fun b u e => by
  have hn := x.fresh hp
  by_cases hb : b = a
  · subst hb; rw [upd_same] at e; cases e; exact new
  · rw [upd_ne hb] at e
    exact (x b u e).stay (fun c v _ q => k c v q) (fun c q => by rw [upd_ne (ne_of_none q hn)]; exact q) fun c xs q => by rw [upd_ne (ne_of_none q hn)]; exact q
end
def Rd (H : Hp) (a : Addr) (u : HO) : Prop := H a = some u ∨ ∃ o, H a = some (.frz o u)
theorem Rd.ok {P : Program} {w : World} {H : Hp} {h : Heap} {a : Addr} {u : HO} (r : Rd H a u) (x : HOk P w H h) : ObjOk P w H h a u := by
  rcases r with r | ⟨o, r⟩
  · exact x a u r
  · obtain ⟨_, q⟩ := x a _ r
    exact q
def Mut : Option HO → Prop
  | some (.lst _) => True
  | some (.dK _) => True
  | some (.dT _) => True
  | some (.set _ _) => True
  | some (.ins _ _ _) => True
  | some (.ext _) => True
  | _ => False
section
variable {P : Program} {w : World} {H : Hp} {h h' : Heap} {x e : Addr} {o' : HO}
theorem HOk.write (ok : HOk P w H h) (mu : Mut (H x)) (he : e = x ∨ H e = some (.own x)) (k : ∀ b u, b ≠ e → h.get? b = some u → h'.get? b = some u) (heo : ∃ u, h'.get? e = some u)
    (new : ObjOk P w (upd H x o') h' x o') : HOk P w (upd H x o') h' := fun b u q => by
  have nown : ∀ c y, H c = some (.own y) → c ≠ x := fun c y r z => by subst z; rw [r] at mu; exact mu
  have ntup : ∀ c xs, H c = some (.tup xs) → c ≠ x := fun c xs r z => by subst z; rw [r] at mu; exact mu
  by_cases hb : b = x
  · subst hb; rw [upd_same] at q; cases q; exact new
  · rw [upd_ne hb] at q
    by_cases hbe : b = e
    · have q' : H b = some (.own x) := by
        rcases he with z | z
        · exact absurd (hbe.trans z) hb
        · rw [hbe]; exact z
      rw [q] at q'; cases q'
      obtain ⟨v, hv⟩ := heo
      exact ⟨v, by rw [hbe]; exact hv⟩
    · refine (ok b u q).stay (fun c v hc r => k c v ?_ r) (fun c r => by rw [upd_ne (nown c b r)]; exact r) fun c xs r => by rw [upd_ne (ntup c xs r)]; exact r
      rcases hc with rfl | hc
      · exact hbe
      · rintro rfl
        rcases he with z | z
        · exact nown c b hc z
        · rw [hc] at z; cases z; exact hb rfl
end
structure Un (fs ex : List Addr) (H H' : Hp) (h h' : Heap) : Prop where
  keep : ∀ b o, h.get? b = some o → H b = none → b ∉ fs → b ∉ ex → h'.get? b = some o
  slot : ∀ b o, h.get? b = some o → H b = none → b ∈ fs → b ∉ ex → ∃ sl, h'.get? b = some { o with slots := sl }
  free : ∀ b o, h.get? b = some o → H b = none → b ∉ ex → H' b = none
  there : ∀ b o, h.get? b = some o → b ∉ ex → ∃ o', h'.get? b = some o'
  tups : ∀ b xs, H b = some (.tup xs) → H' b = some (.tup xs)
  frzs : ∀ b o u, H b = some (.frz o u) → H' b = some (.frz o u)
  tbls : ∀ b ps, H b = some (.tbl ps) → ∃ more, H' b = some (.tbl (ps ++ more))
section
variable {fs fs' ex ex' : List Addr} {H H1 H2 : Hp} {h h1 h2 h' : Heap} {a x e : Addr} {o : HO}
theorem Un.any (u : Un fs ex H H1 h h1) {b : Addr} {ob : Obj} (q : h.get? b = some ob) (n : H b = none) (hx : b ∉ ex) : ∃ sl, h1.get? b = some { ob with slots := sl } := by
  by_cases hb : b ∈ fs
  · exact u.slot b ob q n hb hx
  · exact ⟨ob.slots, u.keep b ob q n hb hx⟩
theorem Un.kept (k : ∀ b u, h.get? b = some u → h'.get? b = some u) : Un fs ex H H h h' :=
  ⟨fun b ob q _ _ _ => k b ob q, fun b ob q _ _ _ => ⟨ob.slots, k b ob q⟩, fun _ _ _ n _ => n, fun b ob q _ => ⟨ob, k b ob q⟩, fun _ _ q => q, fun _ _ _ q => q, fun _ ps q => ⟨#[], by rw [q]; simp⟩⟩
theorem Un.refl : Un fs ex H H h h := Un.kept fun _ _ q => q
theorem Un.laid (k : ∀ b u, h.get? b = some u → h'.get? b = some u) (hp : h.objs.size ≤ a) (hn : H a = none) : Un fs ex H (upd H a o) h h' where
  keep := fun b u q _ _ _ => k b u q
  slot := fun b u q _ _ _ => ⟨u.slots, k b u q⟩
  free := fun b u q n _ => by rw [upd_ne (Nat.ne_of_lt (Nat.lt_of_lt_of_le (Heap.lt_size q) hp))]; exact n
  there := fun b u q _ => ⟨u, k b u q⟩
  tups := fun b xs q => by rw [upd_ne (ne_of_none q hn)]; exact q
  frzs := fun b u xs q => by rw [upd_ne (ne_of_none q hn)]; exact q
  tbls := fun b ps q => ⟨#[], by rw [upd_ne (ne_of_none q hn), q]; simp⟩
theorem Un.write (mu : Mut (H x)) (he : e = x ∨ H e = some (.own x)) (k : ∀ b u, b ≠ e → h.get? b = some u → h'.get? b = some u) (heo : ∃ u, h'.get? e = some u) : Un fs ex H (upd H x o) h h' := by
  have hx : ∀ b, H b = none → b ≠ x := fun b n z => by subst z; rw [n] at mu; exact mu
  have hb : ∀ b, H b = none → b ≠ e := fun b n z => by
    subst z
    rcases he with r | r
    · exact hx b n r
    · rw [n] at r; cases r
  have hm : ∀ b u, H b = some u → ¬ Mut (some u) → b ≠ x := fun b u q nm z => by subst z; rw [q] at mu; exact nm mu
  refine ⟨fun b u q n _ _ => k b u (hb b n) q, fun b u q n _ _ => ⟨u.slots, k b u (hb b n) q⟩, fun b u q n _ => by rw [upd_ne (hx b n)]; exact n, fun b u q _ => ?_,
    fun b xs q => by rw [upd_ne (hm b _ q fun z => z)]; exact q, fun b u xs q => by rw [upd_ne (hm b _ q fun z => z)]; exact q, fun b ps q => ⟨#[], by rw [upd_ne (hm b _ q fun z => z), q]; simp⟩⟩
  by_cases hbe : b = e
  · subst hbe; exact heo
  · exact ⟨u, k b u hbe q⟩
end
def trk (h : Heap) (H : Hp) : List Addr := (List.range h.objs.size).filter fun a => (H a).isSome
def hidT (h : Heap) (H : Hp) : Heap := PySem.W.hideAll h (trk h H)
theorem hidT_size (h : Heap) (H : Hp) : (hidT h H).objs.size = h.objs.size := PySem.W.hideAll_size _ _
theorem hidT_get {h : Heap} {H : Hp} {b : Addr} {o : Obj} (e : h.get? b = some o) (n : H b = none) : (hidT h H).get? b = some o :=
  PySem.W.hideAll_get _ e fun hm => by
    have q : (H b).isSome = true := (List.mem_filter.mp hm).2
    rw [n] at q; simp at q
theorem of_hidT {h : Heap} {H : Hp} {b : Addr} {o : Obj} (e : (hidT h H).get? b = some o) : h.get? b = some o ∧ H b = none := by
  have e' : h.get? b = some o := PySem.W.of_hideAll (trk h H) e
  refine ⟨e', ?_⟩
  cases q : H b with
  | none => rfl
  | some x =>
    have hm : b ∈ trk h H := List.mem_filter.mpr ⟨List.mem_range.mpr (Heap.lt_size e'), by simp [q]⟩
    have z : (hidT h H).get? b = none := PySem.W.hideAll_none (trk h H) hm
    rw [z] at e; cases e
end L2
namespace L2
open PySem PySem.Spec PyProof.Rows
structure Mod (K : PySem.W.Frag) (mg : Str → Option Value) (base : Heap) : Prop where
  kin : K.In base
  glob : base.Ns mainGlobals mg
  blt : ∃ mb, base.Ns builtinsNs mb ∧ ∀ x : Str, x ≠ "__name__" → mb x = bootBuiltins x
  nolimit : base.NoLimit
structure Cx where
  prog : Program
  w : World
  K : PySem.W.Frag
  mg : Str → Option Value
  base : Heap
  A : Around
  N : List Str
  s₀ : Shared
  H₀ : Hp
  env : Env
  outer : List Env
  stack : List Env
  ex : List Addr
  fn : Str → Bool
  calm : Bool
  pn : List (Addr × Obj)
  xe : Value → Shared → Prop
def frs (l : List Env) : List Addr := l.filterMap (·.frame)
abbrev Cx.fs (X : Cx) : List Addr := frs X.outer
def Vis (sc : Scope) (x : Str) : Prop := sc.names.lookup x = some .local ∨ sc.names.lookup x = some .cell ∨ sc.names.lookup x = some .free
def Loc (sc : Scope) (x : Str) : Prop := sc.names.lookup x = some .local ∨ sc.names.lookup x = some .cell
def Look (env : Env) (h : Heap) (m : Str → Option Value) (x : Str) (u : Value) : Prop :=
  (env.kindOf x = some .local ∧ m x = some u) ∨ ((env.kindOf x = some .cell ∨ env.kindOf x = some .free) ∧ ∃ c, env.cells.lookup x = some c ∧ h.IsCell c (some u))
structure Cx.Ok (X : Cx) : Prop where
  mod : Mod X.K X.mg X.base
  kind : X.env.scope.kind = .function
  glob : X.env.globals = mainGlobals
  blt : X.env.builtins = builtinsNs
  above : X.s₀.heap.objs.size ≤ X.env.locals
  inj : ∀ x y c, X.env.cells.lookup x = some c → X.env.cells.lookup y = some c → x = y
  has : ∀ x, (X.env.kindOf x = some .cell ∨ X.env.kindOf x = some .free) → ∃ c, X.env.cells.lookup x = some c
  cab : ∀ x c, X.fn x = true → X.env.cells.lookup x = some c → X.s₀.heap.objs.size ≤ c
  hd : X.calm = true → X.A.handled = none
  frames : X.A.frames = some X.stack
  stk : X.stack = X.outer ∨ (X.stack = X.env :: X.outer ∧ X.env.frame = some X.env.locals)
  exf : ∀ b ∈ X.ex, b ≠ X.env.locals ∧ ∀ x c, X.env.cells.lookup x = some c → c ≠ b
  bs : ∀ b o, X.base.get? b = some o → X.s₀.heap.get? b = some o ∧ X.H₀ b = none
  bsz : X.base.objs.size ≤ X.s₀.heap.objs.size
  noex : ∀ b o, X.base.get? b = some o → b ∉ X.ex
  exfs : ∀ b ∈ X.ex, b ∉ X.fs
  funs : X.s₀.heap.FunFrames X.base X.outer
  frf : ∀ b ∈ X.fs, X.H₀ b = none
structure Inv (X : Cx) (pins : List (Addr × Obj)) (σ : List (Option V)) (H : Hp) (s : Shared) : Prop where
  ok : X.Ok
  os : s.os = X.s₀.os
  bare : AllBare s.gens
  base : Un X.fs X.ex X.H₀ H X.s₀.heap s.heap
  loc : ∃ m, s.heap.Ns X.env.locals m ∧ ∀ (i : Nat) (x : Str) (v : V), X.N[i]? = some x → σ[i]? = some (some v) → Vis X.env.scope x → ∃ u, RelV v u ∧ Look X.env s.heap m x u
  cell : ∀ x c, X.env.cells.lookup x = some c → ∃ v, s.heap.IsCell c v
  free : H X.env.locals = none
  freeC : ∀ x c, X.env.cells.lookup x = some c → H c = none
  pin : ∀ p ∈ X.pn ++ pins, s.heap.get? p.1 = some p.2 ∧ H p.1 = none ∧ p.1 ≠ X.env.locals ∧ p.1 ∉ X.fs ∧ ∀ v, p.2.data ≠ .cell v
  hok : HOk X.prog X.w H s.heap
  len : σ.length = X.N.length
section
variable {X : Cx} {pins : List (Addr × Obj)} {σ : List (Option V)} {H H' : Hp} {s : Shared} {h' : Heap}
theorem Cx.Ok.nofr (ok : X.Ok) {b : Addr} {o : Obj} (e : X.base.get? b = some o) : b ∉ X.fs := fun hb => by
  have := (ok.funs.mem hb).1
  rw [e] at this; cases this
theorem Inv.bs (I : Inv X pins σ H s) : ∀ b o, X.base.get? b = some o → s.heap.get? b = some o ∧ H b = none := fun b o e =>
  ⟨I.base.keep b o (I.ok.bs b o e).1 (I.ok.bs b o e).2 (I.ok.nofr e) (I.ok.noex b o e), I.base.free b o (I.ok.bs b o e).1 (I.ok.bs b o e).2 (I.ok.noex b o e)⟩
theorem Inv.bk (I : Inv X pins σ H s) : ∀ b o, X.base.get? b = some o → s.heap.get? b = some o := fun b o e => (I.bs b o e).1
theorem Inv.mod (I : Inv X pins σ H s) : Mod X.K X.mg X.base := I.ok.mod
theorem Inv.kIn (I : Inv X pins σ H s) : X.K.In s.heap := I.ok.mod.kin.keeps I.bk
theorem Inv.lt (I : Inv X pins σ H s) : X.env.locals < s.heap.objs.size := let ⟨_, hn, _⟩ := I.loc; hn.lt
theorem Inv.sz (I : Inv X pins σ H s) : X.s₀.heap.objs.size ≤ s.heap.objs.size := Nat.le_trans I.ok.above (Nat.le_of_lt I.lt)
theorem Inv.nofs (I : Inv X pins σ H s) {a : Addr} (h : s.heap.objs.size ≤ a) : a ∉ X.fs := fun hb => by
  obtain ⟨_, o, ho, _⟩ := I.ok.funs.mem hb
  exact absurd (Nat.lt_of_lt_of_le (Heap.lt_size ho) (Nat.le_trans I.sz h)) (Nat.lt_irrefl _)
theorem Inv.cne (I : Inv X pins σ H s) : ∀ x c, X.env.cells.lookup x = some c → c ≠ X.env.locals := fun x c e z => by
  obtain ⟨v, o, ho, hd⟩ := I.cell x c e
  obtain ⟨m, ⟨o', es, ep, ho', hd', _⟩, _⟩ := I.loc
  rw [z, ho'] at ho; cases ho; rw [hd'] at hd; cases hd
theorem Inv.funs (I : Inv X pins σ H s) : s.heap.FunFrames X.base X.outer := by
  have all : ∀ (l : List Env), (∀ b ∈ frs l, b ∈ X.fs) → X.s₀.heap.FunFrames X.base l → s.heap.FunFrames X.base l := by
    intro l
    induction l with
    | nil => intro _ _; trivial
    | cons env r ih =>
      intro hs hl
      obtain ⟨hk, ⟨L, o, hf, hn, ho, hd⟩, hr⟩ := hl
      have hL : L ∈ X.fs := hs L (by unfold frs; rw [List.filterMap_cons, hf]; exact List.mem_cons_self)
      obtain ⟨sl, e⟩ := I.base.slot L o ho (I.ok.frf L hL) hL fun z => I.ok.exfs L z hL
      exact ⟨hk, ⟨L, _, hf, hn, e, hd⟩, ih (fun b hb => hs b (by unfold frs; rw [List.filterMap_cons, hf]; exact List.mem_cons_of_mem _ hb)) hr⟩
  exact all X.outer (fun _ hb => hb) I.ok.funs
theorem Inv.stack (I : Inv X pins σ H s) : s.heap.FunFrames X.base X.stack := by
  rcases I.ok.stk with e | ⟨e, hf⟩
  · rw [e]; exact I.funs
  · rw [e]
    obtain ⟨m, hn, _⟩ := I.loc
    refine .cons (by rw [I.ok.kind]; decide) hf hn ?_ I.funs
    exact Heap.get?_none_of_le (Nat.le_trans I.ok.bsz I.ok.above)
theorem Inv.stkSub (I : Inv X pins σ H s) : ∀ b ∈ frs X.stack, b ∈ X.env.locals :: X.fs := fun b hb => by
  rcases I.ok.stk with e | ⟨e, hf⟩
  · rw [e] at hb; exact List.mem_cons_of_mem _ hb
  · rw [e] at hb
    unfold frs at hb
    rw [List.filterMap_cons, hf] at hb
    exact hb
theorem Inv.stkFree (I : Inv X pins σ H s) : ∀ b ∈ frs X.stack, H b = none := fun b hb => by
  rcases List.mem_cons.mp (I.stkSub b hb) with e | hb
  · rw [e]; exact I.free
  · obtain ⟨_, o, ho, _⟩ := I.ok.funs.mem hb
    exact I.base.free b o ho (I.ok.frf b hb) fun z => I.ok.exfs b z hb
theorem Inv.step {g' : Array GenState} {t' : Nat} {d' : Drawn} {ch : List Addr} (I : Inv X pins σ H s)
    (hch : ∀ b ∈ ch, (b ∈ X.ex ∨ X.s₀.heap.objs.size ≤ b) ∧ b ≠ X.env.locals ∧ (∀ x c, X.env.cells.lookup x = some c → c ≠ b) ∧ ∀ p ∈ X.pn ++ pins, p.1 ≠ b)
    (keep : ∀ b o, b ≠ X.env.locals → b ∉ X.fs → b ∉ ch → s.heap.get? b = some o → H b = none → h'.get? b = some o)
    (slot : ∀ b o, b ≠ X.env.locals → b ∈ X.fs → b ∉ ch → s.heap.get? b = some o → H b = none → ∃ sl, h'.get? b = some { o with slots := sl }) (free : ∀ b o, b ∉ ch → s.heap.get? b = some o → H b = none → H' b = none)
    (there : ∀ b o, b ∉ ch → s.heap.get? b = some o → ∃ o', h'.get? b = some o')
    (tups : ∀ b xs, H b = some (.tup xs) → H' b = some (.tup xs)) (frzs : ∀ b o u, H b = some (.frz o u) → H' b = some (.frz o u)) (tbls : ∀ b ps, H b = some (.tbl ps) → ∃ more, H' b = some (.tbl (ps ++ more)))
    (ns : ∀ m, s.heap.Ns X.env.locals m → h'.Ns X.env.locals m) (hok : HOk X.prog X.w H' h') (hg : AllBare g') :
    Inv X pins σ H' { s with heap := h', gens := g', drawn := d', toks := t' } := by
  have neL : ∀ b o, X.s₀.heap.get? b = some o → b ≠ X.env.locals := fun b o e => Nat.ne_of_lt (Nat.lt_of_lt_of_le (Heap.lt_size e) I.ok.above)
  have neC : ∀ b o, X.s₀.heap.get? b = some o → b ∉ X.ex → b ∉ ch := fun b o e hx hb => by
    rcases (hch b hb).1 with z | z
    · exact hx z
    · exact absurd (Nat.lt_of_lt_of_le (Heap.lt_size e) z) (Nat.lt_irrefl _)
  have cellK : ∀ x c, X.env.cells.lookup x = some c → ∀ v, s.heap.IsCell c v → h'.IsCell c v := fun x c e v ⟨o, ho, hd⟩ => by
    have nch : c ∉ ch := fun z => (hch c z).2.2.1 x c e rfl
    by_cases hc : c ∈ X.fs
    · obtain ⟨sl, q⟩ := slot c o (I.cne x c e) hc nch ho (I.freeC x c e)
      exact ⟨_, q, hd⟩
    · exact ⟨o, keep c o (I.cne x c e) hc nch ho (I.freeC x c e), hd⟩
  refine ⟨I.ok, I.os, hg, ⟨fun b o e n hb hx => ?_, fun b o e n hb hx => ?_, fun b o e n hx => ?_, fun b o e hx => ?_, fun b xs e => tups b xs (I.base.tups b xs e), fun b o xs e => frzs b o xs (I.base.frzs b o xs e), fun b ps e => ?_⟩, ?_, fun x c e => ?_, ?_, fun x c e => ?_, fun p hp => ?_, hok, I.len⟩
  · exact keep b o (neL b o e) hb (neC b o e hx) (I.base.keep b o e n hb hx) (I.base.free b o e n hx)
  · obtain ⟨sl, e1⟩ := I.base.slot b o e n hb hx
    obtain ⟨sl', e2⟩ := slot b _ (neL b o e) hb (neC b o e hx) e1 (I.base.free b o e n hx)
    exact ⟨sl', e2⟩
  · obtain ⟨o', e1⟩ := I.base.there b o e hx
    exact free b o' (neC b o e hx) e1 (I.base.free b o e n hx)
  · obtain ⟨o', e1⟩ := I.base.there b o e hx
    exact there b o' (neC b o e hx) e1
  · obtain ⟨m1, e1⟩ := I.base.tbls b ps e
    obtain ⟨m2, e2⟩ := tbls b _ e1
    exact ⟨m1 ++ m2, by rw [e2, Array.append_assoc]⟩
  · obtain ⟨m, hn, hl⟩ := I.loc
    refine ⟨m, ns m hn, fun i x v e1 e2 e3 => ?_⟩
    obtain ⟨u, r, l⟩ := hl i x v e1 e2 e3
    refine ⟨u, r, ?_⟩
    rcases l with l | ⟨k, c, e, z⟩
    · exact .inl l
    · exact .inr ⟨k, c, e, cellK x c e _ z⟩
  · obtain ⟨v, z⟩ := I.cell x c e
    exact ⟨v, cellK x c e v z⟩
  · obtain ⟨m, ⟨o, _, _, ho, _⟩, _⟩ := I.loc
    exact free _ o (fun z => (hch _ z).2.1 rfl) ho I.free
  · obtain ⟨v, o, ho, hd⟩ := I.cell x c e
    exact free c o (fun z => (hch c z).2.2.1 x c e rfl) ho (I.freeC x c e)
  · obtain ⟨e, n, ne, nf, d⟩ := I.pin p hp
    have nch : p.1 ∉ ch := fun z => (hch p.1 z).2.2.2 p hp rfl
    exact ⟨keep p.1 p.2 ne nf nch e n, free p.1 p.2 nch e n, ne, nf, d⟩
theorem Inv.un {t' : Nat} (I : Inv X pins σ H s) (u : Un X.fs [] H H' s.heap h') (hok : HOk X.prog X.w H' h') : Inv X pins σ H' { s with heap := h', toks := t' } := by
  obtain ⟨m, ⟨o, es, ep, ho, r⟩, _⟩ := id I.loc
  obtain ⟨sl, hL⟩ := u.any ho I.free (by simp)
  exact I.step (g' := s.gens) (d' := s.drawn) (ch := []) (fun _ z => nomatch z) (fun b o _ hb _ e n => u.keep b o e n hb (by simp)) (fun b o _ hb _ e n => u.slot b o e n hb (by simp)) (fun b o _ e n => u.free b o e n (by simp)) (fun b o _ e => u.there b o e (by simp)) u.tups u.frzs u.tbls (fun m' hm => by
    obtain ⟨o', es', ep', ho', r'⟩ := hm
    rw [ho] at ho'; cases ho'
    exact ⟨_, es', ep', hL, r'⟩) hok I.bare
theorem Inv.call {g' : Array GenState} {t' : Nat} {d' : Drawn} {ch : List Addr} (I : Inv X pins σ H s) (u : Un (frs X.stack) ch H H' s.heap h') (hok : HOk X.prog X.w H' h') (hg : AllBare g')
    (hch : ∀ b ∈ ch, (b ∈ X.ex ∨ X.s₀.heap.objs.size ≤ b) ∧ b ≠ X.env.locals ∧ (∀ x c, X.env.cells.lookup x = some c → c ≠ b) ∧ ∀ p ∈ X.pn ++ pins, p.1 ≠ b) :
    Inv X pins σ H' { s with heap := h', gens := g', drawn := d', toks := t' } := by
  obtain ⟨m, ⟨o, es, ep, ho, r⟩, _⟩ := id I.loc
  obtain ⟨sl, hL⟩ := u.any ho I.free fun z => (hch _ z).2.1 rfl
  exact I.step (ch := ch) hch (fun b o hL hb hc e n => u.keep b o e n (fun z => (List.mem_cons.mp (I.stkSub b z)).elim hL hb) hc) (fun b o _ _ hc e n => u.any e n hc) (fun b o hc e n => u.free b o e n hc) (fun b o hc e => u.there b o e hc) u.tups u.frzs u.tbls (fun m' hm => by
    obtain ⟨o', es', ep', ho', r'⟩ := hm
    rw [ho] at ho'; cases ho'
    exact ⟨_, es', ep', hL, r'⟩) hok hg
theorem Inv.turned {t' : Nat} {it : Addr} (I : Inv X pins σ H s) (k : ∀ b o, b ≠ it → s.heap.get? b = some o → h'.get? b = some o) (hn : H it = none) (hL : it ≠ X.env.locals)
    (h1 : it ∈ X.ex ∨ X.s₀.heap.objs.size ≤ it) (h2 : ∀ x c, X.env.cells.lookup x = some c → c ≠ it) (h3 : ∀ p ∈ X.pn ++ pins, p.1 ≠ it) : Inv X pins σ H { s with heap := h', toks := t' } := by
  have nit : ∀ b u, H b = some u → b ≠ it := fun b u e z => by rw [z, hn] at e; cases e
  refine I.step (g' := s.gens) (d' := s.drawn) (ch := [it]) (fun b hb => ?_) (fun b o _ _ hc e _ => k b o (fun z => hc (by simp [z])) e) (fun b o _ _ hc e _ => ⟨o.slots, k b o (fun z => hc (by simp [z])) e⟩) (fun _ _ _ _ n => n)
    (fun b o hc e => ⟨o, k b o (fun z => hc (by simp [z])) e⟩) (fun _ _ e => e) (fun _ _ _ e => e) (fun b ps e => ⟨#[], by rw [e]; simp⟩) (fun m hm => ?_) (fun b u e => ?_) I.bare
  · have e : b = it := by simpa using hb
    subst e
    exact ⟨h1, hL, h2, h3⟩
  · obtain ⟨o, es, ep, ho, r⟩ := hm
    exact ⟨o, es, ep, k _ o (Ne.symm hL) ho, r⟩
  · refine (I.hok b u e).stay (fun c v hc q => k c v ?_ q) (fun _ q => q) fun _ _ q => q
    rcases hc with z | z
    · rw [z]; exact nit b u e
    · exact nit c _ z
theorem Inv.tok (I : Inv X pins σ H s) (t : Nat) : Inv X pins σ H { s with toks := t } := I.un (h' := s.heap) (t' := t) Un.refl I.hok
theorem Inv.kept {t' : Nat} (I : Inv X pins σ H s) (k : ∀ b u, s.heap.get? b = some u → h'.get? b = some u) : Inv X pins σ H { s with heap := h', toks := t' } := I.un (Un.kept k) (I.hok.kept k)
theorem Inv.laid {a : Addr} {o : HO} {t' : Nat} (I : Inv X pins σ H s) (k : ∀ b u, s.heap.get? b = some u → h'.get? b = some u) (hp : s.heap.objs.size ≤ a) (new : ObjOk X.prog X.w (upd H a o) h' a o) :
    Inv X pins σ (upd H a o) { s with heap := h', toks := t' } := I.un (Un.laid k hp (I.hok.fresh hp)) (I.hok.laid k hp new)
theorem Inv.write {x e : Addr} {o : HO} {t' : Nat} (I : Inv X pins σ H s) (mu : Mut (H x)) (he : e = x ∨ H e = some (.own x)) (k : ∀ b u, b ≠ e → s.heap.get? b = some u → h'.get? b = some u) (heo : ∃ u, h'.get? e = some u)
    (new : ObjOk X.prog X.w (upd H x o) h' x o) : Inv X pins σ (upd H x o) { s with heap := h', toks := t' } := I.un (Un.write mu he k heo) (I.hok.write mu he k heo new)
theorem Inv.pins_of {pins' : List (Addr × Obj)} (I : Inv X pins σ H s) (h : ∀ p ∈ pins', s.heap.get? p.1 = some p.2 ∧ H p.1 = none ∧ p.1 ≠ X.env.locals ∧ p.1 ∉ X.fs ∧ ∀ v, p.2.data ≠ .cell v) : Inv X pins' σ H s :=
  ⟨I.ok, I.os, I.bare, I.base, I.loc, I.cell, I.free, I.freeC, fun p hp => (List.mem_append.mp hp).elim (fun z => I.pin p (List.mem_append_left _ z)) (h p), I.hok, I.len⟩
theorem nodup_ix {N : List Str} (hN : N.Nodup) {i j : Nat} {x : Str} (a : N[i]? = some x) (b : N[j]? = some x) : i = j := by
  obtain ⟨h1, e1⟩ := List.getElem?_eq_some_iff.mp a
  obtain ⟨h2, e2⟩ := List.getElem?_eq_some_iff.mp b
  exact (List.getElem_inj hN).mp (e1.trans e2.symm)
theorem store_ok2 {M : Model} {A : Around} {E : Value → Shared → Prop} {i : Nat} {x : Str} {v : V} {u : Value} {Q : Unit → Shared → Prop} (I : Inv X pins σ H s) (hN : X.N.Nodup) (hi : X.N[i]? = some x) (hx : Loc X.env.scope x) (r : RelV v u)
    (h : ∀ s', Inv X pins (σ.set i (some v)) H s' → (∃ a, Heap.SameBut a s.heap s'.heap ∧ (a = X.env.locals ∨ X.env.cells.lookup x = some a)) → Q () s') (hf : X.fn x = true ∨ X.env.scope.names.lookup x = some .local := by first | exact .inl rfl | exact .inr rfl | assumption) : wpAny M A (storeName X.env x u) Q E s := by
  obtain ⟨m, hn, hl⟩ := id I.loc
  have hcls : (X.env.scope.kind == .class || (X.env.scope.kind == .module && X.env.locals != X.env.globals)) = false := by rw [I.ok.kind]; rfl
  have hiσ : i < σ.length := by rw [I.len]; exact (List.getElem?_eq_some_iff.mp hi).1
  have cne := I.cne
  have tracked : ∀ {a : Addr} {h' : Heap}, (∃ o, s.heap.get? a = some o ∧ H a = none) → Heap.SameBut a s.heap h' → HOk X.prog X.w H h' := fun {a h'} ha hs b ob e => by
    obtain ⟨_, _, hfree⟩ := ha
    refine (I.hok b ob e).stay (fun c w' hc q => (hs.2 c ?_).trans q) (fun _ q => q) fun _ _ q => q
    rintro rfl
    rcases hc with rfl | hc
    · rw [hfree] at e; cases e
    · rw [hfree] at hc; cases hc
  rcases hx with hk | hk
  · refine wpAny_storeName_local hk hn (fun h' hn' hs => ?_) hcls
    obtain ⟨oL, _, _, hoL, _⟩ := id hn
    refine h _ ⟨I.ok, I.os, I.bare, ⟨fun b o e n hb hx => ?_, fun b o e n hb hx => ?_, I.base.free, fun b o e hx => ?_, I.base.tups, I.base.frzs, I.base.tbls⟩, ⟨_, hn', fun j y v' e1 e2 e3 => ?_⟩, fun y c e => ?_, I.free, I.freeC, fun p hp => ?_, tracked ⟨oL, hoL, I.free⟩ hs, by simpa using I.len⟩ ⟨_, hs, .inl rfl⟩
    · exact (hs.2 b (Nat.ne_of_lt (Nat.lt_of_lt_of_le (Heap.lt_size e) I.ok.above))).trans (I.base.keep b o e n hb hx)
    · obtain ⟨sl, e1⟩ := I.base.slot b o e n hb hx
      exact ⟨sl, (hs.2 b (Nat.ne_of_lt (Nat.lt_of_lt_of_le (Heap.lt_size e) I.ok.above))).trans e1⟩
    · obtain ⟨o', e1⟩ := I.base.there b o e hx
      exact ⟨o', (hs.2 b (Nat.ne_of_lt (Nat.lt_of_lt_of_le (Heap.lt_size e) I.ok.above))).trans e1⟩
    · by_cases hj : j = i
      · subst hj
        rw [hi] at e1; cases e1
        rw [List.getElem?_set_self hiσ] at e2
        cases e2
        exact ⟨u, r, .inl ⟨hk, by simp⟩⟩
      · rw [List.getElem?_set_ne (Ne.symm hj)] at e2
        obtain ⟨u', r', q⟩ := hl j y v' e1 e2 e3
        refine ⟨u', r', ?_⟩
        rcases q with ⟨k, e⟩ | ⟨k, c, e, z⟩
        · refine .inl ⟨k, ?_⟩
          have : y ≠ x := fun e => hj (nodup_ix hN e1 (e ▸ hi))
          simp [this, e]
        · exact .inr ⟨k, c, e, z.sameBut hs (cne y c e)⟩
    · obtain ⟨w', z⟩ := I.cell y c e
      exact ⟨w', z.sameBut hs (cne y c e)⟩
    · obtain ⟨e, n, ne, nf, d⟩ := I.pin p hp
      exact ⟨(hs.2 p.1 ne).trans e, n, ne, nf, d⟩
  · have hfn : X.fn x = true := by
      rcases hf with z | z
      · exact z
      · rw [z] at hk; cases hk
    obtain ⟨c, hc⟩ := I.ok.has x (.inl hk)
    obtain ⟨w', z⟩ := I.cell x c hc
    refine wpAny_storeName_cell I.ok.kind hk hc z (fun h' hc' hs => ?_)
    obtain ⟨oc, hoc, hocd⟩ := id z
    refine h { s with heap := h' } ⟨I.ok, I.os, I.bare, ⟨fun b o e n hb hx => ?_, fun b o e n hb hx => ?_, I.base.free, fun b o e hx => ?_, I.base.tups, I.base.frzs, I.base.tbls⟩, ⟨m, hn.sameBut hs (Ne.symm (cne x c hc)), fun j y v' e1 e2 e3 => ?_⟩, fun y c' e => ?_, I.free, I.freeC, fun p hp => ?_, tracked ⟨oc, hoc, I.freeC x c hc⟩ hs, by simpa using I.len⟩ ⟨c, hs, .inr hc⟩
    · exact (hs.2 b (Nat.ne_of_lt (Nat.lt_of_lt_of_le (Heap.lt_size e) (I.ok.cab x c hfn hc)))).trans (I.base.keep b o e n hb hx)
    · obtain ⟨sl, e1⟩ := I.base.slot b o e n hb hx
      exact ⟨sl, (hs.2 b (Nat.ne_of_lt (Nat.lt_of_lt_of_le (Heap.lt_size e) (I.ok.cab x c hfn hc)))).trans e1⟩
    · obtain ⟨o', e1⟩ := I.base.there b o e hx
      exact ⟨o', (hs.2 b (Nat.ne_of_lt (Nat.lt_of_lt_of_le (Heap.lt_size e) (I.ok.cab x c hfn hc)))).trans e1⟩
    · by_cases hj : j = i
      · subst hj
        rw [hi] at e1; cases e1
        rw [List.getElem?_set_self hiσ] at e2
        cases e2
        exact ⟨u, r, .inr ⟨.inl hk, c, hc, hc'⟩⟩
      · rw [List.getElem?_set_ne (Ne.symm hj)] at e2
        obtain ⟨u', r', q⟩ := hl j y v' e1 e2 e3
        refine ⟨u', r', ?_⟩
        rcases q with q | ⟨k, c', e, z'⟩
        · exact .inl q
        · refine .inr ⟨k, c', e, z'.sameBut hs ?_⟩
          rintro rfl
          exact hj (nodup_ix hN e1 (I.ok.inj _ _ _ e hc ▸ hi))
    · by_cases hcc : c' = c
      · subst hcc; exact ⟨_, hc'⟩
      · obtain ⟨w2, z2⟩ := I.cell y c' e
        exact ⟨w2, z2.sameBut hs hcc⟩
    · obtain ⟨e, n, ne, nf, d⟩ := I.pin p hp
      refine ⟨(hs.2 p.1 ?_).trans e, n, ne, nf, d⟩
      intro q
      rw [q, hoc] at e
      have q' : oc = p.2 := Option.some.inj e
      exact d w' (by rw [← q']; exact hocd)
theorem store_ok {M : Model} {A : Around} {E : Value → Shared → Prop} {i : Nat} {x : Str} {v : V} {u : Value} {Q : Unit → Shared → Prop} (I : Inv X pins σ H s) (hN : X.N.Nodup) (hi : X.N[i]? = some x) (hx : Loc X.env.scope x) (r : RelV v u)
    (h : ∀ s', Inv X pins (σ.set i (some v)) H s' → Q () s') (hf : X.fn x = true ∨ X.env.scope.names.lookup x = some .local := by first | exact .inl rfl | exact .inr rfl | assumption) : wpAny M A (storeName X.env x u) Q E s :=
  store_ok2 I hN hi hx r (fun s' I' _ => h s' I') hf
theorem Inv.call' {s' : Shared} {ch : List Addr} (I : Inv X pins σ H s) (ho : s'.os = s.os) (u : Un (frs X.stack) ch H H' s.heap s'.heap) (hok : HOk X.prog X.w H' s'.heap) (hg : AllBare s'.gens)
    (hch : ∀ b ∈ ch, (b ∈ X.ex ∨ X.s₀.heap.objs.size ≤ b) ∧ b ≠ X.env.locals ∧ (∀ x c, X.env.cells.lookup x = some c → c ≠ b) ∧ ∀ p ∈ X.pn ++ pins, p.1 ≠ b) : Inv X pins σ H' s' := by
  obtain ⟨h', g', d', t', o'⟩ := s'
  have e : o' = s.os := ho
  subst e
  exact I.call (g' := g') (t' := t') (d' := d') u hok hg hch
end
abbrev XK := Value → Option Addr → Hp → Prop
abbrev St := List (Option V)
abbrev VK := V → Hp → Prop
abbrev TE := St → Hp → VK → Prop
abbrev TT := St → Hp → (Bool → Hp → Prop) → Prop
abbrev TA := St → Hp → (List V → Hp → Prop) → Prop
structure Ends where
  nx : St → Hp → Prop
  rt : VK
  bk : St → Hp → Prop := fun _ _ => False
  ct : St → Hp → Prop := fun _ _ => False
abbrev TS := Ends → St → Hp → Prop
def EP (X : Cx) (pins : List (Addr × Obj)) (σ : St) (Q : VK) (u : Value) (s' : Shared) : Prop := ∃ v H', Inv X pins σ H' s' ∧ RelV v u ∧ Q v H'
def TP (X : Cx) (pins : List (Addr × Obj)) (σ : St) (Q : Bool → Hp → Prop) (b : Bool) (s' : Shared) : Prop := ∃ H', Inv X pins σ H' s' ∧ Q b H'
def AP (X : Cx) (pins : List (Addr × Obj)) (σ : St) (Q : List V → Hp → Prop) (us : List Value) (s' : Shared) : Prop := ∃ vs H', Inv X pins σ H' s' ∧ Vals vs us ∧ Q vs H'
def SP (X : Cx) (pins : List (Addr × Obj)) (D : Ends) (f : Flow) (s' : Shared) : Prop :=
  match f with
  | .next => ∃ σ' H', Inv X pins σ' H' s' ∧ D.nx σ' H'
  | .brk => ∃ σ' H', Inv X pins σ' H' s' ∧ D.bk σ' H'
  | .cont => ∃ σ' H', Inv X pins σ' H' s' ∧ D.ct σ' H'
  | .ret u => ∃ v σ' H', Inv X pins σ' H' s' ∧ RelV v u ∧ D.rt v H'
def PE (X : Cx) (e : Expr) (t : TE) : Prop :=
  ∀ (pins : List (Addr × Obj)) (s : Shared) (σ : St) (H : Hp) (Q : VK), Inv X pins σ H s → t σ H Q → wpAny (model X.prog X.w) X.A (eval e X.env) (EP X pins σ Q) X.xe s
def PT (X : Cx) (e : Expr) (t : TT) : Prop :=
  ∀ (pins : List (Addr × Obj)) (s : Shared) (σ : St) (H : Hp) (Q : Bool → Hp → Prop), Inv X pins σ H s → t σ H Q → wpAny (model X.prog X.w) X.A (isTrue e X.env (eval e X.env)) (TP X pins σ Q) X.xe s
def PW (X : Cx) (e : Expr) (t : TT) : Prop :=
  ∀ (whole : Sem Value) (pins : List (Addr × Obj)) (s : Shared) (σ : St) (H : Hp) (Q : Bool → Hp → Prop), Inv X pins σ H s → t σ H Q → wpAny (model X.prog X.w) X.A (isTrue e X.env whole) (TP X pins σ Q) X.xe s
theorem PW.pt {X : Cx} {e : Expr} {t : TT} (h : PW X e t) : PT X e t := h _
def PA (X : Cx) (es : List Expr) (t : TA) : Prop :=
  ∀ (pos : Pos) (pins : List (Addr × Obj)) (s : Shared) (σ : St) (H : Hp) (Q : List V → Hp → Prop), Inv X pins σ H s → t σ H Q → wpAny (model X.prog X.w) X.A (spliced (backTo pos (starEach es X.env))) (AP X pins σ Q) X.xe s
def PS (X : Cx) (st : Stmt) (t : TS) : Prop :=
  ∀ (pins : List (Addr × Obj)) (s : Shared) (σ : St) (H : Hp) (D : Ends), Inv X pins σ H s → t D σ H → wpAny (model X.prog X.w) X.A (exec st X.env) (SP X pins D) X.xe s
def PSs (X : Cx) (st : List Stmt) (t : TS) : Prop :=
  ∀ (pins : List (Addr × Obj)) (s : Shared) (σ : St) (H : Hp) (D : Ends), Inv X pins σ H s → t D σ H → wpAny (model X.prog X.w) X.A (execs st X.env) (SP X pins D) X.xe s
theorem thn {α : Type} {t : Sem α} {Q Q' : α → Shared → Prop} {M : Model} {A : Around} {E : Value → Shared → Prop} {s : Shared} (h : wpAny M A t Q E s) (hQ : ∀ a s, Q a s → Q' a s) : wpAny M A t Q' E s := wpAny_mono h hQ fun _ _ x => x
end L2
namespace L2
open PySem PySem.Spec PyProof.Rows
section
variable {X : Cx}
def tVar (i : Nat) : TE := fun σ H Q => ∃ v, σ[i]? = some (some v) ∧ Q v H
def tC (v : V) : TE := fun _ H Q => Q v H
theorem pe_var {i : Nat} {x : Str} {pos : Pos} (hN : X.N[i]? = some x) (hv : Vis X.env.scope x) (hd : (x == ("__debug__" : Str)) = false := by decide) (hcd : (x == ("__classdict__" : Str)) = false := by decide) : PE X (.Name x pos) (tVar i) := by
  intro pins s σ H Q I h
  obtain ⟨v, e, h⟩ := h
  obtain ⟨m, hn, hl⟩ := I.loc
  obtain ⟨u, r, l⟩ := hl i x v hN e hv
  have fin : EP X pins σ Q u s := ⟨v, H, I, r, h⟩
  rcases l with ⟨hk, hm⟩ | ⟨hk, c, hc, hcell⟩
  · exact wpAny_Name (wpAny_loadName_local I.ok.kind hk hn hm fin) hd
  · rcases hk with hk | hk
    · exact wpAny_Name (wpAny_loadName_cell I.ok.kind hk hc hcell fin) hd
    · exact wpAny_Name (wpAny_loadName_free I.ok.kind hk hc hcell fin hcd) hd
theorem pe_int {i j pos} : PE X (.Constant (.int i) j pos) (tC (.int i)) := fun _ _ _ H _ I h => wpAny_Constant_int ⟨.int i, H, I.tok _, ⟨_, rfl⟩, h⟩
theorem pe_bl {b j pos} : PE X (.Constant (.bool b) j pos) (tC (.bl b)) := fun _ _ _ H _ I h => Constant_bool ⟨.bl b, H, I, rfl, h⟩
def Gl (X : Cx) (x : Str) : Prop := X.env.kindOf x = some .globalImplicit
theorem ld_glob {E : Value → Shared → Prop} {pins : List (Addr × Obj)} {s : Shared} {σ : St} {H : Hp} {x : Str} {u : Value} {pos : Pos} {Q : Value → Shared → Prop} (I : Inv X pins σ H s) (hg : Gl X x) (hm : X.mg x = some u) (h : Q u s)
    (hd : (x == ("__debug__" : Str)) = false := by decide) : wpAny (model X.prog X.w) X.A (eval (.Name x pos) X.env) Q E s :=
  Calls.Name_function_global I.ok.kind hg (Calls.loadGlobal_global (by rw [I.ok.glob]; exact I.mod.glob.keeps I.bk) hm h) hd
theorem ld_blt {E : Value → Shared → Prop} {pins : List (Addr × Obj)} {s : Shared} {σ : St} {H : Hp} {x : Str} {u : Value} {pos : Pos} {Q : Value → Shared → Prop} (I : Inv X pins σ H s) (hg : Gl X x) (hm : X.mg x = none) (hv : bootBuiltins x = some u) (h : Q u s)
    (hn : x ≠ "__name__" := by decide) (hd : (x == ("__debug__" : Str)) = false := by decide) : wpAny (model X.prog X.w) X.A (eval (.Name x pos) X.env) Q E s := by
  obtain ⟨mb, h1, h2⟩ := I.mod.blt
  exact Calls.Name_function_global I.ok.kind hg (Calls.loadGlobal_builtin (by rw [I.ok.glob]; exact I.mod.glob.keeps I.bk) hm (by rw [I.ok.blt]; exact h1.keeps I.bk) ((h2 x hn).trans hv) h) hd
theorem pe_bltn {x : Str} {v : V} {u : Value} {pos : Pos} (hg : Gl X x) (hm : X.mg x = none) (hv : bootBuiltins x = some u) (r : RelV v u) (hn : x ≠ "__name__" := by decide) (hd : (x == ("__debug__" : Str)) = false := by decide) : PE X (.Name x pos) (tC v) :=
  fun _ _ _ H _ I h => ld_blt I hg hm hv ⟨v, H, I, r, h⟩ hn hd
variable {a b : Expr} {ta tb : TE} {pos : Pos}
def tB (t : TE) : TT := fun σ H Q => t σ H fun x H1 => ∃ c, x = .bl c ∧ Q c H1
theorem pt_val {e : Expr} {t : TE} (h : PE X e t) (he : ∀ whole, isTrue e X.env whole = (do let v ← whole; standAt e.pos; holding [v] (truthy v)) := by intro _; rfl) : PT X e (tB t) := by
  intro pins s σ H Q I hw
  refine isTrue_plain (thn (h pins s σ H _ I hw) fun v s1 ⟨x, H1, I1, r1, q1⟩ => ?_) (he _)
  obtain ⟨d, rfl, q⟩ := q1
  cases r1
  exact wpAny_truthy_bool ⟨H1, I1, q⟩
variable {tA tB' : TT} {rest : List Expr}
def tOr (t u : TT) : TT := fun σ H Q => t σ H fun c H1 => if c = true then Q true H1 else u σ H1 Q
def tNot (t : TT) : TT := fun σ H Q => t σ H fun c H1 => Q (!c) H1
theorem pw_or1 (ha : PT X a tA) : PW X (.BoolOp .Or [a] pos) tA := by
  intro wh pins s σ H Q I h
  refine isTrue_or (thn (ha pins s σ H Q I h) fun c s1 e => ?_)
  cases c with
  | false => exact isTrue_or_nil e
  | true => exact e
theorem pw_or (ha : PT X a tA) (hb : PW X (.BoolOp .Or (b :: rest) pos) tB') : PW X (.BoolOp .Or (a :: b :: rest) pos) (tOr tA tB') := by
  intro wh pins s σ H Q I h
  refine isTrue_or (thn (ha pins s σ H _ I h) fun c s1 ⟨H1, I1, q1⟩ => ?_)
  cases c with
  | true => exact ⟨H1, I1, q1⟩
  | false => exact hb wh pins s1 σ H1 Q I1 q1
theorem pt_not (ha : PT X a tA) : PT X (.UnaryOp .Not a pos) (tNot tA) := by
  intro pins s σ H Q I h
  exact isTrue_not (ha pins s σ H (fun c H1 => Q (!c) H1) I h)
def tAndV (ta tb : TE) : TE := fun σ H Q => ta σ H fun x H1 => ∃ c, x = .bl c ∧ if c = true then tb σ H1 Q else Q (.bl false) H1
theorem pe_one {op} {t : TE} (h : PE X a t) : PE X (.BoolOp op [a] pos) t := fun pins s σ H Q I hw => BoolOp_one (h pins s σ H Q I hw)
theorem pe_and (ha : PE X a ta) (hb : PE X (.BoolOp .And (b :: rest) pos) tb) : PE X (.BoolOp .And (a :: b :: rest) pos) (tAndV ta tb) := by
  intro pins s σ H Q I h
  refine BoolOp_and (thn (ha pins s σ H _ I h) fun v s1 ⟨x, H1, I1, r1, q1⟩ => ?_)
  obtain ⟨c, rfl, q1⟩ := q1
  cases r1
  refine wpAny_truthy_bool ?_
  cases c with
  | true => exact hb pins s1 σ H1 Q I1 q1
  | false => exact ⟨.bl false, H1, I1, rfl, q1⟩
end
end L2
namespace L2
open PySem PySem.Spec PyProof.Rows
def SqL (K : PySem.W.Frag) (H : Hp) (a : Addr) (xs : List V) : Prop :=
  Rd H a (.lst xs) ∨
    ∃ (o : Obj) (its : Array Value) (n : Nat), K.lookup a = some o ∧ o.cls = .type "list" ∧ o.dict = none ∧ o.data = .seq its n ∧ its.size ≤ sizeLine ∧ Vals xs its.toList
def SqT (K : PySem.W.Frag) (H : Hp) (a : Addr) (xs : List V) : Prop :=
  Rd H a (.tup xs) ∨
    ∃ (o : Obj) (its : Array Value) (n : Nat), K.lookup a = some o ∧ o.cls = .type "tuple" ∧ o.data = .seq its n ∧ its.size ≤ sizeLine ∧ Vals xs its.toList
def absV : Value → Option V
  | .none => some .non
  | .bool b => some (.bl b)
  | .int i _ => some (.int i)
  | .str x _ => some (.str x)
  | .bytes b _ => some (.byt b)
  | .float b _ => some (.flt b)
  | .ref a => some (.ref a)
  | .type n => some (.ty n)
  | _ => none
theorem RelV.abs {x : V} {u : Value} (r : RelV x u) : absV u = some x := by
  cases x with
  | non => cases r; rfl
  | bl _ => cases r; rfl
  | int _ => obtain ⟨t, rfl⟩ := r; rfl
  | str _ => obtain ⟨t, rfl⟩ := r; rfl
  | byt _ => obtain ⟨t, rfl⟩ := r; rfl
  | flt _ => obtain ⟨t, rfl⟩ := r; rfl
  | ref _ => cases r; rfl
  | ty _ => cases r; rfl
theorem RelV.inj {x y : V} {u : Value} (r : RelV x u) (q : RelV y u) : x = y := Option.some.inj (r.abs.symm.trans q.abs)
theorem Vals.inj : ∀ {xs ys : List V} {us : List Value}, Vals xs us → Vals ys us → xs = ys
  | _, _, _, .nil, .nil => rfl
  | _, _, _, .cons r t, .cons r' t' => by rw [r.inj r', Vals.inj t t']
section
variable {X : Cx} {pins : List (Addr × Obj)} {σ : St} {H : Hp} {s : Shared} {a : Addr} {xs ys : List V}
theorem SqL.of {K : PySem.W.Frag} (h : H a = some (.lst xs)) : SqL K H a xs := .inl (.inl h)
theorem SqT.of {K : PySem.W.Frag} (h : H a = some (.tup xs)) : SqT K H a xs := .inl (.inl h)
theorem Inv.list (I : Inv X pins σ H s) (h : SqL X.K H a xs) : ∃ its : List Value, Vals xs its ∧ PlainL s.heap a its.toArray ∧ xs.length ≤ sizeLine := by
  rcases h with h | ⟨o, its, n, hk, hc, hd, hs, hz, r⟩
  · obtain ⟨z, its, n, r, e⟩ := h.ok I.hok
    exact ⟨its, r, ⟨_, n, e, rfl, rfl, rfl⟩, z⟩
  · refine ⟨its.toList, r, ⟨o, n, I.kIn a o hk, hc, hd, by simpa using hs⟩, ?_⟩
    have e := r.length
    simp only [Array.length_toList] at e
    omega
theorem Inv.tuple (I : Inv X pins σ H s) (h : SqT X.K H a xs) : ∃ its : List Value, Vals xs its ∧ IsTup s.heap a its.toArray ∧ xs.length ≤ sizeLine := by
  rcases h with h | ⟨o, its, n, hk, hc, hs, hz, r⟩
  · obtain ⟨z, its, r, p⟩ := h.ok I.hok
    exact ⟨its, r, p, z⟩
  · refine ⟨its.toList, r, ⟨o, I.kIn a o hk, hc, n, by simpa using hs⟩, ?_⟩
    have e := r.length
    simp only [Array.length_toList] at e
    omega
theorem Inv.list_inj (I : Inv X pins σ H s) (h : SqL X.K H a xs) (h' : SqL X.K H a ys) : xs = ys := by
  obtain ⟨its, r, ⟨o, n, e, _, _, d⟩, _⟩ := I.list h
  obtain ⟨its', r', ⟨o', n', e', _, _, d'⟩, _⟩ := I.list h'
  rw [e] at e'; cases e'
  rw [d] at d'
  injection d' with d1 _
  have : its = its' := by simpa using congrArg Array.toList d1
  subst this
  exact r.inj r'
theorem Inv.tuple_inj (I : Inv X pins σ H s) (h : SqT X.K H a xs) (h' : SqT X.K H a ys) : xs = ys := by
  obtain ⟨its, r, ⟨o, e, _, n, d⟩, _⟩ := I.tuple h
  obtain ⟨its', r', ⟨o', e', _, n', d'⟩, _⟩ := I.tuple h'
  rw [e] at e'; cases e'
  rw [d] at d'
  injection d' with d1 _
  have : its = its' := by simpa using congrArg Array.toList d1
  subst this
  exact r.inj r'
end
abbrev Cx.wish (X : Cx) (E : Value → Shared → Prop) : Cx := { X with xe := E }
abbrev Cx.nox (X : Cx) : Cx := X.wish fun _ _ => False
theorem Cx.Ok.wish {X : Cx} (ok : X.Ok) (E : Value → Shared → Prop) : (X.wish E).Ok :=
  ⟨ok.mod, ok.kind, ok.glob, ok.blt, ok.above, ok.inj, ok.has, ok.cab, ok.hd, ok.frames, ok.stk, ok.exf, ok.bs, ok.bsz, ok.noex, ok.exfs, ok.funs, ok.frf⟩
theorem Cx.Ok.unwish {X : Cx} {E : Value → Shared → Prop} (ok : (X.wish E).Ok) : X.Ok :=
  ⟨ok.mod, ok.kind, ok.glob, ok.blt, ok.above, ok.inj, ok.has, ok.cab, ok.hd, ok.frames, ok.stk, ok.exf, ok.bs, ok.bsz, ok.noex, ok.exfs, ok.funs, ok.frf⟩
section
variable {X : Cx} {pins : List (Addr × Obj)} {σ : St} {H : Hp} {s : Shared} {E : Value → Shared → Prop}
theorem Inv.wish (I : Inv X pins σ H s) (E : Value → Shared → Prop) : Inv (X.wish E) pins σ H s := ⟨I.ok.wish E, I.os, I.bare, I.base, I.loc, I.cell, I.free, I.freeC, I.pin, I.hok, I.len⟩
theorem Inv.unwish (I : Inv (X.wish E) pins σ H s) : Inv X pins σ H s := ⟨I.ok.unwish, I.os, I.bare, I.base, I.loc, I.cell, I.free, I.freeC, I.pin, I.hok, I.len⟩
theorem SP.unwish {D : Ends} {f : Flow} {s' : Shared} (h : SP (X.wish E) pins D f s') : SP X pins D f s' := by
  cases f with
  | next => obtain ⟨σ', H', I, q⟩ := h; exact ⟨σ', H', I.unwish, q⟩
  | brk => obtain ⟨σ', H', I, q⟩ := h; exact ⟨σ', H', I.unwish, q⟩
  | cont => obtain ⟨σ', H', I, q⟩ := h; exact ⟨σ', H', I.unwish, q⟩
  | ret u => obtain ⟨v, σ', H', I, r, q⟩ := h; exact ⟨v, σ', H', I.unwish, r, q⟩
theorem PSs.nox {st : List Stmt} {t : TS} (h : PSs X.nox st t) : PSs X st t := fun pins s σ H D I hw =>
  wpAny_mono (h pins s σ H D (I.wish _) hw) (fun _ _ q => q.unwish) fun _ _ z => False.elim z
end
section
variable {X : Cx} {st : Stmt} {rest : List Stmt} {t u : TS} {e : Expr} {te : TE} {pos : Pos}
def tNext : TS := fun D σ H => D.nx σ H
def tSeq (t u : TS) : TS := fun D σ H => t { D with nx := u D } σ H
theorem pss_nil : PSs X [] tNext := fun _ _ σ H _ I h => wpAny_execs_nil ⟨σ, H, I, h⟩
theorem pss_cons (h1 : PS X st t) (h2 : PSs X rest u) : PSs X (st :: rest) (tSeq t u) := by
  intro pins s σ H D I h
  refine wpAny_execs_cons (thn (h1 pins s σ H { D with nx := u D } I h) fun f s1 q => ?_)
  cases f with
  | next =>
    obtain ⟨σ', H', I', q⟩ := q
    exact h2 pins s1 σ' H' D I' q
  | ret v => exact q
  | brk => exact q
  | cont => exact q
theorem pss_one (h1 : PS X st t) : PSs X [st] t := by
  intro pins s σ H D I h
  refine wpAny_execs_cons (thn (h1 pins s σ H D I h) fun f s1 q => ?_)
  cases f with
  | next => exact wpAny_execs_nil q
  | ret v => exact q
  | brk => exact q
  | cont => exact q
def tRet (te : TE) : TS := fun D σ H => te σ H D.rt
theorem ps_ret (he : PE X e te) : PS X (.Return (some e) pos) (tRet te) := by
  intro pins s σ H D I h
  exact wpAny_Return_some (thn (he pins s σ H _ I h) fun v s1 ⟨x, H1, I1, r1, q1⟩ => ⟨x, σ, H1, I1, r1, q1⟩)
def tIfS (c : TT) (t u : TS) : TS := fun D σ H => c σ H fun b H1 => if b = true then t D σ H1 else u D σ H1
theorem ps_if {c : Expr} {a b : List Stmt} {tc : TT} (hc : PT X c tc) (ha : PSs X a t) (hb : PSs X b u) : PS X (.If c a b pos) (tIfS tc t u) := by
  intro pins s σ H D I h
  refine wpAny_If (thn (hc pins s σ H _ I h) fun d s1 ⟨H1, I1, q1⟩ => ?_)
  cases d with
  | true => exact ha pins s1 σ H1 D I1 q1
  | false => exact hb pins s1 σ H1 D I1 q1
end
abbrev TG := V → St → Hp → (St → Hp → Prop) → Prop
abbrev TGs := List V → St → Hp → (St → Hp → Prop) → Prop
def PG (X : Cx) (target : Expr) (t : TG) : Prop :=
  ∀ (pins : List (Addr × Obj)) (s : Shared) (σ : St) (H : Hp) (v : V) (u : Value) (Q : St → Hp → Prop), Inv X pins σ H s → RelV v u → t v σ H Q →
    wpAny (model X.prog X.w) X.A (assign target X.env u) (fun _ s' => ∃ σ' H', Inv X pins σ' H' s' ∧ Q σ' H') X.xe s
def PGs (X : Cx) (ts : List Expr) (t : TGs) : Prop :=
  ∀ (pins : List (Addr × Obj)) (s : Shared) (σ : St) (H : Hp) (vs : List V) (us : List Value) (Q : St → Hp → Prop), Inv X pins σ H s → Vals vs us → t vs σ H Q →
    wpAny (model X.prog X.w) X.A (assignInOrder ((assignEach ts X.env).map (·.2)) us) (fun _ s' => ∃ σ' H', Inv X pins σ' H' s' ∧ Q σ' H') X.xe s
section
variable {X : Cx} {pos : Pos}
def gName (i : Nat) : TG := fun v σ H Q => Q (σ.set i (some v)) H
theorem pg_name {i : Nat} {x : Str} (hN : X.N.Nodup) (hi : X.N[i]? = some x) (hx : Loc X.env.scope x) (hf : X.fn x = true ∨ X.env.scope.names.lookup x = some .local := by first | exact .inl rfl | exact .inr rfl | assumption) : PG X (.Name x pos) (gName i) := by
  intro pins s σ H v u Q I r h
  exact wpAny_assign_Name (store_ok I hN hi hx r (fun s' I' => ⟨_, H, I', h⟩) hf)
def gNil : TGs := fun vs σ H Q => vs = [] ∧ Q σ H
def gCons (t : TG) (u : TGs) : TGs := fun vs σ H Q => ∃ v r, vs = v :: r ∧ t v σ H fun σ' H' => u r σ' H' Q
theorem pgs_nil : PGs X [] gNil := by
  intro pins s σ H vs us Q I r h
  obtain ⟨e, h⟩ := h
  subst e
  cases r
  exact assignInOrder_nil ⟨σ, H, I, h⟩
theorem pgs_cons {e : Expr} {es : List Expr} {t : TG} {u : TGs} (h1 : PG X e t) (h2 : PGs X es u)
    (hs : (assignEach (e :: es) X.env).map (·.2) = assign e X.env :: (assignEach es X.env).map (·.2) := by rfl) : PGs X (e :: es) (gCons t u) := by
  intro pins s σ H vs us Q I r h
  obtain ⟨v, vr, e1, h⟩ := h
  subst e1
  cases r with
  | cons r rr =>
    rw [hs]
    refine assignInOrder_cons (thn (h1 pins s σ H _ _ _ I r h) fun _ s1 ⟨σ1, H1, I1, q1⟩ => ?_)
    exact h2 pins s1 σ1 H1 _ _ Q I1 rr q1
def gTup (K : PySem.W.Frag) (n : Nat) (t : TGs) : TG := fun v σ H Q => ∃ a xs, v = .ref a ∧ SqT K H a xs ∧ xs.length = n ∧ t xs σ H Q
theorem pg_tup {es : List Expr} {k : Nat} {t : TGs} {n : Nat} (hc : X.calm = true) (h : PGs X es t)
    (hn : (assignEach es X.env).length = n := by rfl) (hst : (assignEach es X.env).findIdx? (·.1) = none := by rfl) : PG X (.Tuple es k pos) (gTup X.K n t) := by
  intro pins s σ H v u Q I r hw
  obtain ⟨a, xs, e1, hq, hl, hw⟩ := hw
  subst e1
  cases r
  obtain ⟨its, rv, ht, hz⟩ := I.tuple hq
  refine assign_Tuple_tuple (I.ok.hd hc) ht (by simp [hn, ← hl, rv.length]) hst fun h' hx => ?_
  have I1 : Inv X pins σ H { s with heap := h' } := I.kept (t' := s.toks) fun b o e => hx b o (Nat.ne_of_lt (Heap.lt_size e)) e
  exact h pins _ σ H xs _ Q I1 (by simpa using rv) hw
def tAsg (te : TE) (g : TG) : TS := fun D σ H => te σ H fun x H1 => g x σ H1 D.nx
theorem ps_set {i : Nat} {x : Str} {e : Expr} {te : TE} {pos' : Pos} (hN : X.N.Nodup) (hi : X.N[i]? = some x) (hx : Loc X.env.scope x) (he : PE X e te) (hs : swapsWith e (some (.Name x pos')) pos.line X.env = pure false := by rfl) (hf : X.fn x = true ∨ X.env.scope.names.lookup x = some .local := by first | exact .inl rfl | exact .inr rfl | assumption) :
    PS X (.Assign [.Name x pos'] e pos) (tAsg te (gName i)) := by
  intro pins s σ H D I h
  refine wpAny_Assign_Name (thn (he pins s σ H _ I h) fun v s1 ⟨y, H1, I1, r1, q1⟩ => ?_) hs
  exact store_ok I1 hN hi hx r1 (fun s2 I2 => ⟨_, H1, I2, q1⟩) hf
end
section
variable {X : Cx} {pos : Pos}
end
structure It where
  go : Nat → Hp → Prop
  yld : Nat → Hp → V → Hp → Prop
  stop : Nat → Hp → Prop
def FpOk (X : Cx) (pins : List (Addr × Obj)) (H : Hp) (b : Addr) : Prop :=
  H b = none ∧ b ≠ X.env.locals ∧ b ∉ X.fs ∧ (b ∈ X.ex ∨ X.s₀.heap.objs.size ≤ b) ∧ (∀ x c, X.env.cells.lookup x = some c → c ≠ b) ∧ ∀ p ∈ X.pn ++ pins, p.1 ≠ b
theorem Inv.fpOk {X : Cx} {pins : List (Addr × Obj)} {σ : St} {H H' : Hp} {s : Shared} {b : Addr} (I : Inv X pins σ H s) (hb : s.heap.objs.size ≤ b) (hn : H' b = none) : FpOk X pins H' b := by
  refine ⟨hn, Nat.ne_of_gt (Nat.lt_of_lt_of_le I.lt hb), I.nofs hb, .inr (Nat.le_trans I.sz hb), fun x c e z => ?_, fun p hp z => ?_⟩
  · obtain ⟨v, q⟩ := I.cell x c e
    exact absurd (Nat.lt_of_lt_of_le q.lt (by rw [z]; exact hb)) (Nat.lt_irrefl _)
  · exact absurd (Nat.lt_of_lt_of_le (Heap.lt_size (I.pin p hp).1) (by rw [z]; exact hb)) (Nat.lt_irrefl _)
structure Turn (P : Program) (w : World) (K : PySem.W.Frag) (tg : Expr) (J : It) (fp : List Addr) (it : Addr) (tn : Nat → Heap → Prop) : Prop where
  mem : it ∈ fp
  obj : ∀ i h, tn i h → ∀ b ∈ fp, ∃ o, h.get? b = some o ∧ ∀ v, o.data ≠ .cell v
  keep : ∀ i h h', tn i h → (∀ b ∈ fp, ∀ o, h.get? b = some o → h'.get? b = some o) → tn i h'
  item : ∀ (X : Cx), X.prog = P → X.w = w → X.K = K → X.calm = true → ∀ (i : Nat) (pins : List (Addr × Obj)) (s : Shared) (σ : St) (H : Hp) (E : Value → Shared → Prop), Inv X pins σ H s → (∀ b ∈ fp, FpOk X pins H b) → tn i s.heap → J.go i H →
    wpAny (model P w) X.A (pyNext (.ref it)) (fun r s1 => ∃ u, r = some u ∧
      wpAny (model P w) X.A (letOwnedTupleGo tg (.ref it) u) (fun _ s2 => ∃ x H', Inv X pins σ H' s2 ∧ RelV x u ∧ J.yld i H x H' ∧ tn (i + 1) s2.heap ∧ ∀ b ∈ fp, H' b = none) E s1) E s
  done : ∀ (X : Cx), X.prog = P → X.w = w → X.K = K → X.calm = true → ∀ (i : Nat) (pins : List (Addr × Obj)) (s : Shared) (σ : St) (H : Hp) (E : Value → Shared → Prop), Inv X pins σ H s → (∀ b ∈ fp, FpOk X pins H b) → tn i s.heap → J.stop i H →
    wpAny (model P w) X.A (pyNext (.ref it)) (fun r s1 => r = none ∧ Inv X pins σ H s1) E s
  self : ∀ (A : Around) (i : Nat) (s : Shared) (Q : Value → Shared → Prop) (E : Value → Shared → Prop), tn i s.heap → Q (.ref it) s → wpAny (model P w) A (pyIter (.ref it)) Q E s
abbrev TI := St → Hp → (It → Hp → Prop) → Prop
def PIE (X : Cx) (pins : List (Addr × Obj)) (σ : St) (tg : Expr) (R : It → Hp → Prop) (itv : Value) (s2 : Shared) : Prop :=
  ∃ (it : Addr) (fp : List Addr) (tn : Nat → Heap → Prop) (J : It) (H' : Hp), itv = .ref it ∧ Inv X pins σ H' s2 ∧ Turn X.prog X.w X.K tg J fp it tn ∧ tn 0 s2.heap ∧ (∀ b ∈ fp, FpOk X pins H' b) ∧ R J H'
def PI (X : Cx) (tg iter : Expr) (wi : TI) : Prop :=
  ∀ (pins : List (Addr × Obj)) (s : Shared) (σ : St) (H : Hp) (R : It → Hp → Prop), Inv X pins σ H s → wi σ H R →
    wpAny (model X.prog X.w) X.A (eval iter X.env) (fun v s1 => wpAny (model X.prog X.w) X.A (pyIter v) (PIE X pins σ tg R) X.xe s1) X.xe s
theorem go_of {M : Model} {A : Around} {E : Value → Shared → Prop} {s : Shared} {tg : Expr} {it : Addr} {u : Value} {o : Obj} {n : String} {vs : Array Value} {Q : Unit → Shared → Prop} (ho : s.heap.get? it = some o) (hc : o.cls = .type n) (hd : o.data = .fields vs)
    (hn : ["enumerate", "zip", "dict_itemiterator", "dict_reverseitemiterator", "odict_iterator", "itertools.zip_longest", "itertools.pairwise"].contains n = false) (hQ : Q () s) : wpAny M A (letOwnedTupleGo tg (.ref it) u) Q E s := by
  unfold letOwnedTupleGo
  cases tg <;> first
    | exact wpAny_pure hQ
    | (cases u <;> first
        | exact wpAny_pure hQ
        | (refine wpAny_bind (wpAny_load ho ?_)
           rw [hc, hd]
           show wpAny M A (if (["enumerate", "zip", "dict_itemiterator", "dict_reverseitemiterator", "odict_iterator", "itertools.zip_longest", "itertools.pairwise"].contains n && vs[0]? == some (rawInt _)) = true then _ else _) Q E s
           rw [if_neg (by intro h; rw [hn, Bool.false_and] at h; cases h)]
           exact wpAny_pure hQ))
def Itl (K : PySem.W.Frag) (a : Addr) : It :=
  ⟨fun i H => ∃ xs x, SqL K H a xs ∧ xs[i]? = some x, fun i H x H' => H' = H ∧ ∀ xs, SqL K H a xs → xs[i]? = some x, fun i H => ∃ xs, SqL K H a xs ∧ xs.length ≤ i⟩
def Itt (K : PySem.W.Frag) (a : Addr) : It :=
  ⟨fun i H => ∃ xs x, SqT K H a xs ∧ xs[i]? = some x, fun i H x H' => H' = H ∧ ∀ xs, SqT K H a xs → xs[i]? = some x, fun i H => ∃ xs, SqT K H a xs ∧ xs.length ≤ i⟩
def Itr (lo : Int) (n : Nat) : It := ⟨fun i _ => i < n, fun i H x H' => H' = H ∧ x = .int (lo + i), fun i _ => n ≤ i⟩
theorem turn_list {P : Program} {w : World} {K : PySem.W.Frag} {tg : Expr} (a it : Addr) : Turn P w K tg (Itl K a) [it] it (fun i h => h.IsListIter it a i) where
  mem := by simp
  obj := fun i h st b hb => by
    have e : b = it := by simpa using hb
    subst e
    obtain ⟨o, e, c, d⟩ := st
    exact ⟨o, e, fun v z => by rw [d] at z; cases z⟩
  keep := fun i h h' st k => st.at fun o e => k it (by simp) o e
  item := by
    intro X hP hw hK hc i pins s σ H E I hf st hg
    subst hP hw hK
    obtain ⟨xs, x, hq, hx⟩ := hg
    obtain ⟨its, rv, p, hz⟩ := I.list hq
    obtain ⟨u, hu, ru⟩ := rv.get hx
    obtain ⟨f0, f1, f2, f3, f4, f5⟩ := hf it (by simp)
    refine wpAny_pyNext_list_item st p.isList (x := u) (by simpa using hu) fun h' st' sb => ?_
    have I1 : Inv X pins σ H { s with heap := h' } := I.turned (t' := s.toks) (fun b o hb e => (sb.2 b hb).trans e) f0 f1 f3 f4 f5
    obtain ⟨o, e, c, d⟩ := id st'
    exact ⟨u, rfl, go_of (s := { s with heap := h' }) e c d (by decide) ⟨x, H, I1, ru, ⟨rfl, fun ys hy => by rw [I.list_inj hy hq]; exact hx⟩, st', fun b hb => (hf b hb).1⟩⟩
  done := by
    intro X hP hw hK hc i pins s σ H E I hf st hg
    subst hP hw hK
    obtain ⟨xs, hq, hx⟩ := hg
    obtain ⟨its, rv, p, hz⟩ := I.list hq
    obtain ⟨f0, f1, f2, f3, f4, f5⟩ := hf it (by simp)
    have hl := rv.length
    exact wpAny_pyNext_list_end (I.ok.hd hc) st p.isList (by simp; omega) fun h' eb => ⟨rfl, I.turned (t' := s.toks) (fun b o hb e => eb b o hb e) f0 f1 f3 f4 f5⟩
  self := fun _ _ _ _ _ st h => wpAny_pyIter_listiter st h
theorem turn_tuple {P : Program} {w : World} {K : PySem.W.Frag} {tg : Expr} (a it : Addr) : Turn P w K tg (Itt K a) [it] it (fun i h => h.IsTupleIter it a i) where
  mem := by simp
  obj := fun i h st b hb => by
    have e : b = it := by simpa using hb
    subst e
    obtain ⟨o, e, c, d⟩ := st
    exact ⟨o, e, fun v z => by rw [d] at z; cases z⟩
  keep := fun i h h' st k => st.at fun o e => k it (by simp) o e
  item := by
    intro X hP hw hK hc i pins s σ H E I hf st hg
    subst hP hw hK
    obtain ⟨xs, x, hq, hx⟩ := hg
    obtain ⟨its, rv, p, hz⟩ := I.tuple hq
    obtain ⟨u, hu, ru⟩ := rv.get hx
    obtain ⟨f0, f1, f2, f3, f4, f5⟩ := hf it (by simp)
    refine wpAny_pyNext_tuple_item st (show s.heap.IsTuple a its.toArray from p) (x := u) (by simpa using hu) fun h' st' sb => ?_
    have I1 : Inv X pins σ H { s with heap := h' } := I.turned (t' := s.toks) (fun b o hb e => (sb.2 b hb).trans e) f0 f1 f3 f4 f5
    obtain ⟨o, e, c, d⟩ := id st'
    exact ⟨u, rfl, go_of (s := { s with heap := h' }) e c d (by decide) ⟨x, H, I1, ru, ⟨rfl, fun ys hy => by rw [I.tuple_inj hy hq]; exact hx⟩, st', fun b hb => (hf b hb).1⟩⟩
  done := by
    intro X hP hw hK hc i pins s σ H E I hf st hg
    subst hP hw hK
    obtain ⟨xs, hq, hx⟩ := hg
    obtain ⟨its, rv, p, hz⟩ := I.tuple hq
    obtain ⟨f0, f1, f2, f3, f4, f5⟩ := hf it (by simp)
    have hl := rv.length
    exact wpAny_pyNext_tuple_end (I.ok.hd hc) st (show s.heap.IsTuple a its.toArray from p) (by simp; omega) fun h' eb => ⟨rfl, I.turned (t' := s.toks) (fun b o hb e => eb b o hb e) f0 f1 f3 f4 f5⟩
  self := fun _ _ _ _ _ st h => wpAny_pyIter_tupleiter st h
theorem turn_range {P : Program} {w : World} {K : PySem.W.Frag} {tg : Expr} (it : Addr) (lo : Int) (n : Nat) : Turn P w K tg (Itr lo n) [it] it (fun i h => IsRangeIter h it (lo + (i : Nat) * 1) ((n : Int) - (i : Nat)) 1) where
  mem := by simp
  obj := fun i h st b hb => by
    have e : b = it := by simpa using hb
    subst e
    exact ⟨_, st, fun v z => by
      have z' : Data.fields _ = Data.cell v := z
      cases z'⟩
  keep := fun i h h' st k => k it (by simp) _ st
  item := by
    intro X hP hw hK hc i pins s σ H E I hf st hg
    subst hP hw hK
    obtain ⟨f0, f1, f2, f3, f4, f5⟩ := hf it (by simp)
    have W := Walks.range (prog := X.prog) (w := X.w) (I.ok.hd hc) it lo 1 n
    refine W.item i s _ _ hg st fun v h' tk hv st' kk => ?_
    obtain ⟨t, rfl⟩ := hv
    have I1 : Inv X pins σ H { s with heap := h', toks := tk } := I.turned (fun b o hb e => kk b o (by simpa using hb) e) f0 f1 f3 f4 f5
    refine ⟨_, rfl, go_of (s := { s with heap := h', toks := tk }) (n := "range_iterator") st' rfl rfl (by decide) ⟨.int (lo + i), H, I1, ⟨t, ?_⟩, ⟨rfl, rfl⟩, st', fun b hb => (hf b hb).1⟩⟩
    rw [Int.mul_one]
  done := by
    intro X hP hw hK hc i pins s σ H E I hf st hg
    subst hP hw hK
    obtain ⟨f0, f1, f2, f3, f4, f5⟩ := hf it (by simp)
    exact wpAny_pyNext_range_end (I.ok.hd hc) st (by have : n ≤ i := hg; omega) fun h' eb => ⟨rfl, I.turned (t' := s.toks) (fun b o hb e => eb b o hb e) f0 f1 f3 f4 f5⟩
  self := fun _ _ _ _ _ st h => wpAny_pyIter_rangeiter st h
end L2
namespace L2
open PySem PySem.Spec PyProof.Rows
section
variable {X : Cx} {tg : Expr}
theorem range_it {pins : List (Addr × Obj)} {σ : St} {H : Hp} {s : Shared} {R : It → Hp → Prop} {E : Value → Shared → Prop} {lo hi : Int} {t u v : Tok} {tk : Nat} (I : Inv X pins σ H s) (h1 : -(2 ^ 62) ≤ lo) (h2 : lo < 2 ^ 62) (h3 : -(2 ^ 62) ≤ hi) (h4 : hi < 2 ^ 62)
    (q : R (Itr lo (hi - lo).toNat) H) : wpAny (model X.prog X.w) X.A (pyIter (.ref s.heap.objs.size)) (PIE X pins σ tg R) E { s with heap := s.heap.push { cls := .type "range", data := .fields #[.int lo t, .int hi u, .int 1 v] }, toks := tk } := by
  refine wpAny_pyIter_range (IsRange.new ..) (small_one h1 h2 h3 h4) ?_
  have I1 : Inv X pins σ H { s with heap := s.heap.push { cls := .type "range", data := .fields #[.int lo t, .int hi u, .int 1 v] }, toks := tk } := I.kept fun b o e => Heap.get?_push_of_some _ e
  refine ⟨(s.heap.push { cls := .type "range", data := .fields #[.int lo t, .int hi u, .int 1 v] }).objs.size, [(s.heap.push { cls := .type "range", data := .fields #[.int lo t, .int hi u, .int 1 v] }).objs.size], _, _, H, rfl,
    I1.kept (t' := tk) fun b o e => Heap.get?_push_of_some _ e, turn_range _ lo (hi - lo).toNat, ?_, fun b hb => ?_, q⟩
  · have e1 : lo + ((0 : Nat) : Int) * 1 = lo := by simp
    have e2 : (((hi - lo).toNat : Nat) : Int) - ((0 : Nat) : Int) = Builtin.Range.rangeSize lo hi 1 := by rw [rangeSize_one]; split <;> omega
    show IsRangeIter _ _ (lo + ((0 : Nat) : Int) * 1) ((((hi - lo).toNat : Nat) : Int) - ((0 : Nat) : Int)) 1
    rw [e1, e2]
    exact Heap.get?_push_size _ rfl
  · have e : b = (s.heap.push { cls := .type "range", data := .fields #[.int lo t, .int hi u, .int 1 v] }).objs.size := by simpa using hb
    subst e
    exact I1.fpOk (Nat.le_refl _) (I1.hok.fresh (Nat.le_refl _))
def iRng1 (ta : TA) : TI := fun σ H R => ta σ H fun vs H1 => ∃ j : Int, vs = [.int j] ∧ -(2 ^ 62) ≤ j ∧ j < 2 ^ 62 ∧ R (Itr 0 j.toNat) H1
theorem pi_range1 {a : Expr} {ta : TA} {p pos : Pos} (hg : Gl X "range") (hm : X.mg "range" = none) (ha : PA X [a] ta) (hs : starEach [a] X.env = [(false, eval a X.env)] := by rfl) : PI X tg (.Call (.Name "range" p) [a] [] pos) (iRng1 ta) := by
  intro pins s σ H R I h
  refine Call_ (ld_blt I hg hm boot_range (PyProof.Rows.callWith_type1 (thn (ha pos pins s σ H _ I h) fun us s1 ⟨vs, H1, I1, r1, q1⟩ => ?_) hs rfl))
  obtain ⟨j, e, q1, q2, q⟩ := q1
  subst e
  cases r1 with
  | cons r rr =>
    cases rr
    obtain ⟨t, rfl⟩ := r
    exact call_range_1 (range_it I1 (by omega) (by omega) q1 q2 (by simpa using q))
def tFor (wi : TI) (g : TG) (tb : TS) : TS := fun D σ H => wi σ H fun J H1 => ∃ W : Nat → Nat → St → Hp → Prop, (∃ m, W 0 m σ H1) ∧ ∀ i m σ H, W i m σ H →
  (J.stop i H ∧ D.nx σ H) ∨ (J.go i H ∧ ∃ N : St → Hp → Prop, (∀ σ' H', N σ' H' → ∃ m', m' < m ∧ W (i + 1) m' σ' H') ∧ ∀ x H', J.yld i H x H' → g x σ H' fun σ2 H2 => tb { D with nx := N, ct := N, bk := D.nx } σ2 H2)
def pinsAt (fp : List Addr) (h : Heap) : List (Addr × Obj) := fp.filterMap fun b => (h.get? b).map fun o => (b, o)
theorem mem_pinsAt {fp : List Addr} {h : Heap} {b : Addr} {o : Obj} (hb : b ∈ fp) (e : h.get? b = some o) : (b, o) ∈ pinsAt fp h := List.mem_filterMap.mpr ⟨b, hb, by rw [e]; rfl⟩
theorem of_pinsAt {fp : List Addr} {h : Heap} {p : Addr × Obj} (hp : p ∈ pinsAt fp h) : p.1 ∈ fp ∧ h.get? p.1 = some p.2 := by
  obtain ⟨b, hb, e⟩ := List.mem_filterMap.mp hp
  cases q : h.get? b with
  | none => rw [q] at e; cases e
  | some o =>
    rw [q] at e
    have e' : (b, o) = p := Option.some.inj e
    subst e'
    exact ⟨hb, q⟩
theorem Inv.pinned {pins : List (Addr × Obj)} {σ : St} {H : Hp} {s : Shared} {fp : List Addr} (I : Inv X pins σ H s) (hf : ∀ b ∈ fp, FpOk X pins H b) (ho : ∀ b ∈ fp, ∃ o, s.heap.get? b = some o ∧ ∀ v, o.data ≠ .cell v) : Inv X (pins ++ pinsAt fp s.heap) σ H s :=
  I.pins_of fun p hp => (List.mem_append.mp hp).elim (fun z => I.pin p (List.mem_append_right _ z)) fun z => by
    obtain ⟨hb, e⟩ := of_pinsAt z
    obtain ⟨f0, f1, f2, _⟩ := hf p.1 hb
    obtain ⟨o, e', d⟩ := ho p.1 hb
    rw [e] at e'; cases e'
    exact ⟨e, f0, f1, f2, d⟩
theorem Inv.unpinned {pins pl : List (Addr × Obj)} {σ : St} {H : Hp} {s : Shared} (I : Inv X (pins ++ pl) σ H s) : Inv X pins σ H s := I.pins_of fun p hp => I.pin p (List.mem_append_right _ (List.mem_append_left _ hp))
theorem ps_for {iter : Expr} {body : List Stmt} {wi : TI} {g : TG} {tb : TS} {pos : Pos} (hp : PassesOwn (model X.prog X.w) X.A X.env X.xe) (hc : X.calm = true) (hi : PI X tg iter wi) (hg : PG X tg g) (hb : PSs X body tb)
    (hs : ∀ x, foldedSetIterable iter X.env x = pure x := by intro _; rfl) : PS X (.For tg iter body [] pos) (tFor wi g tb) := by
  intro pins s σ H D I h
  refine wpAny_For (thn (hi pins s σ H _ I h) fun v s1 h1 => thn h1 fun itv s2 h2 => ?_) hs
  obtain ⟨it, fp, tn, J, H2, e, I2, T, st2, f2, W, ⟨m0, w0⟩, turn⟩ := h2
  subst e
  -- what stays true of the iterator's objects through the loop
  have stat : ∀ {H' : Hp}, (∀ b ∈ fp, H' b = none) → ∀ b ∈ fp, FpOk X pins H' b := fun hn b hb => ⟨hn b hb, (f2 b hb).2⟩
  refine codeAny_forLoop_any (fun n s' => ∃ i σ' H', Inv X pins σ' H' s' ∧ tn i s'.heap ∧ (∀ b ∈ fp, H' b = none) ∧ W i n σ' H') ?_ m0 ⟨0, σ, H2, I2, st2, fun b hb => (f2 b hb).1, w0⟩
  rintro n s3 ⟨i, σ3, H3, I3, st3, fr3, w3⟩
  rcases turn i n σ3 H3 w3 with ⟨stop, qn⟩ | ⟨go, N, hN, step⟩
  · refine wpAny_passesOwn hp (thn (T.done X rfl rfl rfl hc i pins s3 σ3 H3 X.xe I3 (stat fr3) st3 stop) fun r s4 ⟨hr, I4⟩ => ?_)
    subst hr
    exact wpAny_execs_nil ⟨σ3, H3, I4, qn⟩
  · refine wpAny_passesOwn hp (thn (T.item X rfl rfl rfl hc i pins s3 σ3 H3 X.xe I3 (stat fr3) st3 go) fun r s4 ⟨u, hr, h4⟩ => ?_)
    subst hr
    refine wpAny_passesOwn hp (thn h4 fun _ s5 ⟨x, H5, I5, r5, y5, st5, fr5⟩ => ?_)
    have I5' := I5.pinned (stat fr5) (T.obj _ _ st5)
    refine wpAny_passesOwn hp (thn (hg _ s5 σ3 H5 x u _ I5' r5 (step x H5 y5)) fun _ s6 ⟨σ6, H6, I6, q6⟩ => ?_)
    refine wpAny_passesOwn hp (thn (hb _ s6 σ6 H6 _ I6 q6) fun f s7 q7 => ?_)
    have again : ∀ {σ7 : St} {H7 : Hp}, Inv X (pins ++ pinsAt fp s5.heap) σ7 H7 s7 → N σ7 H7 → ∃ m, m < n ∧ ∃ i σ' H', Inv X pins σ' H' s7 ∧ tn i s7.heap ∧ (∀ b ∈ fp, H' b = none) ∧ W i m σ' H' := fun {σ7 H7} I7 n7 => by
      obtain ⟨m', hm, w7⟩ := hN σ7 H7 n7
      refine ⟨m', hm, i + 1, σ7, H7, I7.unpinned, T.keep _ _ _ st5 fun b hb o e => (I7.pin (b, o) (List.mem_append_right _ (List.mem_append_right _ (mem_pinsAt hb e)))).1, fun b hb => ?_, w7⟩
      obtain ⟨o, e, d⟩ := T.obj _ _ st5 b hb
      exact (I7.pin (b, o) (List.mem_append_right _ (List.mem_append_right _ (mem_pinsAt hb e)))).2.1
    cases f with
    | next => obtain ⟨σ7, H7, I7, n7⟩ := q7; exact again I7 n7
    | cont => obtain ⟨σ7, H7, I7, n7⟩ := q7; exact again I7 n7
    | brk => obtain ⟨σ7, H7, I7, q7⟩ := q7; exact ⟨σ7, H7, I7.unpinned, q7⟩
    | ret v => obtain ⟨x7, σ7, H7, I7, r7, q7⟩ := q7; exact ⟨x7, σ7, H7, I7.unpinned, r7, q7⟩
end
end L2
namespace L2
open PySem PySem.Spec PyProof.Rows
abbrev R2 := V → V → Hp → VK → Prop
def OpR (X : Cx) (f : Value → Value → Sem Value) (r : R2) : Prop :=
  ∀ (pins : List (Addr × Obj)) (s : Shared) (σ : St) (H : Hp) (x y : V) (v u : Value) (Q : VK), Inv X pins σ H s → RelV x v → RelV y u → r x y H Q →
    wpAny (model X.prog X.w) X.A (f v u) (EP X pins σ Q) X.xe s
def CallR (X : Cx) (f : Value) (r : List V → Hp → VK → Prop) : Prop :=
  ∀ (pins : List (Addr × Obj)) (s : Shared) (σ : St) (H : Hp) (xs : List V) (us : List Value) (Q : VK), Inv X pins σ H s → Vals xs us → r xs H Q →
    wpAny (model X.prog X.w) X.A (call f us) (EP X pins σ Q) X.xe s
def tOp (r : R2) (ta tb : TE) : TE := fun σ H Q => ta σ H fun x H1 => tb σ H1 fun y H2 => r x y H2 Q
def rI (C : Int → Int → Prop) (g : Int → Int → V) : R2 := fun x y H Q => ∃ i j, x = .int i ∧ y = .int j ∧ C i j ∧ Q (g i j) H
def rI0 (g : Int → Int → V) : R2 := fun x y H Q => ∃ i j, x = .int i ∧ y = .int j ∧ Q (g i j) H
section
variable {X : Cx} {a b c : Expr} {ta tb tc : TE} {pos : Pos}
theorem binT (ha : PE X a ta) (hb : PE X b tb) {pins : List (Addr × Obj)} {s : Shared} {σ : St} {H : Hp} {R : V → V → Hp → Prop} (I : Inv X pins σ H s)
    (h : ta σ H fun x H1 => tb σ H1 fun y H2 => R x y H2) {Q : Value → Shared → Prop} {f : Value → Value → Sem Value}
    (hf : ∀ v u s2 x y H2, Inv X pins σ H2 s2 → RelV x v → RelV y u → R x y H2 → wpAny (model X.prog X.w) X.A (f v u) Q X.xe s2) :
    wpAny (model X.prog X.w) X.A (eval a X.env) (fun v s₁ => wpAny (model X.prog X.w) X.A (eval b X.env) (fun u s₂ => wpAny (model X.prog X.w) X.A (f v u) Q X.xe s₂) X.xe s₁) X.xe s := by
  refine thn (ha pins s σ H _ I h) fun v s1 ⟨x, H1, I1, r1, q1⟩ => ?_
  refine thn (hb pins s1 σ H1 _ I1 q1) fun u s2 ⟨y, H2, I2, r2, q2⟩ => ?_
  exact hf v u s2 x y H2 I2 r1 r2 q2
theorem pe_op {op : Operator} {r : R2} (ho : OpR X (binaryOp op) r) (ha : PE X a ta) (hb : PE X b tb) : PE X (.BinOp a op b pos) (tOp r ta tb) := by
  intro pins s σ H Q I h
  exact wpAny_BinOp (binT ha hb I h fun v u s2 x y H2 I2 rx ry q => ho pins s2 σ H2 x y v u Q I2 rx ry q)
theorem opI {f : Value → Value → Sem Value} {C : Int → Int → Prop} {g : Int → Int → Int}
    (rule : ∀ (i j : Int) (t u : Tok) (s : Shared) (Q : Value → Shared → Prop) (E : Value → Shared → Prop), C i j → Q (.int (g i j) s.toks) { s with toks := s.toks + 1 } → wpAny (model X.prog X.w) X.A (f (.int i t) (.int j u)) Q E s) :
    OpR X f (rI C fun i j => .int (g i j)) := by
  intro pins s σ H x y v u Q I rx ry h
  obtain ⟨i, j, rfl, rfl, hc, q⟩ := h
  obtain ⟨t, rfl⟩ := rx
  obtain ⟨t', rfl⟩ := ry
  exact rule i j t t' s _ _ hc ⟨.int (g i j), H, I.tok _, ⟨_, rfl⟩, q⟩
theorem opI0 {f : Value → Value → Sem Value} {g : Int → Int → Int}
    (rule : ∀ (i j : Int) (t u : Tok) (s : Shared) (Q : Value → Shared → Prop) (E : Value → Shared → Prop), Q (.int (g i j) s.toks) { s with toks := s.toks + 1 } → wpAny (model X.prog X.w) X.A (f (.int i t) (.int j u)) Q E s) :
    OpR X f (rI0 fun i j => .int (g i j)) := by
  intro pins s σ H x y v u Q I rx ry h
  obtain ⟨i, j, rfl, rfl, q⟩ := h
  obtain ⟨t, rfl⟩ := rx
  obtain ⟨t', rfl⟩ := ry
  exact rule i j t t' s _ _ ⟨.int (g i j), H, I.tok _, ⟨_, rfl⟩, q⟩
theorem opB0 {f : Value → Value → Sem Value} {g : Int → Int → Bool}
    (rule : ∀ (i j : Int) (t u : Tok) (s : Shared) (Q : Value → Shared → Prop) (E : Value → Shared → Prop), Q (.bool (g i j)) s → wpAny (model X.prog X.w) X.A (f (.int i t) (.int j u)) Q E s) :
    OpR X f (rI0 fun i j => .bl (g i j)) := by
  intro pins s σ H x y v u Q I rx ry h
  obtain ⟨i, j, rfl, rfl, q⟩ := h
  obtain ⟨t, rfl⟩ := rx
  obtain ⟨t', rfl⟩ := ry
  exact rule i j t t' s _ _ ⟨.bl (g i j), H, I, rfl, q⟩
def CPow (i j : Int) : Prop := 0 ≤ j ∧ j ≤ 1000000 ∧ i.natAbs < 2 ^ 64
def CMul (i j : Int) : Prop := (-(2 ^ 64) < i ∧ i < 2 ^ 64) ∨ (-(2 ^ 64) < j ∧ j < 2 ^ 64)
theorem CMul.ok {i j : Int} (h : CMul i j) : IntMulOk i j := by
  rcases h with ⟨h1, h2⟩ | ⟨h1, h2⟩
  · exact .of_left (intBits_le_64 h1 h2)
  · exact .of_right (intBits_le_64 h1 h2)
theorem op_add : OpR X (binaryOp .Add) (rI0 fun i j => .int (i + j)) := opI0 fun _ _ _ _ _ _ _ q => add_int q
theorem op_sub : OpR X (binaryOp .Sub) (rI0 fun i j => .int (i - j)) := opI0 fun _ _ _ _ _ _ _ q => sub_int q
theorem op_mul : OpR X (binaryOp .Mult) (rI CMul fun i j => .int (i * j)) := opI fun _ _ _ _ _ _ _ hc q => mul_int q hc.ok
theorem op_mod : OpR X (binaryOp .Mod) (rI (fun _ j => 0 < j) fun i j => .int (i % j)) := opI fun i j _ _ _ _ _ hc q => by
  have h1 : (0 : Int) < j := hc
  exact mod_int' (by omega) (by rw [Int.fmod_eq_emod_of_nonneg i (by omega)]; exact q)
theorem op_pow : OpR X (binaryOp .Pow) (rI CPow fun i j => .int (i ^ j.toNat)) := opI fun _ _ _ _ _ _ _ hc q => pow_int_small hc.1 hc.2.1 hc.2.2 q
end
def scal : V → V → Bool
  | .non, .non => true | .non, .int _ => true | .int _, .non => true | .non, .bl _ => true | .bl _, .non => true | .non, .str _ => true | .str _, .non => true
  | .int _, .int _ => true | .bl _, .bl _ => true | .str _, .str _ => true | .byt _, .byt _ => true
  | .int _, .str _ => true | .str _, .int _ => true | .bl _, .str _ => true | .str _, .bl _ => true
  | _, _ => false
def rEq : R2 := fun x y H Q => scal x y = true ∧ Q (.bl (decide (x = y))) H
def rNe : R2 := fun x y H Q => scal x y = true ∧ Q (.bl (!decide (x = y))) H
theorem dec_int {i j : Int} : decide (V.int i = V.int j) = (i == j) := by
  rw [Bool.eq_iff_iff]
  simp
theorem dec_bl {i j : Bool} : decide (V.bl i = V.bl j) = (i == j) := by
  rw [Bool.eq_iff_iff]
  simp
theorem dec_str {i j : Str} : decide (V.str i = V.str j) = (i == j) := by
  rw [Bool.eq_iff_iff]
  simp
theorem dec_byt {i j : Array UInt8} : decide (V.byt i = V.byt j) = (i.toList == j.toList) := by
  rw [Bool.eq_iff_iff]
  cases i
  cases j
  simp
section
variable {X : Cx} {a b c : Expr} {ta tb tc : TE} {pos : Pos}
theorem fin_bl {pins : List (Addr × Obj)} {σ : St} {H : Hp} {s : Shared} {Q : VK} {k k' : Bool} (I : Inv X pins σ H s) (q : Q (.bl k) H) (e : k = k') : EP X pins σ Q (.bool k') s := by
  subst e
  exact ⟨.bl k, H, I, rfl, q⟩
theorem op_eq : OpR X (compareOp .Eq) rEq := by
  intro pins s σ H x y v u Q I rx ry h
  obtain ⟨hs, q⟩ := h
  cases x with
  | non =>
    cases rx
    cases y with
    | non => cases ry; exact PySem.EqNone.eq_none_none (fin_bl I q (by simp))
    | bl j => cases ry; exact PySem.EqNone.eq_none_bool (fin_bl I q (by simp))
    | int j => obtain ⟨t', rfl⟩ := ry; exact PySem.EqNone.eq_none_int (fin_bl I q (by simp))
    | str j => obtain ⟨t', rfl⟩ := ry; exact PySem.EqNone.eq_none_str (fin_bl I q (by simp))
    | _ => exact absurd (show false = true from hs) Bool.false_ne_true
  | bl i =>
    cases rx
    cases y with
    | non => cases ry; exact PySem.EqNone.eq_bool_none (fin_bl I q (by simp))
    | bl j => cases ry; exact eq_bool (fin_bl I q dec_bl)
    | str j => obtain ⟨t', rfl⟩ := ry; exact PySem.EqMixed.eq_bool_str (fin_bl I q (by simp))
    | _ => exact absurd (show false = true from hs) Bool.false_ne_true
  | int i =>
    obtain ⟨t, rfl⟩ := rx
    cases y with
    | non => cases ry; exact PySem.EqNone.eq_int_none (fin_bl I q (by simp))
    | int j => obtain ⟨t', rfl⟩ := ry; exact eq_int (fin_bl I q dec_int)
    | str j => obtain ⟨t', rfl⟩ := ry; exact PySem.EqMixed.eq_int_str (fin_bl I q (by simp))
    | _ => exact absurd (show false = true from hs) Bool.false_ne_true
  | str i =>
    obtain ⟨t, rfl⟩ := rx
    cases y with
    | non => cases ry; exact PySem.EqNone.eq_str_none (fin_bl I q (by simp))
    | bl j => cases ry; exact PySem.EqMixed.eq_str_bool (fin_bl I q (by simp))
    | int j => obtain ⟨t', rfl⟩ := ry; exact PySem.EqMixed.eq_str_int (fin_bl I q (by simp))
    | str j => obtain ⟨t', rfl⟩ := ry; exact eq_str (fin_bl I q dec_str)
    | _ => exact absurd (show false = true from hs) Bool.false_ne_true
  | byt i =>
    obtain ⟨t, rfl⟩ := rx
    cases y with
    | byt j => obtain ⟨t', rfl⟩ := ry; exact PySem.W.eq_bytes (fin_bl I q dec_byt)
    | _ => exact absurd (show false = true from hs) Bool.false_ne_true
  | _ => cases y <;> exact absurd (show false = true from hs) Bool.false_ne_true
theorem op_ne : OpR X (compareOp .NotEq) rNe := by
  intro pins s σ H x y v u Q I rx ry h
  obtain ⟨hs, q⟩ := h
  cases x with
  | non =>
    cases rx
    cases y with
    | non => cases ry; exact PySem.EqNone.ne_none_none (fin_bl I q (by simp))
    | bl j => cases ry; exact PySem.EqNone.ne_none_bool (fin_bl I q (by simp))
    | int j => obtain ⟨t', rfl⟩ := ry; exact PySem.EqNone.ne_none_int (fin_bl I q (by simp))
    | str j => obtain ⟨t', rfl⟩ := ry; exact PySem.EqNone.ne_none_str (fin_bl I q (by simp))
    | _ => exact absurd (show false = true from hs) Bool.false_ne_true
  | bl i =>
    cases rx
    cases y with
    | non => cases ry; exact PySem.EqNone.ne_bool_none (fin_bl I q (by simp))
    | bl j => cases ry; exact ne_bool (fin_bl I q (congrArg not dec_bl))
    | str j => obtain ⟨t', rfl⟩ := ry; exact PySem.EqMixed.ne_bool_str (fin_bl I q (by simp))
    | _ => exact absurd (show false = true from hs) Bool.false_ne_true
  | int i =>
    obtain ⟨t, rfl⟩ := rx
    cases y with
    | non => cases ry; exact PySem.EqNone.ne_int_none (fin_bl I q (by simp))
    | int j => obtain ⟨t', rfl⟩ := ry; exact ne_int (fin_bl I q (congrArg not dec_int))
    | str j => obtain ⟨t', rfl⟩ := ry; exact PySem.EqMixed.ne_int_str (fin_bl I q (by simp))
    | _ => exact absurd (show false = true from hs) Bool.false_ne_true
  | str i =>
    obtain ⟨t, rfl⟩ := rx
    cases y with
    | non => cases ry; exact PySem.EqNone.ne_str_none (fin_bl I q (by simp))
    | bl j => cases ry; exact PySem.EqMixed.ne_str_bool (fin_bl I q (by simp))
    | int j => obtain ⟨t', rfl⟩ := ry; exact PySem.EqMixed.ne_str_int (fin_bl I q (by simp))
    | str j => obtain ⟨t', rfl⟩ := ry; exact ne_str (fin_bl I q (congrArg not dec_str))
    | _ => exact absurd (show false = true from hs) Bool.false_ne_true
  | byt i =>
    obtain ⟨t, rfl⟩ := rx
    cases y with
    | byt j => obtain ⟨t', rfl⟩ := ry; exact PySem.W.ne_bytes (fin_bl I q (congrArg not dec_byt))
    | _ => exact absurd (show false = true from hs) Bool.false_ne_true
  | _ => cases y <;> exact absurd (show false = true from hs) Bool.false_ne_true
theorem op_gt : OpR X (compareOp .Gt) (rI0 fun i j => .bl (decide (j < i))) := opB0 fun _ _ _ _ _ _ _ q => gt_int q
theorem OpR.or {f : Value → Value → Sem Value} {r r' : R2} (h : OpR X f r) (h' : OpR X f r') : OpR X f (fun x y H Q => r x y H Q ∨ r' x y H Q) := by
  intro pins s σ H x y v u Q I rx ry q
  rcases q with q | q
  · exact h pins s σ H x y v u Q I rx ry q
  · exact h' pins s σ H x y v u Q I rx ry q
theorem nomark (b : Expr) {op : CmpOp} (h : op ≠ .In := by decide) (h2 : op ≠ .NotIn := by decide) : behindInMarks op b = false := by
  have e1 : (op == CmpOp.In) = false := by cases op <;> first | rfl | exact absurd rfl h
  have e2 : (op == CmpOp.NotIn) = false := by cases op <;> first | rfl | exact absurd rfl h2
  cases b <;> simp [behindInMarks, e1, e2]
theorem pe_cmpR {op : CmpOp} {r : R2} (ho : OpR X (compareOp op) r) (ha : PE X a ta) (hb : PE X b tb) (hm : behindInMarks op b = false) : PE X (.Compare a [op] [b] pos) (tOp r ta tb) := by
  intro pins s σ H Q I h
  exact wpAny_Compare1 (binT ha hb I h fun v u s2 x y H2 I2 rx ry q => ho pins s2 σ H2 x y v u Q I2 rx ry q) hm
def tTest (t : TE) : TT := fun σ H Q => t σ H fun x H' => ∃ k, x = .bl k ∧ Q k H'
theorem pt_cmpR {op : CmpOp} {r : R2} (ho : OpR X (compareOp op) r) (ha : PE X a ta) (hb : PE X b tb) (hm : behindInMarks op b = false) : PT X (.Compare a [op] [b] pos) (tTest (tOp r ta tb)) := by
  intro pins s σ H Q I h
  refine wpAny_isTrue_Compare1 (thn (ha pins s σ H _ I h) fun v s1 ⟨x, H1, I1, r1, q1⟩ => thn (hb pins s1 σ H1 _ I1 q1) fun u s2 ⟨y, H2, I2, r2, q2⟩ =>
    thn (ho pins s2 σ H2 x y v u _ I2 r1 r2 q2) fun c s3 ⟨z, H3, I3, r3, k, e, q3⟩ => ?_) hm
  subst e
  cases r3
  exact wpAny_truthy_bool ⟨H3, I3, q3⟩
theorem line63 : (sizeLine : Nat) < 2 ^ 63 := by rw [sizeLine_eq]; decide
theorem op_add_str : OpR X (binaryOp .Add) (fun x y H Q => ∃ i j, x = .str i ∧ y = .str j ∧ i.length + j.length ≤ sizeLine ∧ Q (.str (i ++ j)) H) := by
  intro pins s σ H x y v u Q I rx ry h
  obtain ⟨i, j, rfl, rfl, hz, q⟩ := h
  obtain ⟨t, rfl⟩ := rx
  obtain ⟨t', rfl⟩ := ry
  exact add_str (fun t' tk => ⟨.str (i ++ j), H, I.tok _, ⟨_, rfl⟩, q⟩) hz
theorem vals1 {x : V} {us : List Value} (r : Vals [x] us) : ∃ u, us = [u] ∧ RelV x u := by
  cases r with
  | cons r1 r2 => cases r2; exact ⟨_, rfl, r1⟩
theorem vals2 {x y : V} {us : List Value} (r : Vals [x, y] us) : ∃ u w', us = [u, w'] ∧ RelV x u ∧ RelV y w' := by
  cases r with
  | cons r1 r2 =>
    cases r2 with
    | cons r3 r4 => cases r4; exact ⟨_, _, rfl, r1, r3⟩
end
end L2
namespace L2
open PySem PySem.Spec PyProof.Rows
section
variable {prog : Program} {w : World} {A : Around} {E : Value → Shared → Prop} {s : Shared} {K : PySem.W.Frag} {x dx C f : Addr} {mA : Str → Option Value} {name : Str} {v : Value}
end
theorem RelO.some_of {v : V} {o : Option Value} (r : RelO (some v) o) : ∃ u, o = some u ∧ RelV v u := by
  cases o with
  | none => exact (show False from r).elim
  | some u => exact ⟨u, rfl, r⟩
section
variable {P : Program} {w : World} {H H' : Hp} {h h' : Heap} {a C dx : Addr} {fs fs' : List (Str × V)}
end
section
variable {X : Cx} {pins : List (Addr × Obj)} {σ : St} {H : Hp} {s : Shared} {a C dx : Addr} {fs : List (Str × V)} {f : Str} {v : V} {A : Around} {E : Value → Shared → Prop}
theorem attr_of {prog : Program} {w : World} {env : Env} {e : Expr} {f : Str} {pos : Pos} {s : Shared} {Q : Value → Shared → Prop} (hb : attributeBase e f env (eval e env) = eval e env)
    (h : wpAny (model prog w) A (eval e env) (fun o s₁ => wpAny (model prog w) A (getAttr o f true) Q E s₁) E s) : wpAny (model prog w) A (eval (.Attribute e f pos) env) Q E s :=
  Attribute_any_ h (by rw [arm_eval_Attribute, hb])
end
section
variable {X : Cx} {o e value : Expr} {f : Str} {pos pos' tpos : Pos} {ta tv : TE}
end
section
variable {X : Cx} {pins : List (Addr × Obj)} {σ : St} {H : Hp} {s : Shared} {A : Around} {E : Value → Shared → Prop} {Q : Value → Shared → Prop} {c : Value} {b : Bool}
end
end L2
namespace L2
open PySem PySem.Spec PyProof.Rows
structure Room (k : Nat) (A : Around) : Prop where
  hd : A.handled = none
  dp : A.depth + 3 * k + 5 < recursionLimit
  un : A.units + 16 * k + 200 < cLine
theorem Room.mono {j k : Nat} {A : Around} (r : Room k A) (h : j ≤ k) : Room j A := ⟨r.hd, by have := r.dp; omega, by have := r.un; omega⟩
theorem Room.deeper {k : Nat} {A : Around} (r : Room (k + 1) A) (env : Env) : Room k (A.deeper env) :=
  ⟨r.hd, by have := r.dp; show A.depth + 1 + 3 * k + 5 < _; omega, by have := r.un; show A.units + 3 + 16 * k + 200 < _; omega⟩
theorem make_depth {A : Around} {C : Addr} {us : List Value} {kw : List (Str × Value)} : (A.under (.builtin "type.__call__" ⟨.ref C :: us, kw⟩)).depth = A.depth + 1 := by
  first | rfl | simp [Around.under, Code.weight, Code.isCreation, Code.isGuard, Code.isCaller, Code.frames, Code.isFrame, guardIds]
theorem make_units {A : Around} {C : Addr} {us : List Value} {kw : List (Str × Value)} : (A.under (.builtin "type.__call__" ⟨.ref C :: us, kw⟩)).units = A.units + 1 := by
  first | rfl | simp [Around.under, Code.cUnits, Code.frames, Code.isFrame]
theorem Room.make {k : Nat} {A : Around} (r : Room (k + 1) A) (C : Addr) (us : List Value) (kw : List (Str × Value)) : Room k (A.under (.builtin "type.__call__" ⟨.ref C :: us, kw⟩)) :=
  ⟨r.hd, by have := r.dp; rw [make_depth]; omega, by have := r.un; rw [make_units]; omega⟩
theorem Room.depth {k : Nat} {A : Around} (r : Room k A) : A.depth < recursionLimit := by have := r.dp; omega
theorem Room.units {k : Nat} {A : Around} (r : Room k A) : A.units + 64 < cLine := by have := r.un; omega
def tNil : TA := fun _ H Q => Q [] H
def tCons (ta : TE) (tr : TA) : TA := fun σ H Q => ta σ H fun x H1 => tr σ H1 fun xs H2 => Q (x :: xs) H2
section
variable {X : Cx} {e : Expr} {es : List Expr} {te : TE} {t : TA} {pos : Pos}
theorem pa_nil : PA X [] tNil := fun _ _ _ _ H Q I h => Calls.spliced_nil ⟨[], H, I, .nil, h⟩
theorem pa_cons (ha : PE X e te) (hr : PA X es t) (hs : starEach (e :: es) X.env = (false, eval e X.env) :: starEach es X.env := by rfl) : PA X (e :: es) (tCons te t) := by
  intro pos pins s σ H Q I h
  rw [hs]
  show wpAny _ _ (spliced ((false, eval e X.env) :: backTo pos (starEach es X.env))) _ _ s
  refine Calls.spliced_cons (thn (ha pins s σ H _ I h) fun u s1 ⟨x, H1, I1, r1, q1⟩ => ?_)
  exact thn (hr pos pins s1 σ H1 _ I1 q1) fun us s2 ⟨xs, H2, I2, r2, q2⟩ => ⟨x :: xs, H2, I2, .cons r1 r2, q2⟩
def tLst (t : TA) : TE := fun σ H Q => t σ H fun xs H1 => xs.length ≤ sizeLine ∧ ∀ p, H1 p = none → Q (.ref p) (upd H1 p (.lst xs))
theorem pe_lst (h : PA X es t) : PE X (.List es pos) (tLst t) := by
  intro pins s σ H Q I hq
  refine wpAny_List_spliced (thn (h pos pins s σ H _ I hq) fun us s1 ⟨xs, H1, I1, r, z, q⟩ => ⟨by rw [← r.length]; exact z, ?_⟩)
  have hf : H1 s1.heap.objs.size = none := I1.hok.fresh (Nat.le_refl _)
  refine ⟨.ref s1.heap.objs.size, upd H1 s1.heap.objs.size (.lst xs), I1.laid (t' := s1.toks) (fun b u e => Heap.get?_push_of_some _ e) (Nat.le_refl _) ?_, rfl, q _ hf⟩
  exact ⟨z, us, 0, r, Heap.get?_push_size _ rfl⟩
end
abbrev Sp := List V → Hp → VK → XK → Prop
abbrev CXT := List Env → Hp → Shared → XK → Value → Shared → Prop
structure Env0 (P : Program) (w : World) (K : PySem.W.Frag) (mg : Str → Option Value) (base : Heap) (A : Around) (outer : List Env) (s : Shared) (H : Hp) : Prop where
  frames : A.frames = some outer
  mod : Mod K mg base
  bs : ∀ b o, base.get? b = some o → s.heap.get? b = some o ∧ H b = none
  bsz : base.objs.size ≤ s.heap.objs.size
  funs : s.heap.FunFrames base outer
  frf : ∀ b ∈ frs outer, H b = none
  hok : HOk P w H s.heap
  bare : AllBare s.gens
def CE (outer : List Env) (P : Program) (w : World) (H : Hp) (s : Shared) (Q : VK) (u : Value) (s' : Shared) : Prop :=
  ∃ v H', s'.os = s.os ∧ AllBare s'.gens ∧ Un (frs outer) [] H H' s.heap s'.heap ∧ HOk P w H' s'.heap ∧ RelV v u ∧ Q v H'
def CR (CX : CXT) (outer : List Env) (P : Program) (w : World) (H : Hp) (s : Shared) (Q : VK) (E : XK) (r : Result) (s' : Shared) : Prop :=
  match r with
  | .ok (.ret u) => CE outer P w H s Q u s'
  | .ok _ => False
  | .error e => CX outer H s E e s'
structure FnOk (P : Program) (w : World) (K : PySem.W.Frag) (mg : Str → Option Value) (base : Heap) (CX : CXT) (k : Nat) (f : Addr) (fd : FuncData) (ps : List Str) (sp : Sp) : Prop where
  len : ∀ vs H Q E, sp vs H Q E → vs.length = ps.length
  run : ∀ (A : Around) (outer : List Env) (s : Shared) (H : Hp) (args : Args) (us : List Value) (vs : List V) (Q : VK) (E : XK), Room k A → Env0 P w K mg base A outer s H → BindsTo s fd args (ps.zip us) → Vals vs us → sp vs H Q E →
    codeAny (model P w) A (.call (.ref f) args) (CR CX outer P w H s Q E) s
theorem FnOk.imp {P : Program} {w : World} {K : PySem.W.Frag} {mg : Str → Option Value} {base : Heap} {CX : CXT} {k : Nat} {f : Addr} {fd : FuncData} {ps : List Str} {sp sp' : Sp} (F : FnOk P w K mg base CX k f fd ps sp)
    (h : ∀ vs H Q E, sp' vs H Q E → sp vs H Q E) : FnOk P w K mg base CX k f fd ps sp' :=
  ⟨fun vs H Q E q => F.len vs H Q E (h _ _ _ _ q), fun A outer s H args us vs Q E hr he hb hv hs => F.run A outer s H args us vs Q E hr he hb hv (h _ _ _ _ hs)⟩
theorem Env0.make {P : Program} {w : World} {K : PySem.W.Frag} {mg : Str → Option Value} {base : Heap} {A : Around} {outer : List Env} {s : Shared} {H : Hp} (e : Env0 P w K mg base A outer s H) (C : Addr) (us : List Value) (kw : List (Str × Value)) :
    Env0 P w K mg base (A.under (.builtin "type.__call__" ⟨.ref C :: us, kw⟩)) outer s H := ⟨by first | exact e.frames | (simpa [Around.under, Code.envs, Code.isFrame, pushEnvs] using e.frames), e.mod, e.bs, e.bsz, e.funs, e.frf, e.hok, e.bare⟩
section
variable {X : Cx} {pins : List (Addr × Obj)} {σ : St} {H : Hp} {s s' : Shared}
theorem Inv.env0 (I : Inv X pins σ H s) : Env0 X.prog X.w X.K X.mg X.base X.A X.stack s H :=
  ⟨I.ok.frames, I.ok.mod, I.bs, Nat.le_trans I.ok.bsz I.sz, I.stack, I.stkFree, I.hok, I.bare⟩
theorem Inv.after {Q : VK} {u : Value} (I : Inv X pins σ H s) (h : CE X.stack X.prog X.w H s Q u s') : EP X pins σ Q u s' := by
  obtain ⟨v, H', os, bare, un, hok, r, q⟩ := h
  obtain ⟨hh, g, d, t, os'⟩ := s'
  obtain rfl : os' = s.os := os
  exact ⟨v, H', I.call (h' := hh) (g' := g) (d' := d) (t' := t) (ch := []) un hok bare (fun b z => absurd z (by simp)), r, q⟩
end
def tCall (sp : Sp) (dvs : List V) (E : XK) (t : TA) : TE := fun σ H Q => t σ H fun vs H1 => sp (vs ++ dvs) H1 Q E
def Binds (K : PySem.W.Frag) (fd : FuncData) (ps : List Str) (ds : List Value) : Prop :=
  ∀ (s : Shared) (us : List Value), K.In s.heap → (us ++ ds).length = ps.length → BindsTo s fd ⟨us, []⟩ (ps.zip (us ++ ds))
theorem Binds.all {K : PySem.W.Frag} {fd : FuncData} {ps : List Str} (h : ∀ us : List Value, us.length = ps.length → bindArgs fd ⟨us, []⟩ = pure (ps.zip us)) : Binds K fd ps [] := fun s us _ hl => by
  rw [List.append_nil] at hl ⊢
  exact .of_eq (h us hl)
def Passes (CX : CXT) (X : Cx) (E : XK) : Prop := ∀ (pins : List (Addr × Obj)) (σ : St) (H : Hp) (s : Shared) (e : Value) (s' : Shared), Inv X pins σ H s → CX X.stack H s E e s' → X.xe e s'
section
variable {X : Cx} {CX : CXT} {k : Nat} {f C : Addr} {fd : FuncData} {ps : List Str} {sp : Sp} {dvs : List V} {ds : List Value} {E : XK} {x m : Str} {p pos apos : Pos} {e o : Expr} {es : List Expr} {ta : TE} {t : TA}
theorem run_fn {pins : List (Addr × Obj)} {σ : St} {H : Hp} {s : Shared} {Q : VK} {us : List Value} {vs : List V} (F : FnOk X.prog X.w X.K X.mg X.base CX k f fd ps sp) (hr : Room k X.A) (hb : Binds X.K fd ps ds) (hd : Vals dvs ds) (hx : Passes CX X E)
    (I : Inv X pins σ H s) (r : Vals vs us) (h : sp (vs ++ dvs) H Q E) : wpAny (model X.prog X.w) X.A (call (.ref f) us) (EP X pins σ Q) X.xe s := by
  have r2 : Vals (vs ++ dvs) (us ++ ds) := r.append hd
  have hl : (us ++ ds).length = ps.length := by rw [← r2.length]; exact F.len _ _ _ _ h
  refine wpAny_call (codeAny_mono (F.run X.A X.stack s H ⟨us, []⟩ (us ++ ds) (vs ++ dvs) Q E hr I.env0 (hb s us I.kIn hl) r2 h) fun r s' hq => ?_)
  cases r with
  | error e => exact hx pins σ H s e s' I hq
  | ok fl =>
    cases fl with
    | ret u => exact I.after hq
    | next => exact False.elim hq
    | brk => exact False.elim hq
    | cont => exact False.elim hq
theorem pe_call (F : FnOk X.prog X.w X.K X.mg X.base CX k f fd ps sp) (hr : Room k X.A) (hg : Gl X x) (hm : X.mg x = some (.ref f)) (hk : PySem.W.keepIn X.K (.ref f) = true) (hb : Binds X.K fd ps ds) (hd : Vals dvs ds) (hx : Passes CX X E)
    (ha : PA X (e :: es) t) (hdb : (x == ("__debug__" : Str)) = false := by decide) (he : starEach (e :: es) X.env = (false, eval e X.env) :: starEach es X.env := by rfl) (hpl : (backTo pos (starEach es X.env)).any (·.1) = false := by rfl) :
    PE X (.Call (.Name x p) (e :: es) [] pos) (tCall sp dvs E t) := by
  intro pins s σ H Q I h
  refine wpAny_Call_Name_kw (ld_glob I hg hm ?_ hdb)
  refine PySem.W.callWith_K (h₀ := X.base) I.ok.mod.kin hk (thn (ha pos pins s σ H _ I h) fun us s1 ⟨vs, H1, I1, r, q⟩ => ⟨I1.kIn, ?_⟩) he hpl
  exact run_fn F hr hb hd hx I1 r q
end
section
variable {X : Cx} {CX : CXT} {k : Nat} {f C : Addr} {fd : FuncData} {ps ks : List Str} {sp : Sp} {E : XK} {x m : Str} {p pos apos kpos : Pos} {e o : Expr} {es : List Expr} {kws : List Keyword} {te ta : TE} {t tk : TA} {nm : Option Str}
variable {g : List Value → List Value → List Value} {gV : List V → List V → List V}
end
structure FnScope (N P : List Str) (sc : Scope) : Prop where
  kind : sc.kind = .function
  co : sc.isCoroutine = false
  gen : sc.isGenerator = false
  nd : N.Nodup
  pre : N.take P.length = P
  par : ∀ x ∈ P, sc.names.lookup x = some .local ∨ sc.names.lookup x = some .cell
  nofree : ∀ y ∈ sc.names, y.2 ≠ .free
theorem bindL_out {kindOf : Str → Option NameKind} {x : Str} : ∀ {binds : List (Str × Value)} {m : Str → Option Value}, (∀ v, (x, v) ∉ binds) → bindL kindOf binds m x = m x
  | [], _, _ => rfl
  | (n, v) :: r, m, h => by
    unfold bindL
    rw [bindL_out fun w hw => h w (List.mem_cons_of_mem _ hw)]
    split
    · have : x ≠ n := by rintro rfl; exact h v List.mem_cons_self
      simp [this]
    · rfl
theorem bindC_out {kindOf : Str → Option NameKind} {x : Str} : ∀ {binds : List (Str × Value)} {m : Str → Option Value}, (∀ v, (x, v) ∉ binds) → bindC kindOf binds m x = m x
  | [], _, _ => rfl
  | (n, v) :: r, m, h => by
    unfold bindC
    rw [bindC_out fun w hw => h w (List.mem_cons_of_mem _ hw)]
    split
    · rfl
    · have : x ≠ n := by rintro rfl; exact h v List.mem_cons_self
      simp [this]
theorem bindL_get {kindOf : Str → Option NameKind} {x : Str} {v : Value} : ∀ {P : List Str} {vs : List Value} {i : Nat} {m : Str → Option Value}, P.Nodup → P[i]? = some x → vs[i]? = some v → kindOf x = some .local →
    bindL kindOf (P.zip vs) m x = some v
  | [], _, _, _, _, h, _, _ => by simp at h
  | _ :: _, [], _, _, _, _, h, _ => by simp at h
  | p :: P, w :: vs, 0, m, nd, h1, h2, hk => by
    simp at h1 h2; subst h1; subst h2
    show bindL kindOf ((p, w) :: P.zip vs) m p = _
    unfold bindL
    rw [bindL_out fun v hv => (List.nodup_cons.mp nd).1 (List.of_mem_zip hv).1, if_pos hk]
    simp
  | p :: P, w :: vs, i + 1, m, nd, h1, h2, hk => by
    show bindL kindOf ((p, w) :: P.zip vs) m x = _
    unfold bindL
    exact bindL_get (i := i) (List.nodup_cons.mp nd).2 (by simpa using h1) (by simpa using h2) hk
theorem bindC_get {kindOf : Str → Option NameKind} {x : Str} {v : Value} : ∀ {P : List Str} {vs : List Value} {i : Nat} {m : Str → Option Value}, P.Nodup → P[i]? = some x → vs[i]? = some v → kindOf x ≠ some .local →
    bindC kindOf (P.zip vs) m x = some v
  | [], _, _, _, _, h, _, _ => by simp at h
  | _ :: _, [], _, _, _, _, h, _ => by simp at h
  | p :: P, w :: vs, 0, m, nd, h1, h2, hk => by
    simp at h1 h2; subst h1; subst h2
    show bindC kindOf ((p, w) :: P.zip vs) m p = _
    unfold bindC
    rw [bindC_out fun v hv => (List.nodup_cons.mp nd).1 (List.of_mem_zip hv).1, if_neg hk]
    simp
  | p :: P, w :: vs, i + 1, m, nd, h1, h2, hk => by
    show bindC kindOf ((p, w) :: P.zip vs) m x = _
    unfold bindC
    exact bindC_get (i := i) (List.nodup_cons.mp nd).2 (by simpa using h1) (by simpa using h2) hk
def start (N : List Str) (vs : List V) : St := vs.map some ++ List.replicate (N.length - vs.length) none
def cxOf (CX : CXT) (P : Program) (w : World) (K : PySem.W.Frag) (mg : Str → Option Value) (base : Heap) (N : List Str) (qual : Str) (scope : Scope) (f : Addr) (cd : Value) (A : Around) (outer : List Env) (s : Shared) (H : Hp) (E : XK) : Cx where
  prog := P
  w := w
  K := K
  mg := mg
  base := base
  A := A.deeper (envOfC qual scope s.heap.objs.size f cd)
  N := N
  s₀ := s
  H₀ := H
  env := envOfC qual scope s.heap.objs.size f cd
  outer := outer
  stack := envOfC qual scope s.heap.objs.size f cd :: outer
  ex := []
  calm := true
  fn := fun _ => true
  pn := []
  xe := fun e s' => wpAny (model P w) (A.deeper (envOfC qual scope s.heap.objs.size f cd)) (leaving (envOfC qual scope s.heap.objs.size f cd) e) (fun _ s'' => CX outer H s E e s'') (fun e' s'' => CX outer H s E e' s'') s'
theorem cell_has {sc : Scope} {n : Nat} {x : Str} (h : sc.names.lookup x = some .cell) : ∃ c, (cellsFrom n sc.names []).lookup x = some c := by
  have q := PySem.W.cellsFrom_some sc.names n [] (.inl h)
  exact Option.isSome_iff_exists.mp q
theorem inv_start {CX : CXT} {P : Program} {w : World} {K : PySem.W.Frag} {mg : Str → Option Value} {base : Heap} {N ps : List Str} {qual : Str} {scope : Scope} {f : Addr} {cd : Value} {A : Around} {outer : List Env} {s s1 : Shared} {H : Hp} {E : XK} {us : List Value} {vs : List V}
    (S : FnScope N ps scope) (hd : A.handled = none) (e0 : Env0 P w K mg base A outer s H) (hl : vs.length = ps.length) (r : Vals vs us)
    (x : InCallC s s.heap.objs.size (bindL (envOfC qual scope s.heap.objs.size f cd).kindOf (ps.zip us) fun _ => none) (cellsFrom (s.heap.objs.size + 1) scope.names []) (bindC (envOfC qual scope s.heap.objs.size f cd).kindOf (ps.zip us) fun _ => none) s1) :
    Inv (cxOf CX P w K mg base N qual scope f cd A outer s H E) [] (start N vs) H s1 := by
  have hpl : ps.length ≤ N.length := by have := congrArg List.length S.pre; rw [List.length_take] at this; omega
  obtain ⟨h1, tk, rfl, hk⟩ := x.done
  have noA : ∀ b : Addr, b ∉ (cxOf CX P w K mg base N qual scope f cd A outer s H E).ex := fun b z => absurd (show b ∈ ([] : List Addr) from z) (by simp)
  refine ⟨⟨e0.mod, S.kind, rfl, rfl, Nat.le_refl _, fun y z c h1 h2 => ?_, fun y hy => ?_, fun y c _ h => ?_, fun _ => hd, Around.frames_deeper e0.frames, .inr ⟨rfl, rfl⟩, fun b z => absurd z (noA b), e0.bs, e0.bsz, fun b _ _ => noA b, fun b z => absurd z (noA b), e0.funs, e0.frf⟩,
    rfl, e0.bare, Un.kept hk, ⟨_, x.toInCall.ns, fun i y v h1 h2 h3 => ?_⟩, fun y c h => ⟨_, x.cell y c h⟩, e0.hok.fresh (Nat.le_refl _), fun y c h => ?_, fun p hp => absurd (show p ∈ ([] : List (Addr × Obj)) from hp) (by simp), e0.hok.kept hk, ?_⟩
  · exact name_of_addr x.apart (PySem.mem_of_lookup h1) (PySem.mem_of_lookup h2)
  · have hy : scope.names.lookup y = some .cell ∨ scope.names.lookup y = some .free := hy
    rcases hy with hy | hy
    · exact cell_has hy
    · exact absurd rfl (S.nofree _ (PySem.mem_of_lookup hy))
  · exact Nat.le_of_lt (x.above y c (PySem.mem_of_lookup h))
  · have hi : i < vs.length := by
      unfold start at h2
      by_cases hi : i < vs.length
      · exact hi
      · rw [List.getElem?_append_right (by simpa using hi)] at h2
        rw [List.getElem?_replicate] at h2
        split at h2 <;> cases h2
    have ha : vs[i]? = some v := by
      unfold start at h2
      rw [List.getElem?_append_left (by simpa using hi), List.getElem?_map] at h2
      cases e : vs[i]? with
      | none => rw [e] at h2; cases h2
      | some a => rw [e] at h2; cases h2; rfl
    obtain ⟨u, hu, rv⟩ := r.get ha
    have hp : ps[i]? = some y := by
      rw [← S.pre, List.getElem?_take_of_lt (by omega)]; exact h1
    have ndP : ps.Nodup := by rw [← S.pre]; exact S.nd.sublist (List.take_sublist _ _)
    refine ⟨u, rv, ?_⟩
    rcases S.par y (List.mem_of_getElem? hp) with k | k
    · exact .inl ⟨k, bindL_get ndP hp hu k⟩
    · obtain ⟨c, e⟩ := cell_has (n := s.heap.objs.size + 1) k
      refine .inr ⟨.inl k, c, e, ?_⟩
      have q := x.cell y c e
      rw [bindC_get ndP hp hu (by show scope.names.lookup y ≠ _; rw [k]; decide)] at q
      exact q
  · exact e0.hok.fresh (Nat.le_of_lt (x.above y c (PySem.mem_of_lookup h)))
  · unfold start
    show _ = N.length
    rw [List.length_append, List.length_map, List.length_replicate]
    omega
theorem fn_of {CX : CXT} {P : Program} {w : World} {K : PySem.W.Frag} {mg : Str → Option Value} {base : Heap} {k : Nat} {f : Addr} {name qual : Str} {params : Arguments} {body : List Stmt} {scope : Scope} {dV kV doc pm cdv ct oc : Value} {an od : Option Addr}
    {osl : Array (Option Value)} {N ps : List Str} {sp : Sp} (lk : K.lookup f = some ⟨oc, od, .func (PySem.W.fnOf name qual params body scope dV kV doc pm an cdv ct), osl⟩) (hcd : PySem.W.codeIn K cdv qual = true) (S : FnScope N ps scope)
    (len : ∀ vs H Q E, sp vs H Q E → vs.length = ps.length)
    (hbody : ∀ (A : Around) (outer : List Env) (s : Shared) (H : Hp) (vs : List V) (Q : VK) (E : XK), Room k (A.deeper (envOfC qual scope s.heap.objs.size f cdv)) → sp vs H Q E →
      ∃ t, PSs (cxOf CX P w K mg base N qual scope f cdv A outer s H E) body t ∧ t { nx := fun _ H' => Q .non H', rt := Q } (start N vs) H) :
    FnOk P w K mg base CX (k + 1) f (PySem.W.fnOf name qual params body scope dV kV doc pm an cdv ct) ps sp := by
  refine ⟨len, fun A outer s H args us vs Q E hr e0 hb r hsp => ?_⟩
  have hl := len _ _ _ _ hsp
  have KX : K.In s.heap := e0.mod.kin.keeps fun b o e => (e0.bs b o e).1
  have lim : s.heap.NoLimit := e0.mod.nolimit.keeps fun b o e => (e0.bs b o e).1
  have hkind : ∀ y ∈ ps.zip us, scope.names.lookup y.1 = some .local ∨ (scope.names.lookup y.1 = some .cell ∧ ((cellsFrom (s.heap.objs.size + 1) scope.names []).lookup y.1).isSome = true) := fun ⟨n, v⟩ hy => by
    rcases S.par n (List.of_mem_zip hy).1 with q | q
    · exact .inl q
    · exact .inr ⟨q, PySem.W.cellsFrom_some _ _ _ (.inl q)⟩
  refine codeAny_call_function hr.depth (KX _ _ lk) rfl S.co S.gen rfl (PySem.W.codeRec_of KX hcd) (hb _ _ _ _ ?_)
  refine wpAny_newFunctionEnv_cells S.kind hkind fun env he s1 x => ?_
  subst he
  refine ⟨lim.keeps x.toInCall.keep, codeAny_func ?_⟩
  obtain ⟨t, ht, hq⟩ := hbody A outer s H vs Q E (hr.deeper _) hsp
  have I : Inv (cxOf CX P w K mg base N qual scope f cdv A outer s H E) [] (start N vs) H s1 := inv_start S hr.hd e0 hl r x
  refine wpAny_mono (ht [] s1 (start N vs) H _ I hq) (fun fl s' hs => ?_) fun e s' hs => hs
  have fin : ∀ {σ' : St} {H' : Hp} {v : V} {u : Value}, Inv (cxOf CX P w K mg base N qual scope f cdv A outer s H E) [] σ' H' s' → RelV v u → Q v H' → CE outer P w H s Q u s' :=
    fun {σ' H' v u} J rv q => ⟨v, H', J.os, J.bare, J.base, J.hok, rv, q⟩
  cases fl with
  | ret u =>
    obtain ⟨v, σ', H', J, rv, q⟩ := hs
    exact fin J rv q
  | next =>
    obtain ⟨σ', H', J, q⟩ := hs
    exact fin (v := V.non) (u := Value.none) J rfl q
  | brk =>
    obtain ⟨_, _, _, q⟩ := hs
    exact False.elim q
  | cont =>
    obtain ⟨_, _, _, q⟩ := hs
    exact False.elim q
end L2
namespace L2
open PySem PySem.Spec PyProof.Rows
section
variable {X : Cx} {x : Str} {p pos : Pos} {e : Expr} {es : List Expr} {t : TA} {id T : String} {r : List V → Hp → VK → Prop}
def tCB (r : List V → Hp → VK → Prop) (t : TA) : TE := fun σ H Q => t σ H fun vs H1 => r vs H1 Q
theorem pe_callB (hc : CallR X (.builtin id) r) (hg : Gl X x) (hm : X.mg x = none) (hv : bootBuiltins x = some (.builtin id)) (ha : PA X (e :: es) t) (hn : x ≠ "__name__" := by decide) (hdb : (x == ("__debug__" : Str)) = false := by decide)
    (he : starEach (e :: es) X.env = (false, eval e X.env) :: starEach es X.env := by rfl) (hpl : (backTo pos (starEach es X.env)).any (·.1) = false := by rfl) : PE X (.Call (.Name x p) (e :: es) [] pos) (tCB r t) := by
  intro pins s σ H Q I h
  refine wpAny_Call_Name_kw (ld_blt I hg hm hv ?_ hn hdb)
  exact PyProof.Rows.callWith_builtin1 (thn (ha pos pins s σ H _ I h) fun us s1 ⟨vs, H1, I1, r1, q1⟩ => hc pins s1 σ H1 vs us Q I1 r1 q1) he hpl
end
end L2
namespace HT
open PySem PyProof.Rows
section
open PySem.SeqAt
open PySem.AutoSeq1 (wpAny_loadPart')
open PySem.MeetsSeq PySem.MeetsSeq2 PySem.MeetsSeq3
end
section
variable {prog : Program} {w : World} {A : Around} {E : Value → Shared → Prop} {s : Shared}
theorem cat_tup {t b : Addr} {vs ws : List Value} {Q : Value → Shared → Prop} (ht : IsTup s.heap t vs.toArray) (hb : IsTup s.heap b ws.toArray) (hv : vs ≠ [])
    (h1 : ws = [] → Q (.ref t) s) (h2 : ws ≠ [] → Q (.ref s.heap.objs.size) { s with heap := s.heap.push { cls := .type "tuple", data := .seq (vs ++ ws).toArray } })
    (hsz : vs.length + ws.length ≤ sizeLine) : wpAny (model prog w) A (binaryOp .Add (.ref t) (.ref b)) Q E s := by
  obtain ⟨⟨cls, dd, data, sl⟩, ho, hc, n, hd⟩ := id ht
  obtain ⟨⟨cls2, dd2, data2, sl2⟩, ho2, hc2, n2, hd2⟩ := id hb
  simp only at hc hd hc2 hd2
  subst hc hd hc2 hd2
  have e : vs.toArray ++ ws.toArray = (vs ++ ws).toArray := by simp
  by_cases hw : ws = []
  · exact concat_meets ⟨_, ho, rfl⟩ ⟨_, ho2, rfl⟩ noFill_tuple_add seq_tuple_add PySem.F.slot_tuple_add PySem.F.entry_tuple_add (PySem.F.args_tuple_add_2 _ _)
      (tuple_addW1 t b vs.toArray ws.toArray n n2 dd dd2 sl sl2 (by simpa using hv) (by simp [hw])) ⟨ho, ho2, h1 hw⟩
  · refine concat_meets ⟨_, ho, rfl⟩ ⟨_, ho2, rfl⟩ noFill_tuple_add seq_tuple_add PySem.F.slot_tuple_add PySem.F.entry_tuple_add (PySem.F.args_tuple_add_2 _ _)
      (tuple_addW2 t b vs.toArray ws.toArray n n2 dd dd2 sl sl2 (by simpa using hv) (by simpa using hw) (by rw [List.size_toArray, List.size_toArray]; exact hsz)) ⟨ho, ho2, ?_⟩
    rw [e]
    exact h2 hw
end
end HT
namespace L2
open PySem PySem.Spec PyProof.Rows
section
variable {X : Cx} {e : Expr} {te : TE} {lo hi : Option Expr} {tl th : TO} {pos p2 : Pos}
def rCatT (K : PySem.W.Frag) : R2 := fun x y H Q => ∃ a b xs ys, x = .ref a ∧ y = .ref b ∧ SqT K H a xs ∧ SqT K H b ys ∧ xs ≠ [] ∧ xs.length + ys.length ≤ sizeLine ∧
  (ys = [] → Q (.ref a) H) ∧ (ys ≠ [] → ∀ p, H p = none → Q (.ref p) (upd H p (.tup (xs ++ ys))))
theorem Vals.nil_iff {xs : List V} {us : List Value} (r : Vals xs us) : us = [] ↔ xs = [] := by
  cases r with
  | nil => simp
  | cons _ _ => simp
theorem op_catT : OpR X (binaryOp .Add) (rCatT X.K) := by
  intro pins s σ H x y v u Q I rx ry h
  obtain ⟨a, b, xs, ys, rfl, rfl, ha, hb, hx, hz, q1, q2⟩ := h
  cases rx
  cases ry
  obtain ⟨its, r1, p1, _⟩ := I.tuple ha
  obtain ⟨its2, r2, p2, _⟩ := I.tuple hb
  refine HT.cat_tup p1 p2 (fun z => hx (r1.nil_iff.mp z)) (fun z => ⟨.ref a, H, I, rfl, q1 (r2.nil_iff.mp z)⟩) (fun z => ?_) (by rw [← r1.length, ← r2.length]; exact hz)
  refine ⟨.ref s.heap.objs.size, _, I.laid (t' := s.toks) (o := .tup (xs ++ ys)) (fun b ob q => Heap.get?_push_of_some _ q) (Nat.le_refl _) ?_, rfl, q2 (fun w => z (r2.nil_iff.mpr w)) _ (I.hok.fresh (Nat.le_refl _))⟩
  exact ⟨by rw [List.length_append]; exact hz, _, r1.append r2, IsTup.new _ _⟩
end
end L2
namespace L2
open PySem PySem.Spec PyProof.Rows
def ixN (n : Nat) (i : Int) : Option Nat := if 0 ≤ i then (if i < n then some i.toNat else none) else if -(n : Int) ≤ i then some (i + n).toNat else none
def atI {α : Type} (xs : List α) (i : Int) : Option α := (ixN xs.length i).bind fun j => xs[j]?
theorem ixN_seq {n : Nat} {i : Int} {j : Nat} (h : ixN n i = some j) : seqIndex? i n = some j ∧ j < n ∧ -(n : Int) ≤ i ∧ i < n := by
  unfold ixN at h
  by_cases h0 : 0 ≤ i
  · rw [if_pos h0] at h
    by_cases h1 : i < n
    · rw [if_pos h1] at h
      have e : i.toNat = j := Option.some.inj h
      exact ⟨by rw [seqIndex_of h0 h1, e], by omega, by omega, h1⟩
    · rw [if_neg h1] at h; cases h
  · rw [if_neg h0] at h
    by_cases h1 : -(n : Int) ≤ i
    · rw [if_pos h1] at h
      have e : (i + n).toNat = j := Option.some.inj h
      exact ⟨by rw [seqIndex_neg (by omega) h1, e], by omega, h1, by omega⟩
    · rw [if_neg h1] at h; cases h
theorem atI_get {α : Type} {xs : List α} {i : Int} {v : α} (h : atI xs i = some v) : ∃ j, seqIndex? i xs.length = some j ∧ xs[j]? = some v ∧ j < xs.length ∧ -(xs.length : Int) ≤ i ∧ i < xs.length := by
  unfold atI at h
  cases e : ixN xs.length i with
  | none => rw [e] at h; cases h
  | some j =>
    rw [e] at h
    obtain ⟨h1, h2, h3, h4⟩ := ixN_seq e
    exact ⟨j, h1, h, h2, h3, h4⟩
theorem atI_nat {α : Type} {xs : List α} {j : Nat} {v : α} (h : xs[j]? = some v) : atI xs (j : Int) = some v := by
  have hj : j < xs.length := (List.getElem?_eq_some_iff.mp h).1
  have e : ixN xs.length (j : Int) = some j := by
    unfold ixN
    rw [if_pos (by omega), if_pos (by omega)]; simp
  unfold atI; rw [e]; exact h
def PlainIx (b : Expr) : Prop := ∀ o i, subscripted b false o i = operate [o, i] (getItem o i)
def IxR (X : Cx) (r : R2) : Prop :=
  ∀ (value slice : Expr) (pins : List (Addr × Obj)) (s : Shared) (σ : St) (H : Hp) (x y : V) (v u : Value) (Q : VK), Inv X pins σ H s → RelV x v → RelV y u → r x y H Q →
    subscripted slice false v u = operate [v, u] (getItem v u) → wpAny (model X.prog X.w) X.A (subscriptTail value slice v u) (EP X pins σ Q) X.xe s
section
variable {X : Cx} {a b : Expr} {ta tb : TE} {pos : Pos}
theorem IxR.or {r r' : R2} (h : IxR X r) (h' : IxR X r') : IxR X (fun x y H Q => r x y H Q ∨ r' x y H Q) := by
  intro value slice pins s σ H x y v u Q I rx ry q hs
  rcases q with q | q
  · exact h value slice pins s σ H x y v u Q I rx ry q hs
  · exact h' value slice pins s σ H x y v u Q I rx ry q hs
theorem pe_ix {r : R2} (hr : IxR X r) (ha : PE X a ta) (hb : PE X b tb) (hs : PlainIx b) : PE X (.Subscript a b pos) (tOp r ta tb) := by
  intro pins s σ H Q I h
  exact Subscript_ (binT ha hb I h fun v u s2 x y H2 I2 rx ry q => hr a b pins s2 σ H2 x y v u Q I2 rx ry q (hs _ _))
def rIxL (K : PySem.W.Frag) : R2 := fun x y H Q => ∃ p xs i v, x = .ref p ∧ y = .int i ∧ SqL K H p xs ∧ atI xs i = some v ∧ Q v H
def rIxT (K : PySem.W.Frag) : R2 := fun x y H Q => ∃ p xs i v, x = .ref p ∧ y = .int i ∧ SqT K H p xs ∧ atI xs i = some v ∧ Q v H
def rIxS : R2 := fun x y H Q => ∃ z i c, x = .str z ∧ y = .int i ∧ z.length ≤ sizeLine ∧ atI z.cps.toList i = some c ∧ Q (.str ⟨#[c]⟩) H
theorem ix_list : IxR X (rIxL X.K) := by
  intro value slice pins s σ H x y v u Q I rx ry h hs
  obtain ⟨p, xs, i, z, rfl, rfl, hq, he, q⟩ := h
  cases rx
  obtain ⟨t, rfl⟩ := ry
  obtain ⟨its, r, pl, hz⟩ := I.list hq
  obtain ⟨j, h1, h2, h3, h4, h5⟩ := atI_get he
  obtain ⟨w, ew, rw'⟩ := r.get h2
  have hl := r.length
  have hn := line63
  have fin : EP X pins σ Q w s := ⟨z, H, I, rw', q⟩
  by_cases h0 : 0 ≤ i
  · have hj : i.toNat = j := by
      rw [seqIndex_of h0 h5] at h1
      exact Option.some.inj h1
    exact item_listR pl.isList h0 (by omega) (by rw [hj]; simpa using ew) fin hs
  · have hj : (i + (its.toArray.size : Int)).toNat = j := by
      rw [seqIndex_neg (by omega) h4] at h1
      rw [List.size_toArray, ← hl]
      exact Option.some.inj h1
    exact subscriptTail_builtinR (x := w) pl.isList.typeIs slot_list_getitem.lookup
      (wpAny_getItem_list_neg (Q := fun r s' => r = w ∧ EP X pins σ Q r s') pl.isList (by omega) (by rw [List.size_toArray] <;> omega) (by omega) (by rw [hj]; simpa using ew) ⟨rfl, fin⟩) hs
theorem ix_tup : IxR X (rIxT X.K) := by
  intro value slice pins s σ H x y v u Q I rx ry h hs
  obtain ⟨p, xs, i, z, rfl, rfl, hq, he, q⟩ := h
  cases rx
  obtain ⟨t, rfl⟩ := ry
  obtain ⟨its, r, pl, hz⟩ := I.tuple hq
  obtain ⟨j, h1, h2, h3, h4, h5⟩ := atI_get he
  obtain ⟨w, ew, rw'⟩ := r.get h2
  have hl := r.length
  have hn := line63
  have fin : EP X pins σ Q w s := ⟨z, H, I, rw', q⟩
  exact subscriptTail_builtinR (x := w) pl.typeIs slot_tuple_getitem.lookup
    (getItem_tuple (j := j) (Q := fun r s' => r = w ∧ EP X pins σ Q r s') pl (by omega) (by omega) (by rw [List.size_toArray, ← hl]; exact h1) (by simpa using ew) ⟨rfl, fin⟩) hs
theorem ix_str : IxR X rIxS := by
  intro value slice pins s σ H x y v u Q I rx ry h hs
  obtain ⟨z, i, c, rfl, rfl, hz, he, q⟩ := h
  obtain ⟨t, rfl⟩ := rx
  obtain ⟨t', rfl⟩ := ry
  obtain ⟨j, h1, h2, h3, h4, h5⟩ := atI_get he
  have hl : z.cps.toList.length = z.length := by simp [Str.length]
  rw [hl] at h1 h4 h5
  have hn := line63
  exact tail_any (typeIs_str s z t) slot_str_getitem.lookup (getItem_str (c := c) (by
    have e1 : decide (i < -(2 ^ 63 : Int)) = false := decide_eq_false (by omega)
    have e2 : decide (i ≥ 2 ^ 63) = false := decide_eq_false (by omega)
    rw [e1, e2, Bool.or_false]) (by rw [h1]; simpa using h2) ⟨.str ⟨#[c]⟩, H, I.tok _, ⟨_, rfl⟩, q⟩) hs
theorem call_len_seq : CallR X (.builtin "len") (fun xs H Q => ∃ p ys, xs = [.ref p] ∧ (SqL X.K H p ys ∨ SqT X.K H p ys) ∧ Q (.int ys.length) H) := by
  intro pins s σ H xs us Q I r h
  obtain ⟨p, ys, rfl, hq, q⟩ := h
  obtain ⟨u, rfl, rx⟩ := vals1 r
  cases rx
  have hn := line63
  rcases hq with hq | hq
  · obtain ⟨its, r', pl, hz⟩ := I.list hq
    have hlen := r'.length
    exact Calls.call_len_list pl.isList (by simp only [List.size_toArray] <;> omega) ⟨.int ys.length, H, I.tok _, ⟨s.toks + 1, by rw [List.size_toArray, hlen]⟩, q⟩
  · obtain ⟨its, r', pl, hz⟩ := I.tuple hq
    have hlen := r'.length
    exact len_tuple pl (by simp only [List.size_toArray] <;> omega) ⟨.int ys.length, H, I.tok _, ⟨s.toks + 1, by rw [List.size_toArray, hlen]⟩, q⟩
theorem call_len_str : CallR X (.builtin "len") (fun xs H Q => ∃ z, xs = [.str z] ∧ z.length ≤ sizeLine ∧ Q (.int z.length) H) := by
  intro pins s σ H xs us Q I r h
  obtain ⟨z, rfl, hz, q⟩ := h
  obtain ⟨u, rfl, t, rfl⟩ := vals1 r
  have hn := line63
  exact len_str (by omega) ⟨.int z.length, H, I.tok _, ⟨_, rfl⟩, q⟩
theorem CallR.or {f : Value} {r r' : List V → Hp → VK → Prop} (h : CallR X f r) (h' : CallR X f r') : CallR X f (fun xs H Q => r xs H Q ∨ r' xs H Q) := by
  intro pins s σ H xs us Q I rs q
  rcases q with q | q
  · exact h pins s σ H xs us Q I rs q
  · exact h' pins s σ H xs us Q I rs q
variable {o e : Expr} {es : List Expr} {to : TE} {t : TA} {name : Str} {apos cpos : Pos} {T id : String} {r : V → List V → Hp → VK → Prop}
end
end L2
namespace L2
open PySem PySem.Spec PyProof.Rows
def MtM (X : Cx) (id : String) (r : V → List V → Hp → VK → Prop) : Prop :=
  ∀ (pins : List (Addr × Obj)) (s : Shared) (σ : St) (H : Hp) (x : V) (xs : List V) (v : Value) (us : List Value) (Q : VK), Inv X pins σ H s → RelV x v → Vals xs us → r x xs H Q →
    wpAny (model X.prog X.w) X.A (call (.builtin id) (v :: us)) (EP X pins σ Q) X.xe s
theorem Vals.one : ∀ {x : V} {us : List Value}, Vals [x] us → ∃ u, us = [u] ∧ RelV x u
  | _, _, .cons r .nil => ⟨_, rfl, r⟩
theorem Vals.rep {xs : List V} {us : List Value} (h : Vals xs us) : ∀ k : Nat, Vals (List.replicate k xs).flatten (List.replicate k us).flatten
  | 0 => .nil
  | k + 1 => by
    rw [List.replicate_succ, List.replicate_succ, List.flatten_cons, List.flatten_cons]
    exact Vals.append h (Vals.rep h k)
theorem foldl_rep (its : List Value) : ∀ (k : Nat) (acc : List Value),
    List.foldl (fun x1 x2 => x1 ++ x2) acc.toArray (List.replicate k its.toArray) = (acc ++ (List.replicate k its).flatten).toArray
  | 0, acc => by simp
  | k + 1, acc => by
    have e : acc.toArray ++ its.toArray = (acc ++ its).toArray := by simp
    have e2 : (acc ++ its) ++ (List.replicate k its).flatten = acc ++ (List.replicate (k + 1) its).flatten := by
      rw [List.replicate_succ, List.flatten_cons, List.append_assoc]
    rw [← e2, ← foldl_rep its k (acc ++ its), ← e, List.replicate_succ, List.foldl_cons]
section
variable {X : Cx} {pins : List (Addr × Obj)} {σ : St} {H : Hp} {s : Shared} {l b : Addr} {xs ys zs : List V}
theorem Inv.lset {its its' : List Value} {n : Nat} {f : Array Value → Array Value} {t' : Nat} (I : Inv X pins σ H s) (hH : H l = some (.lst xs))
    (e : s.heap.get? l = some { cls := .type "list", data := .seq its.toArray n }) (hf : f its.toArray = its'.toArray) (hv : Vals ys its') (hz : ys.length ≤ sizeLine) :
    Inv X pins σ (upd H l (.lst ys)) { s with heap := s.heap.update l (Obj.mapSeq f), toks := t' } := by
  have q := PySem.IsL.update e f
  rw [hf] at q
  refine I.write (x := l) (e := l) (by rw [hH]; exact trivial) (.inl rfl) (fun b' u hb hu => (Heap.get?_update_other s.heap (Obj.mapSeq f) (Ne.symm hb)).trans hu) ⟨_, q⟩ ?_
  exact ⟨hz, its', _, hv, q⟩
theorem Inv.lnew {its : List Value} {t' : Nat} (I : Inv X pins σ H s) (hv : Vals ys its) (hz : ys.length ≤ sizeLine) :
    Inv X pins σ (upd H s.heap.objs.size (.lst ys)) { s with heap := s.heap.push { cls := .type "list", data := .seq its.toArray }, toks := t' } :=
  I.laid (fun _ _ q => Heap.get?_push_of_some _ q) (Nat.le_refl _) ⟨hz, its, 0, hv, Heap.get?_push_size _ rfl⟩
theorem Inv.fresh (I : Inv X pins σ H s) : H s.heap.objs.size = none := I.hok.fresh (Nat.le_refl _)
theorem Inv.lstM (I : Inv X pins σ H s) (hH : H l = some (.lst xs)) : xs.length ≤ sizeLine ∧ ∃ (its : List Value) (n : Nat), Vals xs its ∧ xs.length = its.length ∧ s.heap.get? l = some { cls := .type "list", data := .seq its.toArray n } := by
  obtain ⟨z, its, n, r, e⟩ := I.hok l _ hH
  exact ⟨z, its, n, r, r.length, e⟩
theorem notLongL {n : Nat} (h : n ≤ sizeLine) : Builtin.List.listTooLong n = false := by
  unfold Builtin.List.listTooLong
  exact decide_eq_false (by omega)
end
section
variable {X : Cx}
def rAppend : V → List V → Hp → VK → Prop := fun x vs H Q => ∃ l xs y, x = .ref l ∧ vs = [y] ∧ H l = some (.lst xs) ∧ xs.length < sizeLine ∧ Q .non (upd H l (.lst (xs ++ [y])))
theorem mt_append : MtM X "list.append" rAppend := by
  intro pins s σ H x vs v us Q I rx rv h
  obtain ⟨l, xs, y, rfl, rfl, hH, hz, q⟩ := h
  cases rx
  obtain ⟨u, rfl, ru⟩ := rv.one
  obtain ⟨z, its, n, r, hl, e⟩ := I.lstM hH
  refine call_meets F.slot_list_append ⟨_, e, rfl⟩ F.entry_list_append (F.args_list_append_2 _ _) (PySem.list_append l its.toArray n u (by rw [List.size_toArray]; omega)) ⟨e, ?_⟩
  refine ⟨.non, _, I.lset (its' := its ++ [u]) hH e (by simp) (r.append (.cons ru .nil)) ?_, rfl, q⟩
  rw [List.length_append, List.length_singleton]
  omega
def rRep : R2 := fun x y H Q => ∃ l k xs, x = .ref l ∧ y = .int k ∧ H l = some (.lst xs) ∧ -(2 ^ 63) ≤ k ∧ k < 2 ^ 63 ∧ xs.length * k.toNat ≤ sizeLine ∧
  ∀ p, H p = none → Q (.ref p) (upd H p (.lst (List.replicate k.toNat xs).flatten))
theorem len_rep {α : Type} (xs : List α) (k : Nat) : (List.replicate k xs).flatten.length = k * xs.length := by
  induction k with
  | zero => simp
  | succ k ih => rw [List.replicate_succ, List.flatten_cons, List.length_append, ih, Nat.succ_mul, Nat.add_comm]
theorem op_rep : OpR X (binaryOp .Mult) rRep := by
  intro pins s σ H x y v u Q I rx ry h
  obtain ⟨l, k, xs, rfl, rfl, hH, h1, h2, hz, q⟩ := h
  cases rx
  obtain ⟨t, rfl⟩ := ry
  obtain ⟨z, its, n, r, hl, e⟩ := I.lstM hH
  have hlen : its.toArray.size * k.toNat ≤ sizeLine := by rw [List.size_toArray, ← hl]; exact hz
  have hcap : ¬ its.toArray.size * k.toNat > (2 ^ 63 - 1) / 8 := by
    have : (sizeLine : Nat) ≤ (2 ^ 63 - 1) / 8 := by decide
    omega
  have hfit : ¬ (!Builtin.List.listFitsIndex k) = true := by
    rw [fitsIndex_both h1 h2]
    exact Bool.false_ne_true
  have hlong : ¬ Builtin.List.listTooLong (its.toArray.size * k.toNat) = true := by
    rw [notLongL hlen]
    exact Bool.false_ne_true
  have hnew : List.foldl (fun x1 x2 => x1 ++ x2) #[] (List.replicate (if its.toArray.isEmpty = true then 0 else k.toNat) its.toArray) = (List.replicate k.toNat its).flatten.toArray := by
    have f0 : ∀ m : Nat, List.foldl (fun x1 x2 => x1 ++ x2) #[] (List.replicate m its.toArray) = (List.replicate m its).flatten.toArray := fun m => by
      have := foldl_rep its m []
      rw [List.nil_append] at this
      exact this
    rw [f0]
    cases its with
    | nil => simp
    | cons a r' => rw [if_neg (by simp)]
  refine wpAny_binaryOp_repeat_ref (T := "list") (U := "int") (by decide) ⟨_, e, rfl⟩ (fun s' => typeIs_int s' k t) noFill_list_mul F.fills_int_mul F.slot_int_rmul repeat_list F.slot_int_index.lookup
    (call_meets F.slot_int_rmul (typeIs_int s k t) F.entry_int_rmul (F.args_int_rmul_2 _ _) (int___rmul___int_list k t l its.toArray n)
      ⟨e, rfl, ⟨_, e, rfl⟩, call_meets F.slot_list_mul ⟨_, e, rfl⟩ F.entry_list_mul (F.args_list_mul_2 _ _) (AutoListH.list___mul___list_int_3 l its.toArray n k t hfit hcap hlong) ⟨e, ?_⟩⟩)
  rw [hnew]
  exact ⟨.ref _, _, I.lnew (t' := s.toks) (r.rep k.toNat) (by rw [len_rep, Nat.mul_comm]; exact hz), rfl, q _ I.fresh⟩
end
section
variable {prog : Program} {w : World} {A : Around} {E : Value → Shared → Prop} {s : Shared}
end
section
variable {X : Cx}
end
end L2
namespace Att
open PySem PySem.W PySem.Calls PyProof.Rows
theorem ints_of_wellAll {P : Params} {h : Heap} : ∀ (ns : List Int) (vs : List Value), WellAll P h vs (ns.map WData.int) → IntsAre vs ns := by
  intro ns
  induction ns with
  | nil =>
    intro vs w
    rw [List.map_nil] at w
    cases w
    exact .nil
  | cons n ns ih =>
    intro vs w
    rw [List.map_cons] at w
    cases w with
    | cons a b =>
      cases a
      exact .cons _ _ (ih _ b)
theorem script_of {l : OpenLaw} {n : Nat} (hn : l.most = some n) {P : Params} {h : Heap} {args : List WData} {vals : List Value}
    (hpre : l.row.toRowW.claim.pre args = true) (hwl : WellAll P h vals args) :
    ∃ a vs ns, vals = [Value.ref a] ∧ args = [WData.list (ns.map WData.int)] ∧ h.get? a = some { cls := .type "list", data := .seq vs.toArray } ∧ IntsAre vs ns ∧ ns.length ≤ n := by
  have hsh : WShape.hasAll [] args [.list .int] = true := (pre_splitW hpre).1
  have hc : l.pre.holds [] { args := args } = true := (pre_splitW hpre).2
  obtain ⟨d, r, rfl, h1, h2⟩ := hasAllW_cons hsh
  obtain rfl := hasAllW_nil h2
  obtain ⟨xs, rfl, h3⟩ := hasW_list h1
  obtain ⟨ns, rfl⟩ := items_int h3
  have hlen : ns.length ≤ n := by
    unfold OpenLaw.pre at hc
    have h4 : (WTm.not (.lt (.lit (.int (n : Int))) (.len (.arg 0)))).holds [] { args := [.list (ns.map .int)] } = true := by
      have h4 := (holds_andW hc).1
      rw [hn] at h4
      exact h4
    have h5 := condW_of h4 (w_not (w_lt w_lit (w_len_list (w_arg rfl))))
    rw [List.length_map] at h5
    refine Nat.le_of_not_lt fun q => ?_
    have q' : (n : Int) < ((ns.length : Nat) : Int) := by omega
    first
      | (rw [decide_eq_true q'] at h5; exact absurd h5 (by decide))
      | (simp at h5; omega)
  cases hwl with
  | cons w1 w2 =>
    cases w2
    cases w1 with
    | list ho hall => exact ⟨_, _, ns, rfl, rfl, ho, ints_of_wellAll ns _ hall, hlen⟩
theorem post_true (l : OpenLaw) (args : List WData) : l.row.toRowW.claim.post args (.bool true) args = true :=
  postW_of (r := l.row.toRowW) (X := (true == true))
    (show WShape.has [] (.bool true) .bool = true by first | rfl | decide | simp [WShape.has, WShape.arms, WShape.armsAll])
    (show (WTm.eq .res (.lit (.bool true))).value [] { args := args, res := some (.bool true), after := args } = some (.bool (true == true)) from w_eq_bool (w_res rfl) w_lit) rfl
theorem attach_call {l : OpenLaw} {n : Nat} {q : Program} {loose : List Str} {XP : (Str → Option Value) → Heap → Prop} {YP : World → Heap → Prop} {d : DefRec}
    (hn : l.most = some n) (hdf : d.params.defaults = [])
    (call : ∀ (w : World) (s₀ s₁ : Shared) (mg mb : Str → Option Value) (fa : Addr) (o : Obj) (pm cd doc : Value) (a : Addr) (vs : List Value) (ns : List Int),
      Ground q loose [] XP w s₀ mg mb s₁.heap → YP w s₁.heap →
      s₁.heap.get? fa = some o → o.data = .func (docDef d.name d.params d.body d.scope pm cd doc) → s₁.heap.CodeRec cd d.name → mg d.name = some (.ref fa) →
      s₁.heap.get? a = some { cls := .type "list", data := .seq vs.toArray } → IntsAre vs ns → ns.length ≤ n → s₁.gens = #[] →
      codeAny (model l.prog w) callerA (.call (.ref fa) ⟨[.ref a], []⟩) (fun r s' => r = .ok (.ret (.bool true)) ∧ OldK s₁.heap s'.heap ∧ s'.os = s₁.os ∧ AllBare s'.gens) s₁) :
    WalkO q loose XP YP l.row.toRowW d [] (fun f vs => PySem.call f vs) := by
  intro w s₀ s₁ mg mb G Y fa o pm cd doc dV kV ho hd hcd hD hmg hg args vals as hpre hlay hrd hwl hlo
  obtain rfl : dV = .none := Dflts.none hD hdf
  obtain rfl : kV = .none := Dflts.noKw hD
  obtain ⟨a, vs, ns, rfl, rfl, hobj, hints, hlen⟩ := script_of hn hpre hwl
  refine enter_call (codeAny_mono (call w s₀ s₁ mg mb fa o pm cd doc a vs ns G Y ho (fd_plain hd) hcd hmg hobj hints hlen hg) fun r s' hq => ?_)
  obtain ⟨rfl, h2, h3, h4⟩ := hq
  exact ⟨.inl ⟨.bool true, .bool true, [], rfl, fun _ => rfl, .bool true, post_true l _, fun _ => ⟨List.Pairwise.nil, fun _ hm => (nomatch hm)⟩⟩, h2, h3, h4⟩
section
variable {prog : Program} {w : World} {A : Around} {E : Value → Shared → Prop} {s : Shared} {K : Frag}
end
end Att
namespace L2
open PySem PySem.Spec PyProof.Rows
theorem vals_ints : ∀ {vs : List Value} {ns : List Int}, IntsAre vs ns → Vals (ns.map V.int) vs
  | _, _, .nil => .nil
  | _, _, .cons n t h => .cons ⟨t, rfl⟩ (vals_ints h)
def Only (H : Hp) : Prop := ∀ b, H b = none ∨ ∃ o xs, H b = some (.frz o (.lst xs))
theorem law_call {P : Program} {w : World} {K : PySem.W.Frag} {mg mb : Str → Option Value} {CX : CXT} {k : Nat} {fa a : Addr} {fd : FuncData} {x : Str} {sp : Sp} {s₁ : Shared} {vs : List Value} {ns : List Int}
    (KX : K.In s₁.heap) (hns : s₁.heap.Ns mainGlobals mg) (hb : s₁.heap.Ns builtinsNs mb) (hbb : ∀ x : Str, x ≠ "__name__" → mb x = bootBuiltins x) (hlim : s₁.heap.NoLimit) (hg : s₁.gens = #[])
    (ha : s₁.heap.get? a = some { cls := .type "list", data := .seq vs.toArray }) (hi : IntsAre vs ns) (hl : ns.length ≤ sizeLine) (hr : Room k callerA)
    (F : ∀ base : Heap, K.In base → base.Ns mainGlobals mg → FnOk P w K mg base CX k fa fd [x] sp) (hbind : ∀ (s : Shared) (u : Value), BindsTo s fd ⟨[u], []⟩ [(x, u)])
    (hsp : ∀ H : Hp, Only H → SqL K H a (ns.map V.int) → sp [.ref a] H (fun v _ => v = .bl true) fun _ _ _ => False)
    (hCX : ∀ H e s', CX [] H s₁ (fun _ _ _ => False) e s' → False) :
    codeAny (model P w) callerA (.call (.ref fa) ⟨[.ref a], []⟩) (fun r s' => r = .ok (.ret (.bool true)) ∧ OldK s₁.heap s'.heap ∧ s'.os = s₁.os ∧ AllBare s'.gens) s₁ := by
  have rv := vals_ints hi
  have lenV := hi.length
  -- from an abstract heap in which nothing but the script may be tracked
  have core : ∀ H : Hp, Only H → SqL K H a (ns.map V.int) → HOk P w H s₁.heap → (∀ b, H b ≠ none → b = a) → (H a ≠ none → K.lookup a = none) →
      codeAny (model P w) callerA (.call (.ref fa) ⟨[.ref a], []⟩) (fun r s' => r = .ok (.ret (.bool true)) ∧ OldK s₁.heap s'.heap ∧ s'.os = s₁.os ∧ AllBare s'.gens) s₁ := by
    intro H hO hS hok hA hK
    have base_of : ∀ {b : Addr} {o : Obj}, s₁.heap.get? b = some o → H b = none → (hidT s₁.heap H).get? b = some o := fun e n => hidT_get e n
    have noA : ∀ {b : Addr} {o : Obj} {es : Array DictEntry} {ep : Nat}, s₁.heap.get? b = some o → o.data = .dict es ep → H b = none := fun {b o es ep} e d => by
      cases q : H b with
      | none => rfl
      | some u =>
        have e' : b = a := hA b (by rw [q]; simp)
        subst e'
        rw [ha] at e; cases e
        have d' : Data.seq vs.toArray _ = Data.dict es ep := d
        cases d'
    have nsK : ∀ {b : Addr} {m : Str → Option Value}, s₁.heap.Ns b m → (hidT s₁.heap H).Ns b m := fun {b m} ⟨o, es, ep, e, d, r⟩ => ⟨o, es, ep, base_of e (noA e d), d, r⟩
    have hKb : K.In (hidT s₁.heap H) := fun b o e => base_of (KX b o e) (by
      cases q : H b with
      | none => rfl
      | some u =>
        have e' : b = a := hA b (by rw [q]; simp)
        subst e'
        rw [hK (by rw [q]; simp)] at e; cases e)
    have hM : Mod K mg (hidT s₁.heap H) := ⟨hKb, nsK hns, ⟨mb, nsK hb, hbb⟩, let ⟨mc, h1, h2⟩ := hlim; ⟨mc, nsK h1, h2⟩⟩
    have e0 : Env0 P w K mg (hidT s₁.heap H) callerA [] s₁ H := ⟨rfl, hM, fun b o e => of_hidT e, Nat.le_of_eq (hidT_size _ _), trivial, fun b hb => absurd (show b ∈ ([] : List Addr) from hb) (by simp), hok, .of_eq hg⟩
    refine codeAny_mono ((F _ hKb (nsK hns)).run callerA [] s₁ H ⟨[.ref a], []⟩ [.ref a] [.ref a] _ _ hr e0 (hbind s₁ (.ref a)) (.cons rfl .nil) (hsp H hO hS)) fun r s' h => ?_
    cases r with
    | error e => exact (hCX H e s' h).elim
    | ok fl =>
      cases fl with
      | next => exact False.elim h
      | brk => exact False.elim h
      | cont => exact False.elim h
      | ret u =>
        obtain ⟨v, H', os, bare, un, hok', r', q⟩ := h
        have q' : v = .bl true := q
        subst q'
        obtain rfl : u = Value.bool true := r'
        refine ⟨rfl, OldK.of_keep fun b o e => ?_, os, bare⟩
        cases q : H b with
        | none => exact un.keep b o e q (by intro z; exact absurd (show b ∈ ([] : List Addr) from z) (by simp)) (by simp)
        | some u =>
          rcases hO b with z | ⟨ob, xs, z⟩
          · rw [q] at z; cases z
          · have z2 := un.frzs b ob _ z
            obtain ⟨e1, _⟩ := hok b _ z
            obtain ⟨e2, _⟩ := hok' b _ z2
            rw [e] at e1; cases e1
            exact e2
  cases hk : K.lookup a with
  | some o =>
    -- the script is one of the module's own objects
    have e := KX a o hk
    rw [ha] at e
    cases e
    refine core (fun _ => none) (fun _ => .inl rfl) (.inr ⟨_, vs.toArray, _, hk, rfl, rfl, rfl, by rw [List.size_toArray, lenV]; exact hl, by simpa using rv⟩) (fun b u z => by have z' : (none : Option HO) = some u := z; cases z') (fun b z => absurd rfl z) fun z => absurd rfl z
  | none =>
    refine core (fun b => if b = a then some (.frz { cls := .type "list", data := .seq vs.toArray } (.lst (ns.map V.int))) else none) (fun b => ?_) (.inl (.inr ⟨{ cls := .type "list", data := .seq vs.toArray }, if_pos rfl⟩)) (fun b u z => ?_) (fun b z => ?_) fun _ => hk
    · by_cases hb : b = a
      · exact .inr ⟨_, _, if_pos hb⟩
      · exact .inl (if_neg hb)
    · by_cases hb : b = a
      · have z' := (if_pos hb).symm.trans z
        cases z'
        subst hb
        exact ⟨ha, by rw [List.length_map]; exact hl, vs, _, rv, ha⟩
      · have z' := (if_neg hb).symm.trans z
        cases z'
    · by_cases hb : b = a
      · exact hb
      · exact absurd (if_neg hb) z
end L2
namespace L2
open PySem PySem.Spec PyProof.Rows
theorem walk_of {l : PySem.W.OpenLaw} {n k : Nat} {q : Program} {loose : List Str} {XP : (Str → Option Value) → Heap → Prop} {YP : World → Heap → Prop} {d : DefRec} {K : Params → PySem.W.Frag} {CX : World → CXT} {sp : World → Sp} {x : Str}
    (hn : l.most = some n) (hn2 : n ≤ sizeLine) (hdf : d.params.defaults = []) (hr : Room k callerA)
    (hY : ∀ (w : World) (h : Heap), YP w h → (K w.params).In h)
    (F : ∀ (w : World) (mg : Str → Option Value) (fa : Addr) (h : Heap), (K w.params).In h → h.Ns mainGlobals mg → mg d.name = some (.ref fa) →
      ∃ fd : FuncData, (∀ (s : Shared) (u : Value), BindsTo s fd ⟨[u], []⟩ [(x, u)]) ∧
        ∀ base : Heap, (K w.params).In base → base.Ns mainGlobals mg → FnOk l.prog w (K w.params) mg base (CX w) k fa fd [x] (sp w))
    (hsp : ∀ (w : World) (H : Hp) (a : Addr) (ns : List Int), ns.length ≤ n → Only H → SqL (K w.params) H a (ns.map V.int) → sp w [.ref a] H (fun v _ => v = .bl true) fun _ _ _ => False)
    (hCX : ∀ (w : World) (H : Hp) (s : Shared) (e : Value) (s' : Shared), CX w [] H s (fun _ _ _ => False) e s' → False) :
    PySem.W.WalkO q loose XP YP l.row.toRowW d [] (fun f vs => PySem.call f vs) := by
  refine Att.attach_call hn hdf fun w s₀ s₁ mg mb fa o pm cd doc a vs ns G Y ho hd hcd hmg hobj hints hlen hg => ?_
  have KX := hY w _ Y
  obtain ⟨fd, hb, hF⟩ := F w mg fa _ KX G.T.g hmg
  exact law_call KX G.T.g G.T.b G.T.builtins G.T.nolimit hg hobj hints (Nat.le_trans hlen hn2) hr hF hb (fun H hO hS => hsp w H a ns hlen hO hS) fun H e s' => hCX w H s₁ e s'
end L2
namespace L2
open PySem PySem.Spec PyProof.Rows
def inClass (s : Stmt) (j : Nat) : Stmt := match s with
  | .ClassDef _ _ _ body _ _ _ _ _ _ _ => body.getD j (.Pass ⟨0, 0, 0, 0⟩)
  | _ => .Pass ⟨0, 0, 0, 0⟩
def defArgs (s : Stmt) : Arguments := match s with
  | .FunctionDef _ a _ _ _ _ _ _ _ _ => a
  | _ => { posonlyargs := [], args := [], vararg := none, kwonlyargs := [], kw_defaults := [], kwarg := none, defaults := [] }
def defBody (s : Stmt) : List Stmt := match s with
  | .FunctionDef _ _ b _ _ _ _ _ _ _ => b
  | _ => []
def defScope (s : Stmt) : Scope := match s with
  | .FunctionDef _ _ _ _ _ _ sc _ _ _ => sc
  | _ => { kind := .function, names := [], isGenerator := false, isCoroutine := false }
abbrev CX0 : CXT := fun _ _ _ _ _ _ => False
abbrev E0 : XK := fun _ _ _ => False
theorem pass0 {X : Cx} : Passes CX0 X E0 := fun _ _ _ _ _ _ _ h => h.elim
structure Fun (K : PySem.W.Frag) (x qual : Str) (st : Stmt) (f : Addr) (fd : FuncData) : Prop where
  ex : ∃ (oc : Value) (od : Option Addr) (kV doc pm : Value) (an : Option Addr) (cdv ct : Value) (osl : Array (Option Value)),
    fd = PySem.W.fnOf x qual (defArgs st) (defBody st) (defScope st) .none kV doc pm an cdv ct ∧ K.lookup f = some ⟨oc, od, .func fd, osl⟩ ∧ PySem.W.codeIn K cdv qual = true
  kp : PySem.W.keepIn K (.ref f) = true
section
variable {P : Program} {w : World} {K : PySem.W.Frag} {mg : Str → Option Value} {base : Heap}
theorem Fun.ok {x qual : Str} {st : Stmt} {f : Addr} {fd : FuncData} {N ps : List Str} {k : Nat} {sp : Sp} (F : Fun K x qual st f fd) (S : FnScope N ps (defScope st)) (len : ∀ vs H Q E, sp vs H Q E → vs.length = ps.length)
    (hbody : ∀ (cdv : Value) (A : Around) (outer : List Env) (s : Shared) (H : Hp) (vs : List V) (Q : VK) (E : XK), Room k (A.deeper (envOfC qual (defScope st) s.heap.objs.size f cdv)) → sp vs H Q E →
      ∃ t, PSs (cxOf CX0 P w K mg base N qual (defScope st) f cdv A outer s H E).nox (defBody st) t ∧ t { nx := fun _ H' => Q .non H', rt := Q } (start N vs) H) : FnOk P w K mg base CX0 (k + 1) f fd ps sp := by
  obtain ⟨oc, od, kV, doc, pm, an, cdv, ct, osl, rfl, lk, hcd⟩ := F.ex
  refine fn_of lk hcd S len fun A outer s H vs Q E hr hsp => ?_
  obtain ⟨t, h, q⟩ := hbody cdv A outer s H vs Q E hr hsp
  exact ⟨t, h.nox, q⟩
theorem Fun.binds {x qual : Str} {st : Stmt} {f : Addr} {fd : FuncData} {ps : List Str} (F : Fun K x qual st f fd)
    (h : ∀ (kV doc pm : Value) (an : Option Addr) (cdv ct : Value) (us : List Value), us.length = ps.length → bindArgs (PySem.W.fnOf x qual (defArgs st) (defBody st) (defScope st) .none kV doc pm an cdv ct) ⟨us, []⟩ = pure (ps.zip us)) : Binds K fd ps [] := by
  obtain ⟨oc, od, kV, doc, pm, an, cdv, ct, osl, rfl, lk, hcd⟩ := F.ex
  exact .all (h kV doc pm an cdv ct)
theorem fun_mk {x qual : Str} {st : Stmt} {f : Addr} {oc : Value} {od an : Option Addr} {osl : Array (Option Value)} {kV doc pm cdv ct : Value} (l : K.lookup f = some ⟨oc, od, .func (PySem.W.fnOf x qual (defArgs st) (defBody st) (defScope st) .none kV doc pm an cdv ct), osl⟩)
    (c : PySem.W.codeIn K cdv qual = true) (k : PySem.W.keepIn K (.ref f) = true) : Fun K x qual st f (PySem.W.fnOf x qual (defArgs st) (defBody st) (defScope st) .none kV doc pm an cdv ct) := ⟨⟨oc, od, kV, doc, pm, an, cdv, ct, osl, rfl, l, c⟩, k⟩
end
section
variable {X : Cx}
theorem pv (i : Nat) {x : Str} {pos : Pos} (hN : X.N[i]? = some x := by rfl) (hv : Vis X.env.scope x := by first | exact Or.inl rfl | exact Or.inr (Or.inl rfl) | exact Or.inr (Or.inr rfl)) (hd : (x == ("__debug__" : Str)) = false := by decide)
    (hcd : (x == ("__classdict__" : Str)) = false := by decide) : PE X (.Name x pos) (tVar i) := pe_var hN hv hd hcd
end
end L2
namespace L2
open PySem PySem.Spec PyProof.Rows
def S (l : List Nat) : Str := ⟨l.toArray⟩
theorem S_len (l : List Nat) : (S l).length = l.length := by simp [S, Str.length]
theorem S_app (a b : List Nat) : S a ++ S b = S (a ++ b) := by
  show (⟨a.toArray ++ b.toArray⟩ : Str) = ⟨(a ++ b).toArray⟩
  rw [List.append_toArray]
theorem S_inj {a b : List Nat} (h : S a = S b) : a = b := by
  have h' := congrArg (fun x : Str => x.cps.toList) h
  simpa [S] using h'
theorem S_iff {a b : List Nat} : V.str (S a) = V.str (S b) ↔ a = b := ⟨fun h => S_inj (V.str.inj h), fun h => by rw [h]⟩
theorem S_dec (a b : List Nat) : decide (V.str (S a) = V.str (S b)) = decide (a = b) := by
  by_cases h : a = b
  · rw [decide_eq_true h, decide_eq_true (S_iff.mpr h)]
  · rw [decide_eq_false h, decide_eq_false (fun z => h (S_iff.mp z))]
section
variable {X : Cx}
def repN {α : Type} (l : List α) (n : Int) : List α := (List.replicate n.toNat l).flatten
theorem foldl_app (k : Nat) (l acc : List Nat) : (List.replicate k l.toArray).foldl (· ++ ·) acc.toArray = (acc ++ (List.replicate k l).flatten).toArray := by
  induction k generalizing acc with
  | zero => simp
  | succ k ih =>
    rw [List.replicate_succ, List.foldl_cons, List.append_toArray, ih (acc ++ l), List.replicate_succ, List.flatten_cons, List.append_assoc]
theorem mul_S (l : List Nat) (n : Int) : Txt.mul (S l) n = S (repN l n) := by
  unfold Txt.mul repN
  by_cases h : n < 1
  · rw [if_pos h]
    have : n.toNat = 0 := by omega
    rw [this]; rfl
  · rw [if_neg h]
    split
    · rename_i h2
      rw [S_len] at h2
      simp only [Bool.or_eq_true, beq_iff_eq] at h2
      rcases h2 with h2 | h2
      · subst h2; simp [S]
      · have : l = [] := List.length_eq_zero_iff.mp h2
        subst this; simp [S]
    · have e := foldl_app n.toNat l []
      show (⟨_⟩ : Str) = _
      have e' : (List.replicate n.toNat (S l).cps).foldl (· ++ ·) #[] = ((List.replicate n.toNat l).flatten).toArray := by
        simpa [S] using e
      rw [e']; rfl
theorem repN_length {α : Type} (l : List α) (n : Int) : (repN l n).length = n.toNat * l.length := by
  unfold repN
  rw [List.length_flatten, List.map_replicate, List.sum_replicate_nat]
theorem op_rep_str : OpR X (binaryOp .Mult) (fun x y H Q => ∃ l n, x = .str (S l) ∧ y = .int n ∧ -1000000 ≤ n ∧ n ≤ 1000000 ∧ n.toNat * l.length ≤ sizeLine ∧ Q (.str (S (repN l n))) H) := by
  intro pins s σ H x y v u Q I rx ry h
  obtain ⟨l, n, rfl, rfl, h1, h2, hz, q⟩ := h
  obtain ⟨t, rfl⟩ := rx
  obtain ⟨t', rfl⟩ := ry
  have hs : sizeLine = 16777216 := sizeLine_eq
  have hz' : n.toNat * l.length ≤ 16777216 := by rw [← hs]; exact hz
  refine SB.mul ⟨?_, fun hn hc => ?_, fun hn hc => ?_⟩ fun t' k => ⟨.str (S (repN l n)), H, I.tok _, ⟨t', by rw [mul_S]⟩, q⟩
  · rw [decide_eq_false (by omega), decide_eq_false (by omega)]; rfl
  · rw [S_len]
    intro hgt
    have hl : l.length ≤ 16777216 := by
      have : 1 * l.length ≤ n.toNat * l.length := Nat.mul_le_mul_right _ (by omega)
      omega
    have hdiv : (2 ^ 63 - 1 : Int) / 1000000 ≤ (2 ^ 63 - 1) / n := by
      apply Int.le_ediv_of_mul_le (by omega)
      have := Int.mul_le_mul_of_nonneg_left h2 (show (0 : Int) ≤ (2 ^ 63 - 1) / 1000000 by decide)
      have e2 : ((2 ^ 63 - 1 : Int) / 1000000) * 1000000 ≤ 2 ^ 63 - 1 := by decide
      omega
    have e3 : (2 ^ 63 - 1 : Int) / 1000000 = 9223372036854 := by decide
    omega
  · rw [S_len]
    have : l.length * n.toNat ≤ 16777216 := by rw [Nat.mul_comm]; exact hz'
    exact decide_eq_false (by omega)
end
end L2
namespace L2
open PySem PySem.Spec PyProof.Rows
def Its (xs : List V) : It := ⟨fun i _ => i < xs.length, fun i H x H' => H' = H ∧ xs[i]? = some x, fun i _ => xs.length = i⟩
theorem go_scalar {M : Model} {A : Around} {E : Value → Shared → Prop} {s : Shared} {tg : Expr} {it : Addr} {u : Value} {Q : Unit → Shared → Prop} (hu : ∀ a, u ≠ .ref a) (hQ : Q () s) : wpAny M A (letOwnedTupleGo tg (.ref it) u) Q E s := by
  unfold letOwnedTupleGo
  cases tg <;> first
    | exact wpAny_pure hQ
    | (cases u <;> first
        | exact wpAny_pure hQ
        | exact absurd rfl (hu _))
theorem turn_walk {P : Program} {w : World} {K : PySem.W.Frag} {tg : Expr} {it : Addr} {xs : List V} {n : Nat} {Pt : Nat → Value → Prop} {St : Nat → Heap → Prop}
    (W : ∀ A : Around, A.handled = none → Walks P w A it [it] [it] n Pt St) (hn : xs.length = n)
    (hv : ∀ i v, i < n → Pt i v → ∃ x, xs[i]? = some x ∧ RelV x v) (hsc : ∀ i v, Pt i v → ∀ a, v ≠ .ref a)
    (hobj : ∀ i h, St i h → ∃ o, h.get? it = some o ∧ ∀ v, o.data ≠ .cell v)
    (hfr : ∀ i h h', St i h → (∀ b ∈ [it], ∀ o, h.get? b = some o → h'.get? b = some o) → St i h')
    (hself : ∀ (A : Around) (i : Nat) (s : Shared) (Q : Value → Shared → Prop) (E : Value → Shared → Prop), St i s.heap → Q (.ref it) s → wpAny (model P w) A (pyIter (.ref it)) Q E s) :
    Turn P w K tg (Its xs) [it] it St where
  mem := by simp
  obj := fun i h st b hb => by
    have e : b = it := by simpa using hb
    subst e
    exact hobj i h st
  keep := fun i h h' st k => hfr i h h' st k
  item := by
    intro X hP hw hK hc i pins s σ H E I hf st hg
    subst hP hw hK
    obtain ⟨f0, f1, f2, f3, f4, f5⟩ := hf it (by simp)
    refine (W X.A (I.ok.hd hc)).item i s _ _ (by rw [← hn]; exact hg) st fun v h' tk hp st' kk => ?_
    obtain ⟨x, hx, rx⟩ := hv i v (by rw [← hn]; exact hg) hp
    have I1 : Inv X pins σ H { s with heap := h', toks := tk } := I.turned (fun b o hb e => kk b o (by simpa using hb) e) f0 f1 f3 f4 f5
    exact ⟨v, rfl, go_scalar (s := { s with heap := h', toks := tk }) (hsc i v hp) ⟨x, H, I1, rx, ⟨rfl, hx⟩, st', fun b hb => (hf b hb).1⟩⟩
  done := by
    intro X hP hw hK hc i pins s σ H E I hf st hg
    subst hP hw hK
    obtain ⟨f0, f1, f2, f3, f4, f5⟩ := hf it (by simp)
    have e : n = i := hn.symm.trans hg
    subst e
    exact (W X.A (I.ok.hd hc)).done s _ _ st fun h' tk kk => ⟨rfl, I.turned (fun b o hb e => kk b o (by simpa using hb) e) f0 f1 f3 f4 f5⟩
  self := hself
section
variable {X : Cx} {tg : Expr}
def signs1 (l : List Nat) : List V := l.map fun c => V.str (S [c])
theorem signs1_get {l : List Nat} {i : Nat} {x : V} (h : (signs1 l)[i]? = some x) : ∃ c, l[i]? = some c ∧ x = .str (S [c]) := by
  unfold signs1 at h
  rw [List.getElem?_map] at h
  cases e : l[i]? with
  | none => rw [e] at h; cases h
  | some c => rw [e] at h; exact ⟨c, rfl, (Option.some.inj h).symm⟩
theorem signs1_len (l : List Nat) : (signs1 l).length = l.length := List.length_map _
end
end L2
namespace L2
open PySem PySem.Spec PyProof.Rows
section
variable {X : Cx}
mutual
inductive DV (K : PySem.W.Frag) (H : Hp) : V → PyData → Prop
  | non : DV K H .non .none
  | bl (b : Bool) : DV K H (.bl b) (.bool b)
  | int (i : Int) : DV K H (.int i) (.int i)
  | str (x : Str) : DV K H (.str x) (.str x)
  | lst {a : Addr} {xs : List V} {ds : List PyData} : SqL K H a xs → DVs K H xs ds → DV K H (.ref a) (.list ds)
  | tup {a : Addr} {xs : List V} {ds : List PyData} : SqT K H a xs → DVs K H xs ds → DV K H (.ref a) (.tuple ds)
inductive DVs (K : PySem.W.Frag) (H : Hp) : List V → List PyData → Prop
  | nil : DVs K H [] []
  | cons {x : V} {d : PyData} {xs : List V} {ds : List PyData} : DV K H x d → DVs K H xs ds → DVs K H (x :: xs) (d :: ds)
end
mutual
theorem DV.reads {pins : List (Addr × Obj)} {σ : St} {H : Hp} {s : Shared} (I : Inv X pins σ H s) : ∀ {x : V} {d : PyData} {u : Value}, DV X.K H x d → RelV x u → ∃ as, Reads s.heap u d as
  | _, _, u, .non, r => by cases (show u = Value.none from r); exact ⟨_, .none⟩
  | _, _, u, .bl b, r => by cases (show u = Value.bool b from r); exact ⟨_, .bool b⟩
  | _, _, u, .int i, r => by obtain ⟨t, e⟩ := (show ∃ t, u = Value.int i t from r); subst e; exact ⟨_, .int i t⟩
  | _, _, u, .str x, r => by obtain ⟨t, e⟩ := (show ∃ t, u = Value.str x t from r); subst e; exact ⟨_, .str x t⟩
  | _, _, u, .lst (a := a) hq hs, r => by
    cases (show u = Value.ref a from r)
    obtain ⟨its, rv, pl, _⟩ := I.list hq
    obtain ⟨o, ho, hc, n, hd⟩ := pl.isList
    obtain ⟨as, ra⟩ := DVs.reads I hs rv
    exact ⟨_, .list ho hc hd ra⟩
  | _, _, u, .tup (a := a) hq hs, r => by
    cases (show u = Value.ref a from r)
    obtain ⟨its, rv, pl, _⟩ := I.tuple hq
    obtain ⟨o, ho, hc, n, hd⟩ := pl
    obtain ⟨as, ra⟩ := DVs.reads I hs rv
    exact ⟨_, .tuple ho hc hd ra⟩
theorem DVs.reads {pins : List (Addr × Obj)} {σ : St} {H : Hp} {s : Shared} (I : Inv X pins σ H s) : ∀ {xs : List V} {ds : List PyData} {us : List Value}, DVs X.K H xs ds → Vals xs us → ∃ as, ReadsAll s.heap us ds as
  | _, _, _, .nil, .nil => ⟨_, .nil⟩
  | _, _, _, .cons h hs, .cons r rs => by
    obtain ⟨as, ra⟩ := DV.reads I h r
    obtain ⟨bs, rb⟩ := DVs.reads I hs rs
    exact ⟨_, .cons ra rb⟩
end
def rEqD (K : PySem.W.Frag) (neg : Bool) : R2 := fun x y H Q => ∃ da db, DV K H x da ∧ DV K H y db ∧ SeqAt.shaped da = true ∧ SeqAt.shaped db = true ∧ Q (.bl (if neg then !PyData.eqv da db else PyData.eqv da db)) H
theorem op_eqD (hu : X.A.units + 64 < cLine) : OpR X (compareOp .Eq) (rEqD X.K false) := by
  intro pins s σ H x y v u Q I rx ry h
  obtain ⟨da, db, ha, hb, sa, sb, q⟩ := h
  obtain ⟨as, ra⟩ := DV.reads I ha rx
  obtain ⟨bs, rb⟩ := DV.reads I hb ry
  exact eq_dataH ra rb sa sb hu ⟨.bl _, H, I, rfl, q⟩
theorem op_neD (hu : X.A.units + 64 < cLine) : OpR X (compareOp .NotEq) (rEqD X.K true) := by
  intro pins s σ H x y v u Q I rx ry h
  obtain ⟨da, db, ha, hb, sa, sb, q⟩ := h
  obtain ⟨as, ra⟩ := DV.reads I ha rx
  obtain ⟨bs, rb⟩ := DV.reads I hb ry
  exact ne_dataH ra rb sa sb hu ⟨.bl _, H, I, rfl, q⟩
theorem DVs.ints {K : PySem.W.Frag} {H : Hp} : ∀ ns : List Int, DVs K H (ns.map V.int) (ns.map PyData.int)
  | [] => .nil
  | n :: ns => .cons (.int n) (DVs.ints ns)
end
end L2
namespace L2
open PySem PySem.Spec PyProof.Rows
section
variable {X : Cx} {a b : Expr} {ta tb : TE} {pos : Pos}
theorem call_lenS : CallR X (.builtin "len") (fun xs H Q => ∃ l, xs = [.str (S l)] ∧ l.length ≤ sizeLine ∧ Q (.int l.length) H) := by
  intro pins s σ H xs us Q I r h
  obtain ⟨l, rfl, hz, q⟩ := h
  exact call_len_str pins s σ H _ us Q I r ⟨S l, rfl, by rw [S_len]; exact hz, by rw [S_len]; exact q⟩
def rIxS' : R2 := fun x y H Q => ∃ l i c, x = .str (S l) ∧ y = .int i ∧ l.length ≤ sizeLine ∧ atI l i = some c ∧ Q (.str (S [c])) H
theorem ix_strS : IxR X rIxS' := by
  intro value slice pins s σ H x y v u Q I rx ry q hs
  obtain ⟨l, i, c, rfl, rfl, hz, ha, q⟩ := q
  exact ix_str value slice pins s σ H _ _ v u Q I rx ry ⟨S l, i, c, rfl, rfl, by rw [S_len]; exact hz, ha, q⟩ hs
theorem op_addS : OpR X (binaryOp .Add) (fun x y H Q => ∃ i j, x = .str (S i) ∧ y = .str (S j) ∧ i.length + j.length ≤ sizeLine ∧ Q (.str (S (i ++ j))) H) := by
  intro pins s σ H x y v u Q I rx ry h
  obtain ⟨i, j, rfl, rfl, hz, q⟩ := h
  exact op_add_str pins s σ H _ _ v u Q I rx ry ⟨S i, S j, rfl, rfl, by rw [S_len, S_len]; exact hz, by rw [S_app]; exact q⟩
theorem op_eqS : OpR X (compareOp .Eq) (fun x y H Q => ∃ i j, x = .str (S i) ∧ y = .str (S j) ∧ Q (.bl (decide (i = j))) H) := by
  intro pins s σ H x y v u Q I rx ry h
  obtain ⟨i, j, rfl, rfl, q⟩ := h
  exact op_eq pins s σ H _ _ v u Q I rx ry ⟨rfl, by rw [S_dec]; exact q⟩
theorem op_neS : OpR X (compareOp .NotEq) (fun x y H Q => ∃ i j, x = .str (S i) ∧ y = .str (S j) ∧ Q (.bl (!decide (i = j))) H) := by
  intro pins s σ H x y v u Q I rx ry h
  obtain ⟨i, j, rfl, rfl, q⟩ := h
  exact op_ne pins s σ H _ _ v u Q I rx ry ⟨rfl, by rw [S_dec]; exact q⟩
theorem op_eqI : OpR X (compareOp .Eq) (rI0 fun i j => .bl (decide (i = j))) := opB0 fun _ _ _ _ _ _ _ q => eq_int (by rw [Bool.beq_eq_decide_eq]; exact q)
theorem op_neI : OpR X (compareOp .NotEq) (rI0 fun i j => .bl (!decide (i = j))) := opB0 fun _ _ _ _ _ _ _ q => ne_int (by rw [bne, Bool.beq_eq_decide_eq]; exact q)
theorem call_lenL : CallR X (.builtin "len") (fun xs H Q => ∃ p ys, xs = [.ref p] ∧ SqL X.K H p ys ∧ Q (.int ys.length) H) := by
  intro pins s σ H xs us Q I r h
  obtain ⟨p, ys, e, hq, q⟩ := h
  exact call_len_seq pins s σ H xs us Q I r ⟨p, ys, e, .inl hq, q⟩
theorem call_lenT : CallR X (.builtin "len") (fun xs H Q => ∃ p ys, xs = [.ref p] ∧ SqT X.K H p ys ∧ Q (.int ys.length) H) := by
  intro pins s σ H xs us Q I r h
  obtain ⟨p, ys, e, hq, q⟩ := h
  exact call_len_seq pins s σ H xs us Q I r ⟨p, ys, e, .inr hq, q⟩
end
structure Cal (P : Program) (w : World) (K : PySem.W.Frag) (mg : Str → Option Value) (base : Heap) (k : Nat) (x : Str) (ps : List Str) (sp : Sp) : Prop where
  ex : ∃ (f : Addr) (fd : FuncData), FnOk P w K mg base CX0 k f fd ps sp ∧ Binds K fd ps [] ∧ PySem.W.keepIn K (.ref f) = true ∧ mg x = some (.ref f) ∧ ∃ oc od osl, K.lookup f = some ⟨oc, od, .func fd, osl⟩
structure DefAt (K : PySem.W.Frag) (mg : Str → Option Value) (x : Str) (st : Stmt) : Prop where
  ex : ∃ (f : Addr) (fd : FuncData), Fun K x x st f fd ∧ mg x = some (.ref f)
section
variable {P : Program} {w : World} {K : PySem.W.Frag} {mg : Str → Option Value} {base : Heap} {x : Str} {st : Stmt} {N ps : List Str} {k : Nat} {sp : Sp}
theorem DefAt.ok (D : DefAt K mg x st) (S : FnScope N ps (defScope st))
    (hb : ∀ (kV doc pm : Value) (an : Option Addr) (cdv ct : Value) (us : List Value), us.length = ps.length → bindArgs (PySem.W.fnOf x x (defArgs st) (defBody st) (defScope st) .none kV doc pm an cdv ct) ⟨us, []⟩ = pure (ps.zip us))
    (len : ∀ vs H Q E, sp vs H Q E → vs.length = ps.length)
    (hbody : ∀ (f : Addr) (cdv : Value) (A : Around) (outer : List Env) (s : Shared) (H : Hp) (vs : List V) (Q : VK) (E : XK), Room k (A.deeper (envOfC x (defScope st) s.heap.objs.size f cdv)) → sp vs H Q E →
      ∃ t, PSs (cxOf CX0 P w K mg base N x (defScope st) f cdv A outer s H E).nox (defBody st) t ∧ t { nx := fun _ H' => Q .non H', rt := Q } (start N vs) H) : Cal P w K mg base (k + 1) x ps sp := by
  obtain ⟨f, fd, F, hm⟩ := D.ex
  have lk : ∃ oc od osl, K.lookup f = some ⟨oc, od, .func fd, osl⟩ := by
    obtain ⟨oc, od, kV, doc, pm, an, cdv, ct, osl, rfl, lk, hcd⟩ := F.ex
    exact ⟨oc, od, osl, lk⟩
  exact ⟨f, fd, F.ok S len fun cdv A outer s H vs Q E hr h => hbody f cdv A outer s H vs Q E hr h, F.binds hb, F.kp, hm, lk⟩
theorem DefAt.mk' {K : PySem.W.Frag} {h : Heap} {mg : Str → Option Value} {x : Str} {st : Stmt} {f : Addr} {oc : Value} {od an : Option Addr} {osl : Array (Option Value)} {kV doc pm cdv ct : Value} (X : K.In h) (G : h.Ns mainGlobals mg)
    (a : PySem.W.nsIn K mainGlobals x = some (some (.ref f))) (l : K.lookup f = some ⟨oc, od, .func (PySem.W.fnOf x x (defArgs st) (defBody st) (defScope st) .none kV doc pm an cdv ct), osl⟩)
    (c : PySem.W.codeIn K cdv x = true) (k : PySem.W.keepIn K (.ref f) = true) : DefAt K mg x st := ⟨f, _, fun_mk (st := st) l c k, PySem.W.mg_of X G a⟩
end
section
variable {X : Cx} {k : Nat} {x : Str} {ps : List Str} {sp : Sp} {p pos : Pos} {e : Expr} {es : List Expr} {t : TA}
theorem pe_cal (C : Cal X.prog X.w X.K X.mg X.base k x ps sp) (hr : Room k X.A) (ha : PA X (e :: es) t) (hg : Gl X x := by rfl) (hdb : (x == ("__debug__" : Str)) = false := by decide) (he : starEach (e :: es) X.env = (false, eval e X.env) :: starEach es X.env := by rfl)
    (hpl : (backTo pos (starEach es X.env)).any (·.1) = false := by rfl) : PE X (.Call (.Name x p) (e :: es) [] pos) (tCall sp [] E0 t) := by
  obtain ⟨f, fd, F, hb, hk, hm, _⟩ := C.ex
  exact pe_call F hr hg hm hk hb .nil pass0 ha hdb he hpl
end
def spLaw (K : PySem.W.Frag) : Sp := fun vs H Q _ => ∃ (a : Addr) (ns : List Int), vs = [.ref a] ∧ SqL K H a (ns.map V.int) ∧ ns.length ≤ 63 ∧ ∀ H', Q (.bl true) H'
theorem law_at {P : Program} {w : World} {K : PySem.W.Frag} {mg : Str → Option Value} {fa : Addr} {st : Stmt} {k : Nat} {x : Str} (hfa : mg "law" = some (.ref fa)) (D : DefAt K mg "law" st)
    (hbind : ∀ (kV doc pm : Value) (an : Option Addr) (cdv ct : Value) (s : Shared) (v : Value), BindsTo s (PySem.W.fnOf "law" "law" (defArgs st) (defBody st) (defScope st) .none kV doc pm an cdv ct) ⟨[v], []⟩ [(x, v)])
    (h : ∀ base : Heap, Cal P w K mg base k "law" [x] (spLaw K)) :
    ∃ fd : FuncData, (∀ (s : Shared) (v : Value), BindsTo s fd ⟨[v], []⟩ [(x, v)]) ∧ ∀ base : Heap, K.In base → base.Ns mainGlobals mg → FnOk P w K mg base CX0 k fa fd [x] (spLaw K) := by
  obtain ⟨f, fd, F, hm⟩ := D.ex
  have e := hfa.symm.trans hm
  cases e
  obtain ⟨oc, od, kV, doc, pm, an, cdv, ct, osl, rfl, lk, hcd⟩ := F.ex
  refine ⟨_, fun s v => hbind kV doc pm an cdv ct s v, fun base kb nb => ?_⟩
  obtain ⟨f', fd', F', _, _, hm', oc', od', osl', lk'⟩ := (h base).ex
  have e := hfa.symm.trans hm'
  cases e
  rw [lk] at lk'
  cases lk'
  exact F'
theorem walk63 {l : PySem.W.OpenLaw} {q : Program} {loose : List Str} {XP : (Str → Option Value) → Heap → Prop} {YP : World → Heap → Prop} {d : DefRec} {K : Params → PySem.W.Frag} {k : Nat} {x : Str} (hn : l.most = some 63) (hdf : d.params.defaults = []) (hr : Room k callerA)
    (hY : ∀ (w : World) (h : Heap), YP w h → (K w.params).In h)
    (F : ∀ (w : World) (mg : Str → Option Value) (fa : Addr) (h : Heap), (K w.params).In h → h.Ns mainGlobals mg → mg d.name = some (.ref fa) →
      ∃ fd : FuncData, (∀ (s : Shared) (u : Value), BindsTo s fd ⟨[u], []⟩ [(x, u)]) ∧ ∀ base : Heap, (K w.params).In base → base.Ns mainGlobals mg → FnOk l.prog w (K w.params) mg base CX0 k fa fd [x] (spLaw (K w.params))) :
    PySem.W.WalkO q loose XP YP l.row.toRowW d [] (fun f vs => PySem.call f vs) :=
  walk_of (n := 63) (k := k) (x := x) (CX := fun _ => CX0) (sp := fun w => spLaw (K w.params)) hn (by decide) hdf hr hY F (fun _ _ a ns hl _ hS => ⟨a, ns, rfl, hS, hl, fun _ => rfl⟩) fun _ _ _ _ _ z => z
end L2
namespace L2
open PySem PySem.Spec PyProof.Rows
theorem atI_map {α β : Type} {f : α → β} {xs : List α} {i : Int} {v : α} (h : atI xs i = some v) : atI (xs.map f) i = some (f v) := by
  unfold atI at h ⊢
  rw [List.length_map]
  cases e : ixN xs.length i with
  | none => rw [e] at h; cases h
  | some j =>
    rw [e] at h
    show (xs.map f)[j]? = some (f v)
    have h' : xs[j]? = some v := h
    rw [List.getElem?_map, h']; rfl
theorem atI_of {α : Type} {xs : List α} {i : Int} {j : Nat} {v : α} (h : xs[j]? = some v) (e : i = (j : Int)) : atI xs i = some v := by subst e; exact atI_nat h
theorem sz (n : Nat) (h : n ≤ 1000000) : n ≤ sizeLine := by rw [sizeLine_eq]; omega
theorem ints_get {ns : List Int} {i : Nat} {x : V} (h : (ns.map V.int)[i]? = some x) : ∃ z, ns[i]? = some z ∧ x = .int z := by
  rw [List.getElem?_map] at h
  cases e : ns[i]? with
  | none => rw [e] at h; cases h
  | some z => rw [e] at h; exact ⟨z, rfl, (Option.some.inj h).symm⟩
end L2
namespace L2
open PySem PySem.Spec PyProof.Rows
section
variable {X : Cx} {st : Stmt} {t : TS}
def tJoin (t : TS) : TS := fun D σ H => ∃ J : St → Hp → Prop, t { D with nx := J } σ H ∧ ∀ σ' H', J σ' H' → D.nx σ' H'
theorem ps_join (h : PS X st t) : PS X st (tJoin t) := by
  intro pins s σ H D I q
  obtain ⟨J, q1, q2⟩ := q
  refine thn (h pins s σ H _ I q1) fun f s' r => ?_
  cases f with
  | next => obtain ⟨σ', H', I', r'⟩ := r; exact ⟨σ', H', I', q2 σ' H' r'⟩
  | brk => exact r
  | cont => exact r
  | ret u => exact r
end
end L2
namespace L2
open PySem PySem.Spec PyProof.Rows
section
variable {prog : Program} {w : World} {A : Around} {E : Value → Shared → Prop} {s : Shared} {r : Addr} {a b c : Int} {t u v : Tok} {n : Nat}
end
end L2
namespace L2
open PySem PySem.Spec PyProof.Rows
theorem cellsFrom_cases {x : Str} {c : Addr} : ∀ (names : List (Str × NameKind)) (n : Nat) (acc : List (Str × Addr)), (cellsFrom n names acc).lookup x = some c → (n ≤ c ∧ (x, NameKind.cell) ∈ names) ∨ acc.lookup x = some c
  | [], n, acc, h => .inr h
  | (y, k) :: r, n, acc, h => by
    unfold cellsFrom at h
    split at h
    · rename_i hk
      have hk' : k = .cell := by simpa using hk
      subst hk'
      rcases cellsFrom_cases r (n + 1) ((y, n) :: acc) h with ⟨h1, h2⟩ | h1
      · exact .inl ⟨by omega, List.mem_cons_of_mem _ h2⟩
      · rw [List.lookup_cons] at h1
        cases e : x == y with
        | true =>
          rw [e] at h1
          have : n = c := Option.some.inj h1
          have ex : x = y := by simpa using e
          subst ex
          exact .inl ⟨by omega, List.mem_cons_self⟩
        | false => rw [e] at h1; exact .inr h1
    · rcases cellsFrom_cases r n acc h with ⟨h1, h2⟩ | h1
      · exact .inl ⟨h1, List.mem_cons_of_mem _ h2⟩
      · exact .inr h1
theorem cellsFrom_acc {x : Str} : ∀ (names : List (Str × NameKind)) (n : Nat) (acc : List (Str × Addr)), (x, NameKind.cell) ∉ names → (cellsFrom n names acc).lookup x = acc.lookup x
  | [], _, _, _ => rfl
  | (y, k) :: r, n, acc, h => by
    unfold cellsFrom
    split
    · rename_i hk
      have hk' : k = .cell := by simpa using hk
      subst hk'
      rw [cellsFrom_acc r (n + 1) _ (fun z => h (List.mem_cons_of_mem _ z)), List.lookup_cons]
      have : (x == y) = false := by
        rw [beq_eq_false_iff_ne]
        intro e; subst e; exact h List.mem_cons_self
      rw [this]
    · exact cellsFrom_acc r n acc (fun z => h (List.mem_cons_of_mem _ z))
theorem cellsFrom_inj {x y : Str} {c : Addr} : ∀ (names : List (Str × NameKind)) (n : Nat) (acc : List (Str × Addr)), (∀ z d, acc.lookup z = some d → d < n) →
    (cellsFrom n names acc).lookup x = some c → (cellsFrom n names acc).lookup y = some c → n ≤ c → x = y
  | [], n, acc, ha, h1, h2, hc => absurd (ha x c h1) (Nat.not_lt.mpr hc)
  | (z, k) :: r, n, acc, ha, h1, h2, hc => by
    unfold cellsFrom at h1 h2
    split at h1
    · rename_i hk
      rw [if_pos hk] at h2
      have ha' : ∀ w d, ((z, n) :: acc).lookup w = some d → d < n + 1 := fun w d e => by
        rw [List.lookup_cons] at e
        cases q : w == z with
        | true => rw [q] at e; cases e; exact Nat.lt_succ_self _
        | false => rw [q] at e; exact Nat.lt_succ_of_lt (ha w d e)
      by_cases hcn : n + 1 ≤ c
      · exact cellsFrom_inj r (n + 1) _ ha' h1 h2 hcn
      · have e : c = n := Nat.le_antisymm (Nat.not_lt.mp hcn) hc
        subst e
        have key : ∀ w : Str, (cellsFrom (c + 1) r ((z, c) :: acc)).lookup w = some c → w = z := fun w hw => by
          rcases cellsFrom_cases r (c + 1) _ hw with ⟨q, _⟩ | q
          · exact absurd q (Nat.not_succ_le_self _)
          · rw [List.lookup_cons] at q
            cases q2 : w == z with
            | true => simpa using q2
            | false => rw [q2] at q; exact absurd (ha w c q) (Nat.lt_irrefl _)
        rw [key x h1, key y h2]
    · rename_i hk
      rw [if_neg hk] at h2
      exact cellsFrom_inj r n acc ha h1 h2 hc
def closL (env : Env) : List (Str × NameKind) → List (Str × Addr) → List (Str × Addr)
  | [], acc => acc
  | (n, k) :: r, acc => if (k == .free) = true then closL env r ((n, (env.cells.lookup n).getD 0) :: acc) else closL env r acc
theorem closL_cases {env : Env} {x : Str} {c : Addr} : ∀ (names : List (Str × NameKind)) (acc : List (Str × Addr)), (closL env names acc).lookup x = some c → ((x, NameKind.free) ∈ names ∧ c = (env.cells.lookup x).getD 0) ∨ acc.lookup x = some c
  | [], acc, h => .inr h
  | (y, k) :: r, acc, h => by
    unfold closL at h
    split at h
    · rename_i hk
      have hk' : k = .free := by simpa using hk
      subst hk'
      rcases closL_cases r _ h with ⟨h1, h2⟩ | h1
      · exact .inl ⟨List.mem_cons_of_mem _ h1, h2⟩
      · rw [List.lookup_cons] at h1
        cases e : x == y with
        | true =>
          rw [e] at h1
          have ex : x = y := by simpa using e
          subst ex
          exact .inl ⟨List.mem_cons_self, (Option.some.inj h1).symm⟩
        | false => rw [e] at h1; exact .inr h1
    · rcases closL_cases r acc h with ⟨h1, h2⟩ | h1
      · exact .inl ⟨List.mem_cons_of_mem _ h1, h2⟩
      · exact .inr h1
theorem closL_has {env : Env} {x : Str} : ∀ (names : List (Str × NameKind)) (acc : List (Str × Addr)), ((x, NameKind.free) ∈ names ∨ (acc.lookup x).isSome = true) → ((closL env names acc).lookup x).isSome = true
  | [], acc, h => h.elim (fun z => nomatch z) id
  | (y, k) :: r, acc, h => by
    unfold closL
    split
    · rename_i hk
      refine closL_has r _ ?_
      by_cases e : (x == y) = true
      · exact .inr (by rw [List.lookup_cons, e]; rfl)
      · rcases h with h | h
        · rcases List.mem_cons.mp h with z | z
          · cases z; exact absurd (by simp) e
          · exact .inl z
        · exact .inr (by rw [List.lookup_cons]; rw [Bool.not_eq_true] at e; rw [e]; exact h)
    · rename_i hk
      refine closL_has r acc ?_
      rcases h with h | h
      · rcases List.mem_cons.mp h with z | z
        · cases z; exact absurd rfl hk
        · exact .inl z
      · exact .inr h
theorem closureFor_closL {scope : Scope} {env : Env} (h : ∀ x ∈ scope.names, x.2 = .free → ∃ c, env.cells.lookup x.1 = some c) : closureFor scope env = pure (closL env scope.names []) := by
  unfold closureFor
  have key : ∀ (names : List (Str × NameKind)) (acc : List (Str × Addr)), (∀ x ∈ names, x.2 = .free → ∃ c, env.cells.lookup x.1 = some c) →
      (forIn names acc fun (x : Str × NameKind) (r : List (Str × Addr)) => (if (x.2 == NameKind.free) = true then do let y ← cellOf env x.1; pure (ForInStep.yield ((x.1, y) :: r)) else pure (ForInStep.yield r) : Sem _)) = pure (closL env names acc) := by
    intro names
    induction names with
    | nil => intro acc _; rfl
    | cons p r ih =>
      intro acc hp
      obtain ⟨n, k⟩ := p
      rw [List.forIn_cons]
      have hr : ∀ x ∈ r, x.2 = .free → ∃ c, env.cells.lookup x.1 = some c := fun x hx => hp x (List.mem_cons_of_mem _ hx)
      unfold closL
      by_cases hk : (k == NameKind.free) = true
      · obtain ⟨c, hc⟩ := hp (n, k) List.mem_cons_self (by simpa using hk)
        have hc' : env.cells.lookup n = some c := hc
        have e1 : cellOf env n = pure c := by unfold cellOf; rw [hc']
        simp only [hk, if_true]
        rw [e1, hc']
        simp only [pure_bind]
        exact ih _ hr
      · rw [if_neg hk, if_neg hk]
        simp only [pure_bind]
        exact ih _ hr
  have e := key scope.names [] h
  have e2 : ∀ (m : Sem (List (Str × Addr))), (m >>= fun r => pure r) = m := fun m => bind_pure m
  rw [← e]
  first
    | rfl
    | exact (e2 _)
end L2
namespace L2
open PySem PySem.Spec PyProof.Rows
def compEnv (scope : Scope) (C : Addr) (env : Env) : Env :=
  { scope := relabel scope env, locals := C, globals := env.globals, cells := cellsFrom (C + 1) scope.names (closL env scope.names []), qual := env.qual, func := none, code := env.code, frame := env.frame, builtins := env.builtins }
def compCx (X : Cx) (N' : List Str) (scope : Scope) (s : Shared) (H : Hp) (fp : List Addr) (pins : List (Addr × Obj)) : Cx :=
  { X with N := N', s₀ := s, H₀ := H, env := compEnv scope s.heap.objs.size X.env, outer := X.stack, stack := X.stack, ex := fp, fn := fun x => decide ((x, NameKind.cell) ∈ scope.names), pn := X.pn ++ pins, xe := fun _ _ => False }
def compChk (sc0 : Scope) (N : List Str) (scope : Scope) (N' : List Str) (ix : List (Option Nat)) : Bool :=
  decide (scope.kind = .function) && scope.names.all (fun y => (!decide (y.2 = .local) || decide (scope.names.lookup y.1 = some .local)) &&
    (!decide (y.2 = .free) || ((decide (sc0.names.lookup y.1 = some .cell) || decide (sc0.names.lookup y.1 = some .free)) && !decide ((y.1, NameKind.cell) ∈ scope.names)))) &&
  decide (N'.length = ix.length) && (N'.zip ix).all (fun p => match p.2 with | none => true | some j => decide (N[j]? = some p.1) && decide (scope.names.lookup p.1 = some .free))
structure CompOk (env : Env) (N : List Str) (scope : Scope) (N' : List Str) (ix : List (Option Nat)) : Prop where
  kind : scope.kind = .function
  loc : ∀ y ∈ scope.names, y.2 = .local → scope.names.lookup y.1 = some .local
  free : ∀ y ∈ scope.names, y.2 = .free → (env.kindOf y.1 = some .cell ∨ env.kindOf y.1 = some .free) ∧ (y.1, NameKind.cell) ∉ scope.names
  len : N'.length = ix.length
  slot : ∀ (i : Nat) (x : Str) (j : Nat), N'[i]? = some x → ix[i]? = some (some j) → N[j]? = some x ∧ scope.names.lookup x = some .free
theorem compOk_of {env : Env} {N : List Str} {scope : Scope} {N' : List Str} {ix : List (Option Nat)} (h : compChk env.scope N scope N' ix = true) : CompOk env N scope N' ix := by
  unfold compChk at h
  simp only [Bool.and_eq_true, decide_eq_true_eq, List.all_eq_true] at h
  obtain ⟨⟨⟨h1, h2⟩, h3⟩, h4⟩ := h
  refine ⟨h1, fun y hy e => ?_, fun y hy e => ?_, h3, fun i x j e1 e2 => ?_⟩
  · have := (h2 y hy).1
    rw [e] at this
    simpa using this
  · have := (h2 y hy).2
    rw [e] at this
    simpa [Env.kindOf] using this
  · have hm : (x, some j) ∈ N'.zip ix := by
      refine List.mem_of_getElem? (i := i) ?_
      rw [List.getElem?_zip_eq_some]
      exact ⟨e1, e2⟩
    have := h4 _ hm
    simpa using this
def rlf (env : Env) (p : Str × NameKind) : Str × NameKind := match p with | (n, k) => if (k == NameKind.free && env.scope.kind == .function && env.kindOf n == some .cell) then (n, .cell) else (n, k)
theorem rlf_fst (env : Env) (n : Str) (k : NameKind) : ∃ k', rlf env (n, k) = (n, k') ∧ (k' = k ∨ (k = .free ∧ k' = .cell)) := by
  unfold rlf
  by_cases c : (k == NameKind.free && env.scope.kind == .function && env.kindOf n == some .cell) = true
  · refine ⟨.cell, if_pos c, .inr ⟨?_, rfl⟩⟩
    simp only [Bool.and_eq_true, beq_iff_eq] at c
    exact c.1.1
  · exact ⟨k, if_neg c, .inl rfl⟩
theorem rlf_free {env : Env} : ∀ {names : List (Str × NameKind)} {x : Str}, names.lookup x = some .free → (names.map (rlf env)).lookup x = some .cell ∨ (names.map (rlf env)).lookup x = some .free
  | [], _, h => by simp at h
  | (n, k) :: r, x, h => by
    have ih := @rlf_free env r x
    obtain ⟨k', e, hk'⟩ := rlf_fst env n k
    rw [List.map_cons, e]
    cases hx : x == n with
    | true =>
      simp only [List.lookup_cons, hx] at h ⊢
      have hk : k = .free := Option.some.inj h
      rcases hk' with z | z
      · right; rw [z, hk]
      · left; rw [z.2]
    | false =>
      simp only [List.lookup_cons, hx] at h ⊢
      exact ih h
theorem rlf_back {env : Env} : ∀ {names : List (Str × NameKind)} {x : Str} {k' : NameKind}, (names.map (rlf env)).lookup x = some k' → k' = .cell ∨ k' = .free → names.lookup x = some .cell ∨ names.lookup x = some .free
  | [], _, _, h, _ => by simp at h
  | (n, k) :: r, x, k', h, hk' => by
    have ih := @rlf_back env r x k'
    obtain ⟨k2, e, hk2⟩ := rlf_fst env n k
    rw [List.map_cons, e] at h
    cases hx : x == n with
    | true =>
      simp only [List.lookup_cons, hx] at h ⊢
      have : k2 = k' := Option.some.inj h
      subst this
      rcases hk2 with z | z
      · rw [← z]
        rcases hk' with q | q
        · left; rw [q]
        · right; rw [q]
      · right; rw [z.1]
    | false =>
      simp only [List.lookup_cons, hx] at h ⊢
      exact ih h hk'
theorem cells_own {x : Str} {c : Addr} : ∀ (names : List (Str × NameKind)) (n : Nat) (acc : List (Str × Addr)), (cellsFrom n names acc).lookup x = some c → (x, c) ∈ cellsFrom n names [] ∨ acc.lookup x = some c := by
  have app : ∀ (names : List (Str × NameKind)) (n : Nat) (acc : List (Str × Addr)), cellsFrom n names acc = cellsFrom n names [] ++ acc := by
    intro names
    induction names with
    | nil => intro n acc; rfl
    | cons p r ih =>
      intro n acc
      obtain ⟨y, k⟩ := p
      unfold cellsFrom
      split
      · rw [ih (n + 1) ((y, n) :: acc), ih (n + 1) [(y, n)], List.append_assoc]; rfl
      · exact ih n acc
  intro names n acc h
  rw [app] at h
  rw [List.lookup_append] at h
  cases e : (cellsFrom n names []).lookup x with
  | some d =>
    rw [e] at h
    have : d = c := by simpa using h
    subst this
    exact .inl (mem_of_lookup e)
  | none => rw [e] at h; exact .inr (by simpa using h)
def sub0 (ix : List (Option Nat)) (σ : St) : St := ix.map fun o => match o with
  | none => none
  | some j => match σ[j]? with
    | some v => v
    | none => none
section
variable {X : Cx} {pins : List (Addr × Obj)} {σ : St} {H : Hp} {s : Shared}
theorem comp_inv {N' : List Str} {ix : List (Option Nat)} {scope : Scope} {fp : List Addr} (ok : CompOk X.env X.N scope N' ix) (I : Inv X pins σ H s) (hf : ∀ b ∈ fp, FpOk X pins H b) (hfl : ∀ b ∈ fp, b < s.heap.objs.size) :
    Inv (compCx X N' scope s H fp pins) [] (sub0 ix σ) H { s with heap := pushCells (s.heap.push { cls := .type "dict", data := .dict #[] }) scope.names } := by
  have hk4 : ∀ b o, s.heap.get? b = some o → (pushCells (s.heap.push { cls := .type "dict", data := .dict #[] }) scope.names).get? b = some o := fun b o e => pushCells_keeps _ _ b o (Heap.get?_push_of_some _ e)
  have hclo : ∀ x c, (closL X.env scope.names []).lookup x = some c → X.env.cells.lookup x = some c := fun x c e => by
    rcases closL_cases scope.names [] e with ⟨h1, h2⟩ | h1
    · obtain ⟨d, hd⟩ := I.ok.has x (ok.free _ h1 rfl).1
      rw [hd] at h2 ⊢
      rw [h2]; rfl
    · cases h1
  have hcl : ∀ x c, X.env.cells.lookup x = some c → c < s.heap.objs.size := fun x c e => by
    obtain ⟨v, q⟩ := I.cell x c e
    exact q.lt
  have own := cellsFrom_ok scope.names (s.heap.push { cls := .type "dict", data := .dict #[] }) (s.heap.objs.size + 1) [] ⟨fun _ _ hm => (nomatch hm), List.Pairwise.nil⟩ (by rw [Heap.size_push]; exact Nat.le_refl _)
  rw [Heap.size_push] at own
  have cases : ∀ x c, (cellsFrom (s.heap.objs.size + 1) scope.names (closL X.env scope.names [])).lookup x = some c →
      ((pushCells (s.heap.push { cls := .type "dict", data := .dict #[] }) scope.names).IsCell c none ∧ s.heap.objs.size + 1 ≤ c) ∨ X.env.cells.lookup x = some c := fun x c e => by
    rcases cells_own _ _ _ e with h | h
    · exact .inl (own.empty x c h)
    · exact .inr (hclo x c h)
  have fs' : ∀ b, b ∈ frs X.stack → b < s.heap.objs.size := fun b hb => by
    rcases List.mem_cons.mp (I.stkSub b hb) with z | z
    · rw [z]; exact I.lt
    · by_cases q : b < s.heap.objs.size
      · exact q
      · exact absurd z (I.nofs (Nat.not_lt.mp q))
  have cix : (compCx X N' scope s H fp pins).Ok := by
    refine ⟨I.ok.mod, ok.kind, I.ok.glob, I.ok.blt, Nat.le_refl _, fun x y c h1 h2 => ?_, fun x hx => ?_, fun x c hx e => ?_, I.ok.hd, I.ok.frames, .inl rfl, fun b hb => ⟨Nat.ne_of_lt (hfl b hb), fun x c e => ?_⟩, fun b o e => I.bs b o e, Nat.le_trans I.ok.bsz I.sz, fun b o e hb => ?_, fun b hb => ?_, I.stack, I.stkFree⟩
    · rcases cases x c h1 with ⟨_, z⟩ | z
      · exact cellsFrom_inj scope.names _ _ (fun w d e => Nat.lt_succ_of_lt (hcl w d (hclo w d e))) h1 h2 z
      · rcases cases y c h2 with ⟨_, z2⟩ | z2
        · exact absurd (hcl x c z) (Nat.not_lt.mpr (Nat.le_of_succ_le z2))
        · exact I.ok.inj x y c z z2
    · have hx' : scope.names.lookup x = some .cell ∨ scope.names.lookup x = some .free := by
        rcases hx with z | z
        · exact rlf_back (env := X.env) z (.inl rfl)
        · exact rlf_back (env := X.env) z (.inr rfl)
      rcases hx' with z | z
      · exact Option.isSome_iff_exists.mp (PySem.W.cellsFrom_some scope.names _ _ (.inl z))
      · exact Option.isSome_iff_exists.mp (PySem.W.cellsFrom_some scope.names _ _ (.inr (closL_has _ _ (.inl (mem_of_lookup z)))))
    · have hx' : (x, NameKind.cell) ∈ scope.names := of_decide_eq_true hx
      rcases cases x c e with ⟨_, z⟩ | z
      · exact Nat.le_of_succ_le z
      · rcases cells_own _ _ _ e with h | h
        · exact Nat.le_of_succ_le (own.empty x c h).2
        · rcases closL_cases scope.names [] h with ⟨h1, _⟩ | h1
          · exact absurd hx' (ok.free _ h1 rfl).2
          · cases h1
    · intro z
      rcases cases x c e with ⟨_, z2⟩ | z2
      · rw [z] at z2; exact absurd (hfl b hb) (Nat.not_lt.mpr (Nat.le_of_succ_le z2))
      · exact (hf b hb).2.2.2.2.1 x c z2 z
    · rcases (hf b hb).2.2.2.1 with z | z
      · exact I.ok.noex b o e z
      · exact absurd (Heap.lt_size (I.ok.bs b o e).1) (Nat.not_lt.mpr z)
    · intro z
      rcases List.mem_cons.mp (I.stkSub b z) with q | q
      · exact (hf b hb).2.1 q
      · exact (hf b hb).2.2.1 q
  refine ⟨cix, rfl, I.bare, Un.kept hk4, ⟨fun _ => none, ?_, fun i x v e1 e2 e3 => ?_⟩, fun x c e => ?_, I.hok.fresh (Nat.le_refl _), fun x c e => ?_, fun p hp => ?_, I.hok.kept hk4, ?_⟩
  · exact (Heap.Ns.new s.heap (.type "dict")).keeps (pushCells_keeps _ _)
  · have e2' : ∃ j, ix[i]? = some (some j) ∧ σ[j]? = some (some v) := by
      unfold sub0 at e2
      rw [List.getElem?_map] at e2
      cases q : ix[i]? with
      | none => rw [q] at e2; cases e2
      | some o =>
        rw [q] at e2
        cases o with
        | none => cases (Option.some.inj e2)
        | some j =>
          refine ⟨j, rfl, ?_⟩
          have e2'' : (match σ[j]? with | some v => v | none => none) = some v := Option.some.inj e2
          cases r : σ[j]? with
          | none => rw [r] at e2''; cases e2''
          | some w => rw [r] at e2''; exact congrArg some e2''
    obtain ⟨j, hj, hv⟩ := e2'
    obtain ⟨hN, hfr⟩ := ok.slot i x j e1 hj
    have hk := (ok.free _ (mem_of_lookup hfr) rfl).1
    have hvis : Vis X.env.scope x := by
      rcases hk with z | z
      · exact .inr (.inl z)
      · exact .inr (.inr z)
    obtain ⟨m, hn, hl⟩ := I.loc
    obtain ⟨u, ru, lk⟩ := hl j x v hN hv hvis
    refine ⟨u, ru, .inr ⟨?_, ?_⟩⟩
    · exact rlf_free (env := X.env) hfr
    · rcases lk with ⟨z, _⟩ | ⟨_, c, hc, hcell⟩
      · rcases hk with q | q
        · rw [z] at q; cases q
        · rw [z] at q; cases q
      · refine ⟨c, ?_, hcell.keeps hk4⟩
        show (cellsFrom (s.heap.objs.size + 1) scope.names (closL X.env scope.names [])).lookup x = some c
        rw [cellsFrom_acc scope.names _ _ (ok.free _ (mem_of_lookup hfr) rfl).2]
        obtain ⟨d, hd⟩ := Option.isSome_iff_exists.mp (closL_has (env := X.env) scope.names [] (.inl (mem_of_lookup hfr)))
        rw [hd, ← hclo x d hd, hc]
  · rcases cases x c e with ⟨z, _⟩ | z
    · exact ⟨none, z⟩
    · obtain ⟨v, q⟩ := I.cell x c z
      exact ⟨v, q.keeps hk4⟩
  · rcases cases x c e with ⟨_, z⟩ | z
    · exact I.hok.fresh (Nat.le_of_succ_le z)
    · exact I.freeC x c z
  · have hp' : p ∈ X.pn ++ pins := by simpa [compCx] using hp
    obtain ⟨q1, q2, q3, q4, q5⟩ := I.pin p hp'
    refine ⟨hk4 _ _ q1, q2, Nat.ne_of_lt (Heap.lt_size q1), fun z => ?_, q5⟩
    rcases List.mem_cons.mp (I.stkSub p.1 z) with q | q
    · exact q3 q
    · exact q4 q
  · unfold sub0
    rw [List.length_map]
    exact ok.len.symm
end
end L2
namespace L2
open PySem PySem.Spec PyProof.Rows
section
variable {M : Model} {A : Around} {E : Value → Shared → Prop} {s : Shared}
theorem newFunctionEnv_comp {scope : Scope} {globals : Addr} {cl : List (Str × Addr)} {qual : Str} {func : Option Addr} {code : Value} {env : Env} {Q : Env → Shared → Prop}
    (hQ : Q { scope := scope, locals := s.heap.objs.size, globals := globals, cells := cellsFrom (s.heap.objs.size + 1) scope.names cl, qual := qual, func := func, code := env.code, frame := env.frame, builtins := env.builtins }
      { s with heap := pushCells (s.heap.push { cls := .type "dict", data := .dict #[] }) scope.names }) :
    wpAny M A (newFunctionEnv scope globals cl [] qual func code (some env)) Q E s := by
  simp only [newFunctionEnv, Option.isSome_some, if_true]
  refine wpAny_bind (wpAny_alloc ?_)
  refine wpAny_bind (wpAny_layCells _ (fun name kind cells => by cases hkc : kind == NameKind.cell <;> simp [hkc]) _ _ _ _ ?_)
  rw [show ({ s with heap := s.heap.push { cls := .type "dict", data := .dict #[] } } : Shared).heap.objs.size = s.heap.objs.size + 1 from Heap.size_push ..]
  simp only [List.forIn_nil]
  exact wpAny_bind (wpAny_pure (wpAny_pure hQ))
end
section
variable {prog : Program} {w : World} {A : Around} {R : Result → Shared → Prop} {s : Shared}
theorem codeAny_comp {elt target iter : Expr} {ifs : List Expr} {scope : Scope} {pos : Pos} {it acc : Value} {env : Env} (I : Nat → Shared → Prop)
    (turn : ∀ n s, I n s → wpAny (model prog w) A (pyNext it) (fun r s₁ => match r with
      | none => R (.ok .next) s₁
      | some v => wpAny (model prog w) A (letOwnedTupleGo target it v) (fun _ s₂ => wpAny (model prog w) A (assign target env v) (fun _ s₃ =>
          wpAny (model prog w) A (forIn ifs true fun c r => if r = true then do let ok ← isTrue c env (eval c env); pure (ForInStep.yield ok) else pure (ForInStep.yield r)) (fun ok s₄ =>
            if ok = true then wpAny (model prog w) A (eval elt env) (fun x s₅ =>
              wpAny (model prog w) A (call (.builtin "list.append") [acc, x]) (fun _ s₆ => ∃ m, m < n ∧ I m s₆) (fun _ _ => False) s₅) (fun _ _ => False) s₄
            else ∃ m, m < n ∧ I m s₄) (fun _ _ => False) s₃) (fun _ _ => False) s₂) (fun _ _ => False) s₁) (fun _ _ => False) s)
    (n : Nat) (h : I n s) :
    codeAny (model prog w) A (.compLoop (.ListComp elt [⟨target, iter, ifs, 0⟩] scope pos) 0 it acc env) R s := by
  refine codeAny_loop rfl I (fun n s hI => ?_) n h
  show wpAny _ A ((compTurn (.ListComp elt [⟨target, iter, ifs, 0⟩] scope pos) 0 it acc env).onRaise (fun x => do noteFrame x env; theTreesLotGoes x)) _ _ s
  refine wpAny_noted ?_
  rw [compTurn_list]
  refine wpAny_bind (wpAny_standAt (wpAny_bind (wpAny_mono (turn n s hI) (fun r s₁ h₁ => ?_) fun _ _ h' => h'.elim)))
  cases r with
  | none => exact wpAny_pure h₁
  | some v =>
    refine wpAny_bind (wpAny_mono h₁ (fun _ s₂ h₂ => ?_) fun _ _ h' => h'.elim)
    refine wpAny_bind (wpAny_mono h₂ (fun _ s₃ h₃ => wpAny_bind (wpAny_mono h₃ (fun ok s₄ h₄ => ?_) fun _ _ h' => h'.elim)) fun _ _ h' => h'.elim)
    cases ok with
    | false => exact wpAny_pure ⟨rfl, h₄⟩
    | true =>
      exact wpAny_bind (wpAny_bind (wpAny_mono h₄ (fun x s₅ h₅ => wpAny_bind (wpAny_mono h₅ (fun _ s₆ h₆ => wpAny_pure (wpAny_pure ⟨rfl, h₆⟩)) fun _ _ h' => h'.elim)) fun _ _ h' => h'.elim))
end
def PIf (X : Cx) (ifs : List Expr) (t : TT) : Prop :=
  ∀ (pins : List (Addr × Obj)) (s : Shared) (σ : St) (H : Hp) (Q : Bool → Hp → Prop), Inv X pins σ H s → t σ H Q →
    wpAny (model X.prog X.w) X.A (forIn ifs true fun c r => if r = true then do let ok ← isTrue c X.env (eval c X.env); pure (ForInStep.yield ok) else pure (ForInStep.yield r)) (TP X pins σ Q) X.xe s
def tYes : TT := fun _ H Q => Q true H
section
variable {X : Cx}
theorem pif_nil : PIf X [] tYes := fun _ _ _ H _ I h => wpAny_tests_nil ⟨H, I, h⟩
end
def tComp (ix : List (Option Nat)) (wi : TI) (g : TG) (tts : TT) (te : TE) : TE := fun σ H Q => wi σ H fun J H1 => ∀ D, H1 D = none → ∃ W : Nat → Nat → St → Hp → Prop, (∃ m, W 0 m (sub0 ix σ) (upd H1 D (.lst []))) ∧ ∀ i m τ H2, W i m τ H2 →
  (J.stop i H2 ∧ Q (.ref D) H2) ∨ (J.go i H2 ∧ ∀ x H3, J.yld i H2 x H3 → g x τ H3 fun τ2 H4 => tts τ2 H4 fun ok H5 => if ok = true then te τ2 H5 fun v H6 => ∃ ys, H6 D = some (.lst ys) ∧ ys.length < sizeLine ∧ ∃ m', m' < m ∧ W (i + 1) m' τ2 (upd H6 D (.lst (ys ++ [v])))
    else ∃ m', m' < m ∧ W (i + 1) m' τ2 H5)
section
variable {X : Cx} {tg iter elt : Expr} {ifs : List Expr} {scope : Scope} {N' : List Str} {ix : List (Option Nat)} {wi : TI} {g : TG} {tts : TT} {te : TE}
theorem comp_core {use : Option (Value → Sem Unit)} {Qf : Value → Shared → Prop} {pos p' : Pos} {pins : List (Addr × Obj)} {σ : St} {H : Hp} {s : Shared} {Q : VK} (hc : X.calm = true) (ok : CompOk X.env X.N scope N' ix) (hi : PI X tg iter wi)
    (blk : ∀ s H fp pn, PG (compCx X N' scope s H fp pn) tg g ∧ PIf (compCx X N' scope s H fp pn) ifs tts ∧ PE (compCx X N' scope s H fp pn) elt te)
    (hs : ∀ x, foldedSetIterable iter X.env x = pure x) (I : Inv X pins σ H s) (hw : tComp ix wi g tts te σ H Q)
    (fin : ∀ D C H' s', Inv X pins σ H' s' → Q (.ref D) H' → (∃ m, s'.heap.Ns C m) → H' C = none → X.s₀.heap.objs.size ≤ C → C ≠ X.env.locals → (∀ x c, X.env.cells.lookup x = some c → c ≠ C) → C ∉ X.fs → (∀ p ∈ X.pn ++ pins, p.1 ≠ C) →
      compPost (model X.prog X.w) X.A X.xe use Qf (.ref D) C (.ok .next) s') :
    wpAny (model X.prog X.w) X.A (comprehension (.ListComp elt [⟨tg, iter, ifs, 0⟩] scope pos) scope X.env p' (newList []) false (eval iter X.env) use) Qf X.xe s := by
  have hclos : closureFor scope X.env = pure (closL X.env scope.names []) := closureFor_closL fun y hy e => I.ok.has y.1 (ok.free y hy e).1
  refine wpAny_comprehension_free (use := use) rfl hs hclos ok.kind ok.loc (thn (hi pins s σ H _ I hw) fun v s1 h1 => thn h1 fun itv s2 h2 => ?_)
  obtain ⟨it, fp, tn, J, H2, e, I2, T, st2, f2, hW⟩ := h2
  subst e
  obtain ⟨W, ⟨m0, w0⟩, turn⟩ := hW s2.heap.objs.size (I2.hok.fresh (Nat.le_refl _))
  have hfl : ∀ b ∈ fp, b < s2.heap.objs.size := fun b hb => by
    obtain ⟨o, e, _⟩ := T.obj 0 _ st2 b hb
    exact Heap.lt_size e
  refine wpAny_newObj_type ?_
  have I3 : Inv X pins σ (upd H2 s2.heap.objs.size (.lst [])) { s2 with heap := s2.heap.push { cls := .type "list", dict := none, data := .seq ([] : List Value).toArray } } :=
    I2.laid (t' := s2.toks) (fun b o e => Heap.get?_push_of_some _ e) (Nat.le_refl _) (show ObjOk X.prog X.w _ _ _ (.lst []) from ⟨Nat.zero_le _, [], 0, .nil, Heap.get?_push_size _ rfl⟩)
  have st3 : tn 0 (s2.heap.push { cls := .type "list", dict := none, data := .seq ([] : List Value).toArray }) := T.keep 0 _ _ st2 fun b _ o e => Heap.get?_push_of_some _ e
  have f3 : ∀ b ∈ fp, FpOk X pins (upd H2 s2.heap.objs.size (.lst [])) b := fun b hb => ⟨by rw [upd_ne (Nat.ne_of_lt (hfl b hb))]; exact (f2 b hb).1, (f2 b hb).2⟩
  have hfl3 : ∀ b ∈ fp, b < (s2.heap.push { cls := .type "list", dict := none, data := .seq ([] : List Value).toArray }).objs.size := fun b hb => by rw [Heap.size_push]; exact Nat.lt_succ_of_lt (hfl b hb)
  generalize hs3 : ({ s2 with heap := s2.heap.push { cls := .type "list", dict := none, data := .seq ([] : List Value).toArray } } : Shared) = s3 at I3 ⊢
  have eh3 : s3.heap = s2.heap.push { cls := .type "list", dict := none, data := .seq ([] : List Value).toArray } := by rw [← hs3]
  rw [← eh3] at st3 hfl3
  generalize hH3 : upd H2 s2.heap.objs.size (.lst []) = H3 at I3 f3 w0
  generalize hD : s2.heap.objs.size = D at *
  refine newFunctionEnv_comp ?_
  have I4 := comp_inv ok I3 f3 hfl3
  obtain ⟨hg, ht, he⟩ := blk s3 H3 fp pins
  have st4 : tn 0 (pushCells (s3.heap.push { cls := .type "dict", data := .dict #[] }) scope.names) := T.keep 0 _ _ st3 fun b _ o e => pushCells_keeps _ _ b o (Heap.get?_push_of_some _ e)
  have stat : ∀ {H' : Hp}, (∀ b ∈ fp, H' b = none) → ∀ b ∈ fp, FpOk (compCx X N' scope s3 H3 fp pins) [] H' b := fun hn b hb => by
    refine ⟨hn b hb, Nat.ne_of_lt (hfl3 b hb), I4.ok.exfs b hb, .inl hb, (I4.ok.exf b hb).2, fun p hp => ?_⟩
    have hp' : p ∈ X.pn ++ pins := by simpa [compCx] using hp
    exact (f2 b hb).2.2.2.2.2 p hp'
  have loop : ∀ (s4 : Shared), Inv (compCx X N' scope s3 H3 fp pins) [] (sub0 ix σ) H3 s4 → tn 0 s4.heap →
      codeAny (model X.prog X.w) X.A (.compLoop (.ListComp elt [⟨tg, iter, ifs, 0⟩] scope pos) 0 (.ref it) (.ref D) (compEnv scope s3.heap.objs.size X.env)) (compPost (model X.prog X.w) X.A X.xe use Qf (.ref D) s3.heap.objs.size) s4 := by
    intro s4 I4 st4
    refine codeAny_comp (fun n s' => ∃ i τ H', Inv (compCx X N' scope s3 H3 fp pins) [] τ H' s' ∧ tn i s'.heap ∧ (∀ b ∈ fp, H' b = none) ∧ W i n τ H') ?_ m0 ⟨0, _, H3, I4, st4, fun b hb => (f3 b hb).1, w0⟩
    rintro n s5 ⟨i, τ, H5, I5, st5, fr5, w5⟩
    rcases turn i n τ H5 w5 with ⟨stop, qn⟩ | ⟨go, step⟩
    · refine thn (T.done (compCx X N' scope s3 H3 fp pins) rfl rfl rfl hc i [] s5 τ H5 (fun _ _ => False) I5 (stat fr5) st5 stop) fun r s6 ⟨hr, I6⟩ => ?_
      subst hr
      have I7 : Inv X pins σ H5 s6 := I3.call' (ch := fp) I6.os I6.base I6.hok I6.bare fun b hb => ⟨(f2 b hb).2.2.2.1, (f2 b hb).2.1, (f2 b hb).2.2.2.2.1, (f2 b hb).2.2.2.2.2⟩
      obtain ⟨m6, hn6, _⟩ := I6.loc
      refine fin D s3.heap.objs.size H5 s6 I7 qn ⟨m6, hn6⟩ I6.free ?_ ?_ ?_ ?_ ?_
      · exact I3.sz
      · exact Nat.ne_of_gt I3.lt
      · intro x c e z
        obtain ⟨v, q⟩ := I3.cell x c e
        have := q.lt
        rw [z] at this
        exact Nat.lt_irrefl _ this
      · exact I3.nofs (Nat.le_refl _)
      · intro p hp z
        have := Heap.lt_size (I3.pin p hp).1
        rw [z] at this
        exact Nat.lt_irrefl _ this
    · refine thn (T.item (compCx X N' scope s3 H3 fp pins) rfl rfl rfl hc i [] s5 τ H5 (fun _ _ => False) I5 (stat fr5) st5 go) fun r s6 ⟨u, hr, h6⟩ => ?_
      subst hr
      refine thn h6 fun _ s7 ⟨x, H7, I7, r7, y7, st7, fr7⟩ => ?_
      have I7' := I7.pinned (stat fr7) (T.obj _ _ st7)
      have again : ∀ {s8 : Shared} {τ8 : St} {H8 : Hp}, Inv (compCx X N' scope s3 H3 fp pins) ([] ++ pinsAt fp s7.heap) τ8 H8 s8 → (∃ m', m' < n ∧ W (i + 1) m' τ8 H8) →
          ∃ m, m < n ∧ ∃ i τ H', Inv (compCx X N' scope s3 H3 fp pins) [] τ H' s8 ∧ tn i s8.heap ∧ (∀ b ∈ fp, H' b = none) ∧ W i m τ H' := fun {s8 τ8 H8} I8 ⟨m', hm, w8⟩ => by
        refine ⟨m', hm, i + 1, τ8, H8, I8.unpinned, T.keep _ _ _ st7 fun b hb o e => (I8.pin (b, o) (List.mem_append_right _ (List.mem_append_right _ (mem_pinsAt hb e)))).1, fun b hb => ?_, w8⟩
        obtain ⟨o, e, d⟩ := T.obj _ _ st7 b hb
        exact (I8.pin (b, o) (List.mem_append_right _ (List.mem_append_right _ (mem_pinsAt hb e)))).2.1
      refine thn (hg _ s7 τ H7 x u _ I7' r7 (step x H7 y7)) fun _ s8 ⟨τ8, H8, I8, q8⟩ => ?_
      refine thn (ht _ s8 τ8 H8 _ I8 q8) fun okb s9 ⟨H9, I9, q9⟩ => ?_
      cases okb with
      | false =>
        rw [if_neg Bool.false_ne_true] at q9
        rw [if_neg Bool.false_ne_true]
        exact again I9 q9
      | true =>
        rw [if_pos rfl] at q9
        rw [if_pos rfl]
        refine thn (he _ s9 τ8 H9 _ I9 q9) fun v10 s10 ⟨x10, H10, I10, r10, q10⟩ => ?_
        obtain ⟨ys, hD10, hz, m', hm, w10⟩ := q10
        refine thn (mt_append (X := compCx X N' scope s3 H3 fp pins) _ s10 τ8 H10 (.ref D) [x10] (.ref D) [v10] (fun _ H' => ∃ m', m' < n ∧ W (i + 1) m' τ8 H') I10 rfl (.cons r10 .nil) ⟨D, ys, x10, rfl, rfl, hD10, hz, m', hm, w10⟩) fun _ s11 ⟨_, H11, I11, _, q11⟩ => ?_
        exact again I11 q11
  exact codeAny_compStart_list (loop _ I4 st4) (T.self X.A 0 _ _ _ st4 (loop _ I4 st4))
theorem pe_comp {pos : Pos} (N' : List Str) (ix : List (Option Nat)) (hc : X.calm = true) (hi : PI X tg iter wi)
    (blk : ∀ s H fp pn, PG (compCx X N' scope s H fp pn) tg g ∧ PIf (compCx X N' scope s H fp pn) ifs tts ∧ PE (compCx X N' scope s H fp pn) elt te)
    (chk : compChk X.env.scope X.N scope N' ix = true) (hs : ∀ x, foldedSetIterable iter X.env x = pure x := by intro _; rfl) :
    PE X (.ListComp elt [⟨tg, iter, ifs, 0⟩] scope pos) (tComp ix wi g tts te) := by
  intro pins s σ H Q I hw
  rw [eval_ListComp]
  refine comp_core (use := none) hc (compOk_of chk) hi blk hs I hw fun D C H' s' I' q hm hn h1 h2 h3 h4 h5 => ?_
  obtain ⟨m, hm⟩ := hm
  refine ⟨m, hm, fun h' sb => ⟨.ref D, H', ?_, rfl, q⟩⟩
  exact I'.turned (t' := s'.toks) (fun b o hb e => (sb.2 b hb).trans e) hn h2 (.inr h1) h3 h5
end
end L2
namespace L2
open PySem PySem.Spec PyProof.Rows
section
variable {X : Cx} {tg iter elt : Expr} {ifs : List Expr} {scope : Scope} {N' : List Str} {ix : List (Option Nat)} {wi : TI} {g : TG} {tts : TT} {te : TE}
theorem ps_setC {i : Nat} {x : Str} {pos pos' cpos : Pos} (N' : List Str) (ix : List (Option Nat)) (hN : X.N.Nodup) (hi : X.N[i]? = some x) (hx : Loc X.env.scope x) (hc : X.calm = true) (hit : PI X tg iter wi)
    (blk : ∀ s H fp pn, PG (compCx X N' scope s H fp pn) tg g ∧ PIf (compCx X N' scope s H fp pn) ifs tts ∧ PE (compCx X N' scope s H fp pn) elt te)
    (chk : compChk X.env.scope X.N scope N' ix = true) (hsw : swapsWith (.ListComp elt [⟨tg, iter, ifs, 0⟩] scope cpos) (some (.Name x pos')) pos.line X.env = pure true := by rfl)
    (hs : ∀ x, foldedSetIterable iter X.env x = pure x := by intro _; rfl) (hf : X.fn x = true ∨ X.env.scope.names.lookup x = some .local := by first | exact .inl rfl | exact .inr rfl | assumption) :
    PS X (.Assign [.Name x pos'] (.ListComp elt [⟨tg, iter, ifs, 0⟩] scope cpos) pos) (tAsg (tComp ix wi g tts te) (gName i)) := by
  intro pins s σ H D I hw
  rw [exec_Assign_Name_used _ _ _ _ hsw]
  refine wpAny_bind (wpAny_standAt (wpAny_bind ?_))
  show wpAny _ X.A (do let _ ← comprehension (.ListComp elt [⟨tg, iter, ifs, 0⟩] scope cpos) scope X.env _ (newList []) false (eval iter X.env) (some (assign (.Name x pos') X.env))) _ _ s
  refine wpAny_bind (thn (comp_core (use := some (assign (.Name x pos') X.env)) (Qf := fun _ s' => SP X pins D .next s') hc (compOk_of chk) hit blk hs I hw fun D' C H' s' I' q hm hn h1 h2 h3 h4 h5 => ?_) fun _ s' q => wpAny_pure (wpAny_pure q))
  obtain ⟨m, oC, es, ep, hoC, hdC, hrC⟩ := hm
  have Ip : Inv X (pins ++ [(C, oC)]) σ H' s' := I'.pins_of fun p hp => (List.mem_append.mp hp).elim (fun z => I'.pin p (List.mem_append_right _ z)) fun z => by
    have e : p = (C, oC) := by simpa using z
    subst e
    exact ⟨hoC, hn, h2, h4, fun v z => by rw [hdC] at z; cases z⟩
  refine wpAny_assign_Name (store_ok (v := .ref D') Ip hN hi hx rfl (fun s2 I2 => ?_) hf)
  have hC2 : s2.heap.get? C = some oC := (I2.pin (C, oC) (by simp)).1
  have I2' : Inv X pins (σ.set i (some (.ref D'))) H' s2 := I2.pins_of fun p hp => I2.pin p (List.mem_append_right _ (List.mem_append_left _ hp))
  refine ⟨m, ⟨oC, es, ep, hC2, hdC, hrC⟩, fun h' sb => ⟨_, H', ?_, q⟩⟩
  exact I2'.turned (t' := s2.toks) (fun b o hb e => (sb.2 b hb).trans e) hn h2 (.inr h1) h3 h5
end
end L2
namespace L2
open PySem PySem.Spec PyProof.Rows
section
variable {X : Cx}
end
end L2
namespace L2
open PySem PySem.Spec PyProof.Rows
section
variable {prog : Program} {w : World} {A : Around} {E : Value → Shared → Prop} {s : Shared} {I l : Addr} {items : Array Value}
end
section
variable {X : Cx} {e : Expr} {te : TE} {p p1 p2 pos : Pos}
end
end L2
namespace L2
open PySem PySem.Spec PyProof.Rows
def RowIs (k : Bool) (h : Heap) (a : Addr) (its : Array Value) : Prop := ∃ o, h.get? a = some o ∧ o.cls = .type (cond k "tuple" "list") ∧ ∃ n, o.data = .seq its n
def WalkIs (k : Bool) (h : Heap) (it a : Addr) (i : Nat) : Prop := ∃ o, h.get? it = some o ∧ o.cls = .type (cond k "tuple_iterator" "list_iterator") ∧ o.data = .fields #[.ref a, .int i 0]
theorem RowIs.mv {k : Bool} {h h' : Heap} {a : Addr} {its : Array Value} (r : RowIs k h a its) (f : ∀ o, h.get? a = some o → h'.get? a = some o) : RowIs k h' a its := let ⟨o, e, q⟩ := r; ⟨o, f o e, q⟩
theorem WalkIs.mv {k : Bool} {h h' : Heap} {it a : Addr} {i : Nat} (r : WalkIs k h it a i) (f : ∀ o, h.get? it = some o → h'.get? it = some o) : WalkIs k h' it a i := let ⟨o, e, q⟩ := r; ⟨o, f o e, q⟩
section
variable {P : Program} {w : World} {A : Around} {E : Value → Shared → Prop} {s : Shared} {k : Bool} {it a : Addr} {i : Nat} {its : Array Value}
theorem tupNext_item {x : Value} {Q : Value → Shared → Prop} (W : s.heap.IsTupleIter it a i) (R : s.heap.IsTuple a its) (hx : its[i]? = some x)
    (hQ : ∀ h', h'.IsTupleIter it a (i + 1) → Heap.SameBut it s.heap h' → Q x { s with heap := h' }) : wpAny (model P w) A (Builtin.SmallTypes.nextOf (.ref it)) Q E s := by
  have hT := W.typeIs
  obtain ⟨o, ho, c, d⟩ := W
  obtain ⟨ol, hol, _, nl, dl⟩ := R
  unfold Builtin.SmallTypes.nextOf
  refine wpAny_bind (wpAny_callSpecial?_slot (name := Str.ofString "__next__") hT F.slot_tuple_iterator_next (wpAny_call_entry F.slot_tuple_iterator_next hT F.entry_tuple_iterator_next ?_ (F.args_tuple_iterator_next_1 _)))
  refine wpAny_bind (m := field (.ref it) 0) (wpAny_field ho d (x := .ref a) rfl ?_)
  have nn : ¬ ((Value.ref a == Value.none) = true) := Bool.false_ne_true
  show wpAny _ _ (if (Value.ref a == Value.none) = true then _ else _) _ _ s
  rw [if_neg nn]
  refine wpAny_bind (m := field (.ref it) 1) (wpAny_field ho d (x := .int i 0) rfl ?_)
  refine wpAny_bind (m := seqItems? (.ref a)) (wpAny_seqItems hol dl ?_)
  simp only [Int.toNat_natCast, hx]
  exact wpAny_bind (wpAny_setField ho d (by simp) (wpAny_pure ⟨x, rfl, wpAny_pure (hQ _ ⟨_, Heap.get?_update_self _ ho (Obj.isFreed_of_fields (Obj.data_mapFields d _)), (Obj.cls_mapFields ..).trans c, by rw [Obj.data_mapFields d]; simp [rawInt]⟩ (Heap.SameBut.update ..))⟩))
theorem tupNext_end {Q : Value → Shared → Prop} (hh : A.handled = none) (W : s.heap.IsTupleIter it a i) (R : s.heap.IsTuple a its) (hx : its[i]? = none)
    (hE : ∀ h' e, Heap.ExtBut it s.heap h' → (∃ o, h'.get? e = some o ∧ o.cls = .type "StopIteration") → E (.ref e) { s with heap := h' }) : wpAny (model P w) A (Builtin.SmallTypes.nextOf (.ref it)) Q E s := by
  have hT := W.typeIs
  obtain ⟨o, ho, c, d⟩ := W
  obtain ⟨ol, hol, _, nl, dl⟩ := R
  unfold Builtin.SmallTypes.nextOf
  refine wpAny_bind (wpAny_callSpecial?_slot (name := Str.ofString "__next__") hT F.slot_tuple_iterator_next (wpAny_call_entry F.slot_tuple_iterator_next hT F.entry_tuple_iterator_next ?_ (F.args_tuple_iterator_next_1 _)))
  refine wpAny_bind (m := field (.ref it) 0) (wpAny_field ho d (x := .ref a) rfl ?_)
  have nn : ¬ ((Value.ref a == Value.none) = true) := Bool.false_ne_true
  show wpAny _ _ (if (Value.ref a == Value.none) = true then _ else _) _ _ s
  rw [if_neg nn]
  refine wpAny_bind (m := field (.ref it) 1) (wpAny_field ho d (x := .int i 0) rfl ?_)
  refine wpAny_bind (m := seqItems? (.ref a)) (wpAny_seqItems hol dl ?_)
  simp only [Int.toNat_natCast, hx]
  refine wpAny_bind (wpAny_rule (wpAny_bind (wpAny_setField ho d (by simp) (wpAny_bind (m := newExc (.type "StopIteration") []) ?_))))
  simp only [newExc, newTuple]
  refine wpAny_bind (wpAny_newObj_type (wpAny_bind (m := firstArgMember _ _) (wpAny_of_eq (a := Value.none) (by first | rfl | (simp only [firstArgMember]; rfl)) (wpAny_newObj_type ?_ (by size_fits)))) (by size_fits))
  simp only [raiseNew]
  refine wpAny_bind (wpAny_handled ?_)
  first | rw [show A.in1.handled = none from hh] | rw [hh]
  exact wpAny_bind (wpAny_pure (wpAny_throw (hE _ _ (((Heap.SameBut.update ..).extBut.push _).push _) ⟨_, Heap.get?_push_size _ rfl, rfl⟩)))
theorem rowNext_item {x : Value} {Q : Value → Shared → Prop} (W : WalkIs k s.heap it a i) (R : RowIs k s.heap a its) (hx : its[i]? = some x)
    (hQ : ∀ h', WalkIs k h' it a (i + 1) → Heap.SameBut it s.heap h' → Q x { s with heap := h' }) : wpAny (model P w) A (Builtin.SmallTypes.nextOf (.ref it)) Q E s := by
  cases k with
  | false => exact wpAny_nextOf_list_item W R hx hQ
  | true => exact tupNext_item W R hx hQ
theorem rowNext_end {Q : Value → Shared → Prop} (hh : A.handled = none) (W : WalkIs k s.heap it a i) (R : RowIs k s.heap a its) (hx : its[i]? = none)
    (hE : ∀ h' e, Heap.ExtBut it s.heap h' → (∃ o, h'.get? e = some o ∧ o.cls = .type "StopIteration") → E (.ref e) { s with heap := h' }) : wpAny (model P w) A (Builtin.SmallTypes.nextOf (.ref it)) Q E s := by
  cases k with
  | false => exact wpAny_nextOf_list_end hh W R hx hE
  | true => exact tupNext_end hh W R hx hE
end
end L2
namespace L2
open PySem PySem.Spec PyProof.Rows
section
variable {P : Program} {w : World} {A : Around} {E : Value → Shared → Prop} {s : Shared} {k l : Bool} {z U V i j a c : Addr} {n : Nat} {xs ys : Array Value} {x y u v : Value}
end
end L2
namespace L2
open PySem PySem.Spec PyProof.Rows
def Sq (k : Bool) (K : PySem.W.Frag) (H : Hp) (a : Addr) (xs : List V) : Prop := cond k (SqT K H a xs) (SqL K H a xs)
section
variable {X : Cx} {pins : List (Addr × Obj)} {σ : St} {H : Hp} {s : Shared} {k l : Bool} {a b c : Addr} {xs ys : List V}
theorem Inv.row (I : Inv X pins σ H s) (h : Sq k X.K H a xs) : ∃ its : List Value, Vals xs its ∧ RowIs k s.heap a its.toArray ∧ xs.length ≤ sizeLine := by
  cases k with
  | false => obtain ⟨its, r, p, z⟩ := I.list h; exact ⟨its, r, p.isList, z⟩
  | true => obtain ⟨its, r, p, z⟩ := I.tuple h; exact ⟨its, r, p, z⟩
theorem Inv.row_inj (I : Inv X pins σ H s) (h : Sq k X.K H a xs) (h' : Sq k X.K H a ys) : xs = ys := by
  cases k with
  | false => exact I.list_inj h h'
  | true => exact I.tuple_inj h h'
theorem rd_some {u : HO} (r : Rd H a u) : ∃ v, H a = some v := by
  rcases r with r | ⟨o, r⟩ <;> exact ⟨_, r⟩
theorem Inv.row_ne (I : Inv X pins σ H s) (h : Sq k X.K H a xs) (f : FpOk X pins H b) : a ≠ b := by
  have kk : ∀ o, X.K.lookup a = some o → a ≠ b := fun o e z => by
    have e1 := I.ok.mod.kin a o e
    rcases f.2.2.2.1 with q | q
    · exact I.ok.noex a o e1 (z ▸ q)
    · exact absurd (Nat.lt_of_lt_of_le (Heap.lt_size (I.ok.bs a o e1).1) (z ▸ q)) (Nat.lt_irrefl _)
  have hh : ∀ u, H a = some u → a ≠ b := fun u e z => by rw [z, f.1] at e; cases e
  cases k with
  | false =>
    rcases h with r | ⟨o, its, n, e, _⟩
    · obtain ⟨v, e⟩ := rd_some r; exact hh v e
    · exact kk o e
  | true =>
    rcases h with r | ⟨o, its, n, e, _⟩
    · obtain ⟨v, e⟩ := rd_some r; exact hh v e
    · exact kk o e
theorem Inv.yielded {h' : Heap} {T : Addr} {zs : List V} {t' : Nat} {ch : List Addr} (I : Inv X pins σ H s) (hf : ∀ b ∈ ch, FpOk X pins H b) (hT : s.heap.objs.size ≤ T)
    (kp : ∀ b o, b ∉ ch → s.heap.get? b = some o → h'.get? b = some o) (new : ObjOk X.prog X.w (upd H T (.tup zs)) h' T (.tup zs)) : Inv X pins σ (upd H T (.tup zs)) { s with heap := h', toks := t' } := by
  have hn : H T = none := I.hok.fresh hT
  have nT : ∀ b u, H b = some u → b ≠ T := fun b u e z => by rw [z, hn] at e; cases e
  have oT : ∀ b o, s.heap.get? b = some o → b ≠ T := fun b o e z => absurd (Nat.lt_of_lt_of_le (Heap.lt_size e) (z ▸ hT)) (Nat.lt_irrefl _)
  have nc : ∀ b u, H b = some u → b ∉ ch := fun b u e z => by rw [(hf b z).1] at e; cases e
  refine I.step (g' := s.gens) (d' := s.drawn) (ch := ch) (fun b hb => ⟨(hf b hb).2.2.2.1, (hf b hb).2.1, (hf b hb).2.2.2.2.1, (hf b hb).2.2.2.2.2⟩) (fun b o _ _ hc e _ => kp b o hc e) (fun b o _ _ hc e _ => ⟨o.slots, kp b o hc e⟩)
    (fun b o _ e n => by rw [upd_ne (oT b o e)]; exact n) (fun b o hc e => ⟨o, kp b o hc e⟩) (fun b xs e => by rw [upd_ne (nT b _ e)]; exact e) (fun b o u e => by rw [upd_ne (nT b _ e)]; exact e)
    (fun b ps e => ⟨#[], by rw [upd_ne (nT b _ e), e]; simp⟩) (fun m hm => ?_) (fun b u e => ?_) I.bare
  · obtain ⟨o, es, ep, ho, r⟩ := hm
    exact ⟨o, es, ep, kp _ o (fun z => (hf _ z).2.1 rfl) ho, r⟩
  · by_cases hb : b = T
    · subst hb; rw [upd_same] at e; cases e; exact new
    · rw [upd_ne hb] at e
      refine (I.hok b u e).stay (fun c v hc q => kp c v ?_ q) (fun c q => by rw [upd_ne (nT c _ q)]; exact q) fun c xs q => by rw [upd_ne (nT c _ q)]; exact q
      rcases hc with z | z
      · rw [z]; exact nc b u e
      · exact nc c _ z
end
section
variable {P : Program} {w : World} {A : Around} {E : Value → Shared → Prop} {s : Shared} {k l : Bool}
abbrev rowIt (k : Bool) (a : Addr) : Obj := { cls := .type (cond k "tuple_iterator" "list_iterator"), data := .fields #[.ref a, .int 0 0] }
theorem pyIter_row {a : Addr} {its : Array Value} {Q : Value → Shared → Prop} (R : RowIs k s.heap a its) (hQ : Q (.ref s.heap.objs.size) { s with heap := s.heap.push (rowIt k a) }) : wpAny (model P w) A (pyIter (.ref a)) Q E s := by
  cases k with
  | false => exact wpAny_pyIter_list R hQ
  | true => exact wpAny_pyIter_tuple R hQ
end
section
variable {X : Cx} {es : List Expr} {ct : Nat} {tp : Pos}
end
end L2
namespace L2
open PySem PySem.Spec PyProof.Rows
section
variable {X : Cx}
end
end L2
namespace L2
open PySem PySem.Spec PyProof.Rows
section
variable {prog : Program} {w : World} {A : Around} {E : Value → Shared → Prop} {s : Shared}
end
section
variable {X : Cx} {tg : Expr}
def Itk (k : Bool) (K : PySem.W.Frag) (a : Addr) : It := cond k (Itt K a) (Itl K a)
def rCatL (K : PySem.W.Frag) : R2 := fun x y H Q => ∃ l b xs zs, x = .ref l ∧ y = .ref b ∧ SqL K H l xs ∧ SqL K H b zs ∧ xs.length + zs.length ≤ sizeLine ∧ ∀ p, H p = none → Q (.ref p) (upd H p (.lst (xs ++ zs)))
theorem op_catL : OpR X (binaryOp .Add) (rCatL X.K) := by
  intro pins s σ H x y v u Q I rx ry h
  obtain ⟨l, b, xs, zs, rfl, rfl, hH, hB, hz, q⟩ := h
  cases rx
  cases ry
  obtain ⟨its, r, pl, hl⟩ := I.list hH
  obtain ⟨its2, r2, pl2, hl2⟩ := I.list hB
  obtain ⟨⟨cls, dd, data, sl⟩, ho, hc, n, hd⟩ := pl.isList
  obtain ⟨⟨cls2, dd2, data2, sl2⟩, ho2, hc2, n2, hd2⟩ := pl2.isList
  simp only at hc hd hc2 hd2
  subst hc hd hc2 hd2
  have n1 := r.length
  have n2' := r2.length
  have ea : its.toArray ++ its2.toArray = (its ++ its2).toArray := by simp
  have fin : EP X pins σ Q (.ref s.heap.objs.size) { s with heap := s.heap.push { cls := .type "list", data := .seq (its.toArray ++ its2.toArray) } } := by
    rw [ea]
    exact ⟨.ref _, _, I.lnew (t' := s.toks) (r.append r2) (by rw [List.length_append]; omega), rfl, q _ I.fresh⟩
  exact concat_meets ⟨_, ho, rfl⟩ ⟨_, ho2, rfl⟩ noFill_list_add seq_list_add PySem.F.slot_list_add PySem.F.entry_list_add (PySem.F.args_list_add_2 _ _) (list_addW l b its.toArray its2.toArray n n2 dd dd2 sl sl2 (by simp; omega)) ⟨ho, ho2, fin⟩
end
end L2
namespace L2
open PySem PySem.Spec PyProof.Rows
def Flat (n : Nat) (d : PyData) : Prop := d.canLay0 = true ∧ d.depth ≤ n
theorem Flat.shaped {n : Nat} {d : PyData} (h : Flat n d) (hn : n ≤ 64) : SeqAt.shaped d = true := by
  unfold SeqAt.shaped
  rw [h.1, decide_eq_true (Nat.le_trans h.2 hn)]; rfl
theorem flatAll {n : Nat} : ∀ {ds : List PyData}, (∀ d ∈ ds, Flat n d) → PyData.canLayAll0 ds = true ∧ PyData.depthAll ds ≤ n
  | [], _ => ⟨rfl, Nat.zero_le _⟩
  | d :: ds, h => by
    obtain ⟨a, b⟩ := flatAll (ds := ds) fun x hx => h x (List.mem_cons_of_mem _ hx)
    obtain ⟨c, e⟩ := h d List.mem_cons_self
    simp only [PyData.canLayAll0, PyData.depthAll, a, c]
    exact ⟨rfl, Nat.max_le.mpr ⟨e, b⟩⟩
theorem Flat.list {n : Nat} {ds : List PyData} (h : ∀ d ∈ ds, Flat n d) : Flat (n + 1) (.list ds) := by
  obtain ⟨a, b⟩ := flatAll h
  exact ⟨by simp only [PyData.canLay0]; exact a, by simp only [PyData.depth]; omega⟩
theorem Flat.int (i : Int) : Flat 0 (.int i) := ⟨by simp [PyData.canLay0], by simp [PyData.depth]⟩
theorem flat_ints (ns : List Int) : ∀ d ∈ ns.map PyData.int, Flat 0 d := fun d hd => by
  obtain ⟨i, _, rfl⟩ := List.mem_map.mp hd
  exact Flat.int i
theorem eqv_same {d : PyData} (h : SeqAt.shaped d = true) : PyData.eqv d d = true := SeqAt.eqv_refl d (SeqAt.canLay_of_shaped h)
end L2
namespace L2
open PySem PySem.Spec PyProof.Rows
section
variable {κ : Type} [DecidableEq κ]
theorem KV.length {kvs : List (κ × V)} {vs : List (κ × Value)} (r : KV kvs vs) : kvs.length = vs.length := Paired.length r
end
section
variable {P : Program} {w : World} {H : Hp} {h : Heap} {a : Addr}
theorem rd_of {u : HO} (ok : HOk P w H h) (e : Rd H a u) : ObjOk P w H h a u := e.ok ok
theorem dk_rd {kvs : List (Key × V)} (ok : HOk P w H h) (e : Rd H a (.dK kvs)) : kvs.length ≤ sizeLine ∧ (a == sysModules) = false ∧ ∃ vs, KV kvs vs ∧ h.DictOf (mixKind P w) a vs :=
  show ObjOk P w H h a (.dK kvs) from rd_of ok e
end
section
variable {X : Cx} {pins : List (Addr × Obj)} {σ : St} {H : Hp} {s : Shared} {a : Addr} {y v : V} {u r : Value} {o : Option V} {A : Around} {E : Value → Shared → Prop}
end
section
variable {X : Cx} {pins : List (Addr × Obj)} {σ : St} {H : Hp} {s : Shared} {a : Addr} {kvs : List (Key × V)} {k : Key} {u : Value} {A : Around} {E : Value → Shared → Prop}
theorem d_len {Q : Value → Shared → Prop} (I : Inv X pins σ H s) (e : Rd H a (.dK kvs)) (h : ∀ t s', Inv X pins σ H s' → Q (.int kvs.length t) s') : wpAny (model X.prog X.w) A (call (.builtin "len") [.ref a]) Q E s := by
  obtain ⟨z, hd, vs, rel, dd⟩ := dk_rd I.hok e
  refine call_len_dict hd dd (by rw [← rel.length]; rw [sizeLine_eq] at z; omega) ?_
  rw [← rel.length]
  exact h _ _ (I.tok _)
end
section
variable {X : Cx} {o i e value : Expr} {pos pos' tpos : Pos} {td ty tv : TE}
end
section
variable {X : Cx} {pos : Pos}
end
section
variable {X : Cx} {pins : List (Addr × Obj)} {σ : St} {H : Hp} {s : Shared} {a : Addr} {y d : V} {u r : Value} {o : Option V} {A : Around} {E : Value → Shared → Prop}
end
section
variable {X : Cx} {o e f : Expr} {apos cpos : Pos} {td ty tx : TE}
end
section
variable {X : Cx} {pins : List (Addr × Obj)} {σ : St} {H : Hp} {s : Shared} {a : Addr} {kvs : List (Key × V)} {A : Around} {E : Value → Shared → Prop}
end
section
variable {X : Cx} {pins : List (Addr × Obj)} {σ : St} {H : Hp} {s : Shared} {a : Addr} {y : V} {u : Value} {A : Around} {E : Value → Shared → Prop}
end
end L2
namespace L2
open PySem PySem.Spec PyProof.Rows
section
variable {X : Cx}
end
section
variable {P : Program} {w : World} {K : PySem.W.Frag} {mg : Str → Option Value} {base : Heap} {x : Str} {st : Stmt} {N ps : List Str} {k : Nat} {sp : Sp} {dvs : List V}
end
section
variable {X : Cx} {k : Nat} {x : Str} {ps : List Str} {sp : Sp} {p pos : Pos} {e : Expr} {es : List Expr} {t : TA} {dvs : List V}
end
end L2
namespace L2
open PySem PySem.Spec PyProof.Rows
end L2
namespace L2
open PySem PySem.Spec PyProof.Rows
end L2
namespace L2
open PySem PySem.Spec PyProof.Rows
section
variable {X : Cx} {p : Pos}
end
end L2
namespace L2
open PySem PySem.Spec PyProof.Rows
section
variable {X : Cx} {pins : List (Addr × Obj)} {σ : L2.St} {H : Hp} {s : Shared} {a : Addr} {kvs : List (Key × V)} {k : Key} {d : V} {u r : Value} {A : Around} {E : Value → Shared → Prop}
end
section
variable {X : Cx} {o e f : Expr} {apos cpos : Pos} {td ty tx : TE}
theorem call_lenD : CallR X (.builtin "len") (fun xs H Q => ∃ p kvs, xs = [.ref p] ∧ Rd H p (.dK kvs) ∧ Q (.int kvs.length) H) := by
  intro pins s σ H xs us Q I r h
  obtain ⟨p, kvs, rfl, hd, q⟩ := h
  obtain ⟨u, rfl, ru⟩ := vals1 r
  cases (show u = Value.ref p from ru)
  exact d_len I hd fun t s' I' => ⟨.int kvs.length, H, I', ⟨t, rfl⟩, q⟩
end
def clsOf (K : PySem.W.Frag) (x : Str) : Addr := match PySem.W.nsIn K mainGlobals x with
  | some (some (.ref C)) => C
  | _ => 0
theorem clsOf_is {K : PySem.W.Frag} {x : Str} {C : Addr} (h : PySem.W.nsIn K mainGlobals x = some (some (.ref C))) : clsOf K x = C := by unfold clsOf; rw [h]
section
variable {P : Program} {w : World} {K : PySem.W.Frag} {mg : Str → Option Value} {base : Heap} {x m qual : Str} {C : Addr} {st : Stmt} {N ps : List Str} {k : Nat} {sp : Sp}
end
section
variable {X : Cx} {k : Nat} {x m : Str} {C : Addr} {ps : List Str} {sp : Sp} {p pos apos : Pos} {o e : Expr} {es : List Expr} {ta : TE} {t : TA}
end
end L2
namespace L2
open PySem PySem.Spec PyProof.Rows
theorem draws_row {prog : Program} {w : World} {A : Around} (k : Bool) (hh : A.handled = none) (it a : Addr) (hne : a ≠ it) (its : Array Value) :
    Draws prog w A it [it, a] its.size (fun i v => its[i]? = some v) (fun i h => WalkIs k h it a i ∧ RowIs k h a its) where
  live := fun _ _ st => let ⟨o, ho, _⟩ := st.1; ⟨o, ho⟩
  frame := fun _ _ _ st hk => ⟨st.1.mv fun o e => hk it (by simp) o e, st.2.mv fun o e => hk a (by simp) o e⟩
  item := fun i s Q E hi st hQ => by
    refine rowNext_item st.1 st.2 (x := its[i]) (by simp [hi]) fun h' hit' hs' => ?_
    exact hQ _ h' s.toks (by simp [hi]) ⟨hit', st.2.mv fun o e => hs'.extBut _ o hne e⟩ hs'
  done := fun s Q E st hE => rowNext_end hh st.1 st.2 (by simp) hE
def Ite (k : Bool) (K : PySem.W.Frag) (a : Addr) : It :=
  ⟨fun i H => ∃ xs x, Sq k K H a xs ∧ xs[i]? = some x,
   fun i H p H' => ∃ T x, H T = none ∧ p = .ref T ∧ (∀ xs, Sq k K H a xs → xs[i]? = some x) ∧ H' = upd H T (.tup [.int (i : Int), x]),
   fun i H => ∃ xs, Sq k K H a xs ∧ xs.length ≤ i⟩
theorem turn_enum {P : Program} {w : World} {K : PySem.W.Frag} {es : List Expr} {ct : Nat} {tp : Pos} {k : Bool} {a e it : Addr} (hei : e ≠ it) :
    Turn P w K (.Tuple es ct tp) (Ite k K a) [e, it] e (fun n h => (∃ old, IsEnum h e it ((n : Nat) : Int) old) ∧ WalkIs k h it a n) where
  mem := by simp
  obj := fun n h st b hb => by
    obtain ⟨⟨old, he⟩, o1, g1, c1, d1⟩ := st
    simp only [List.mem_cons, List.not_mem_nil, or_false] at hb
    rcases hb with rfl | rfl
    · exact ⟨_, he, fun v q => by cases q⟩
    · exact ⟨_, g1, fun v q => by rw [d1] at q; cases q⟩
  keep := fun n h h' st kk => by
    obtain ⟨⟨old, he⟩, w1⟩ := st
    exact ⟨⟨old, kk e (by simp) _ he⟩, w1.mv fun o q => kk it (by simp) o q⟩
  item := by
    intro X hP hw hK hc n pins s σ H E I hf st hg
    subst hP hw hK
    obtain ⟨xs, x, q1, hx⟩ := hg
    obtain ⟨⟨old, he⟩, w1⟩ := st
    obtain ⟨its, rv, p, _⟩ := I.row q1
    obtain ⟨ux, hux, rx⟩ := rv.get hx
    have ne := I.row_ne q1 (hf e (by simp))
    have ni := I.row_ne q1 (hf it (by simp))
    have hlt : n < its.toArray.size := by
      have := (List.getElem?_eq_some_iff.mp hux).1
      simpa using this
    have hhd : X.A.in1.handled = none := by exact I.ok.hd hc
    refine wpAny_pyNext_enum_itemD (draws_row k hhd it a ni its.toArray) he ⟨w1, p⟩ hlt hei (by simp [hei, Ne.symm ne]) fun y h' tk hP ho hst ht hsz hk => ?_
    have hy : y = ux := by
      have h1 : its[n]? = some y := by simpa using hP
      rw [hux] at h1; exact (Option.some.inj h1).symm
    subst hy
    refine ⟨_, rfl, wpAny_letOwnedTupleGo_enum ho fun g ge gs => ?_⟩
    have lt : ∀ {b o}, s.heap.get? b = some o → s.heap.objs.size ≠ b := fun q => Nat.ne_of_gt (Heap.lt_size q)
    have kp : ∀ b o, b ∉ [e, it] → s.heap.get? b = some o → g.get? b = some o := fun b o hb q => by
      simp only [List.mem_cons, List.not_mem_nil, or_false, not_or] at hb
      exact gs.extBut _ _ hb.1 (hk b o hb.1 hb.2 q)
    have I2 : Inv X pins σ (upd H s.heap.objs.size (.tup [.int (n : Int), x])) { s with heap := g, toks := tk + 1 } := I.yielded (ch := [e, it]) (fun b hb => hf b hb) (Nat.le_refl _) kp
      ⟨by show 2 ≤ sizeLine; decide, [.int (n : Int) tk, y], .cons ⟨tk, rfl⟩ (.cons rx .nil), _, gs.extBut _ _ (lt he) ht, rfl, _, rfl⟩
    refine ⟨.ref s.heap.objs.size, _, I2, rfl, ⟨_, x, I.hok.fresh (Nat.le_refl _), rfl, fun xs' q => by rw [I.row_inj q q1]; exact hx, rfl⟩, ⟨⟨y, by simpa using ge⟩, hst.1.mv fun o q => gs.extBut _ o (Ne.symm hei) q⟩, fun b hb => ?_⟩
    rw [upd_ne ?_]
    · exact (hf b hb).1
    · intro q
      subst q
      simp only [List.mem_cons, List.not_mem_nil, or_false] at hb
      obtain ⟨o1, g1, _⟩ := w1
      rcases hb with q | q
      · exact lt he q
      · exact lt g1 q
  done := by
    intro X hP hw hK hc n pins s σ H E I hf st hg
    subst hP hw hK
    obtain ⟨xs, q1, hend⟩ := hg
    obtain ⟨⟨old, he⟩, w1⟩ := st
    obtain ⟨its, rv, p, _⟩ := I.row q1
    have e1 := rv.length
    have ni := I.row_ne q1 (hf it (by simp))
    have hhd : X.A.in1.handled = none := by exact I.ok.hd hc
    obtain ⟨f0, f1, f2, f3, f4, f5⟩ := hf it (by simp)
    -- the walk's end is wherever the row has no item
    have hT : s.TypeIs (.ref e) "enumerate" := ⟨_, he, rfl⟩
    unfold pyNext
    refine wpAny_bind (wpAny_attempt (wpAny_callSpecial?_slot (name := Str.ofString "__next__") hT F.slot_enumerate_next
      (wpAny_call_entry F.slot_enumerate_next hT F.entry_enumerate_next ?_ (F.args_enumerate_next_1 _))))
    show wpAny _ _ (field (.ref e) 2 >>= _) _ _ _
    refine wpAny_bind (wpAny_field he rfl (x := .ref it) rfl ?_)
    refine wpAny_bind (rowNext_end hhd w1 p (by simp; omega) fun h' x he' hx' => ?_)
    obtain ⟨o, ho, hcl⟩ := hx'
    refine wpAny_bind (wpAny_isInstance (T := "StopIteration") (b := true) ⟨o, ho, hcl⟩ isSubtype_stop ?_)
    exact wpAny_pure ⟨rfl, I.turned (t' := s.toks) (fun b o hb q => he' b o hb q) f0 f1 f3 f4 f5⟩
  self := fun _ _ _ _ _ st h => let ⟨⟨_, he⟩, _⟩ := st; wpAny_pyIter_enum he h
section
variable {P : Program} {w : World} {A : Around} {E : Value → Shared → Prop} {s : Shared} {k : Bool}
theorem enumMade (k : Bool) (a : Addr) (xs : Array Value) : Meets (Builtin.«enumerate.__new__» ⟨[.type "enumerate", .ref a], []⟩) (fun _ R s => RowIs k s.heap a xs ∧
      R (.ok (.ret (.ref (s.heap.push (rowIt k a)).objs.size))) { s with heap := (s.heap.push (rowIt k a)).push { cls := .type "enumerate", data := .fields #[.none, .bool false, .ref s.heap.objs.size, rawInt 0, .none, .none] } }) :=
  .of_wp fun prog w A R s h => by
    obtain ⟨hp, g, d, tk, os⟩ := s
    obtain ⟨r1, h⟩ := h
    have hsub := sub_enumerate
    have R1 : RowIs k (Shared.heap ⟨hp, g, d, tk, os⟩) a xs := r1
    obtain ⟨⟨cls, dd, data, sl⟩, ho, hc, n, hd⟩ := id r1
    simp only at hc hd
    subst hc hd
    wp_walk using AutoSeq1.wpAny_loadPart' ho
    refine wpAny_stack_any fun st => wpAny_pure ?_
    split
    · rename_i c _ _ _ _ _
      cases (c == Value.type "enumerate")
      · wp_walk using AutoSeq1.wpAny_loadPart' ho, pyIter_row R1
        exact ⟨_, rfl, h⟩
      · wp_walk using AutoSeq1.wpAny_loadPart' ho, pyIter_row R1
        exact ⟨_, rfl, h⟩
    · wp_walk using AutoSeq1.wpAny_loadPart' ho, pyIter_row R1
      exact ⟨_, rfl, h⟩
theorem enumCall {a : Addr} {xs : Array Value} {Q : Value → Shared → Prop} (r1 : RowIs k s.heap a xs)
    (h : ∀ h', IsEnum h' (s.heap.objs.size + 1) s.heap.objs.size 0 .none → WalkIs k h' s.heap.objs.size a 0 → (∀ b o, s.heap.get? b = some o → h'.get? b = some o) → Q (.ref (s.heap.objs.size + 1)) { s with heap := h' }) :
    wpAny (model P w) A (call (.type "enumerate") [.ref a]) Q E s := by
  refine callType_new F.called_enumerate (by decide) (F.typeCall_enumerate_1 _) (F.newCall_enumerate_1 _) (fun obj => F.args_object_init_2 obj _) F.entry_enumerate_new (enumMade k a xs) ⟨r1, ?_⟩
  have z1 : (s.heap.push (rowIt k a)).objs.size = s.heap.objs.size + 1 := Heap.size_push ..
  have g2 : ((s.heap.push (rowIt k a)).push { cls := .type "enumerate", data := .fields #[.none, .bool false, .ref s.heap.objs.size, rawInt 0, .none, .none] }).get? (s.heap.push (rowIt k a)).objs.size = some _ := Heap.get?_push_size _ rfl
  have g1 := Heap.get?_push_of_some { cls := .type "enumerate", data := .fields #[.none, .bool false, .ref s.heap.objs.size, rawInt 0, .none, .none] } (Heap.get?_push_size s.heap (o := rowIt k a) rfl)
  show _ ∧ _
  rw [z1] at g2 ⊢
  exact ⟨⟨_, g2, rfl⟩, h _ g2 ⟨_, g1, rfl, rfl⟩ fun b o q => Heap.get?_push_of_some _ (Heap.get?_push_of_some _ q)⟩
end
section
variable {X : Cx} {es : List Expr} {ct : Nat} {tp : Pos}
def iEnum (K : PySem.W.Frag) (ta : TA) : TI := fun σ H R => ta σ H fun vs H1 => ∃ k a, vs = [.ref a] ∧ (∃ xs, Sq k K H1 a xs) ∧ R (Ite k K a) H1
theorem pi_enum {a : Expr} {ta : TA} {p pos : Pos} (hg : Gl X "enumerate") (hm : X.mg "enumerate" = none) (ha : PA X [a] ta) (hs : starEach [a] X.env = [(false, eval a X.env)] := by rfl) :
    PI X (.Tuple es ct tp) (.Call (.Name "enumerate" p) [a] [] pos) (iEnum X.K ta) := by
  intro pins s σ H R I h
  refine Call_ (ld_blt I hg hm boot_enumerate (PyProof.Rows.callWith_type1 (thn (ha pos pins s σ H _ I h) fun us s1 ⟨vs, H1, I1, r1, q1⟩ => ?_) hs rfl))
  obtain ⟨k, a, e, ⟨xs, q1⟩, q⟩ := q1
  subst e
  cases r1 with
  | cons r rr =>
    cases rr
    cases r
    obtain ⟨its, rv, p, _⟩ := I1.row q1
    refine enumCall p fun h' g1 g2 kk => wpAny_pyIter_enum g1 ?_
    have I2 : Inv X pins σ H1 { s1 with heap := h', toks := s1.toks } := I1.kept kk
    refine ⟨s1.heap.objs.size + 1, [s1.heap.objs.size + 1, s1.heap.objs.size], _, _, H1, rfl, I2, turn_enum (k := k) (a := a) (it := s1.heap.objs.size) (Nat.ne_of_gt (Nat.lt_succ_self _)), ⟨⟨_, g1⟩, g2⟩, fun b hb => ?_, q⟩
    have hle : s1.heap.objs.size ≤ b := by
      simp only [List.mem_cons, List.not_mem_nil, or_false] at hb
      rcases hb with e | e
      · rw [e]; exact Nat.le_add_right _ _
      · rw [e]; exact Nat.le_refl _
    exact I1.fpOk hle (I1.hok.fresh hle)
end
end L2
namespace L2
open PySem PySem.Spec PyProof.Rows
section
variable {X : Cx}
end
end L2
namespace L2
open PySem PySem.Spec PyProof.Rows
section
variable {X : Cx} {es : List Expr} {ct : Nat} {tp : Pos}
end
end L2
namespace L2
open PySem PySem.Spec PyProof.Rows
section
variable {X : Cx} {e : Expr} {ta : TE} {f : Str} {pos : Pos}
def rLenL (K : PySem.W.Frag) : List V → Hp → VK → Prop := fun xs H Q => ∃ p ys, xs = [.ref p] ∧ SqL K H p ys ∧ Q (.int ys.length) H
def rLenT (K : PySem.W.Frag) : List V → Hp → VK → Prop := fun xs H Q => ∃ p ys, xs = [.ref p] ∧ SqT K H p ys ∧ Q (.int ys.length) H
end
end L2
namespace L2
open PySem PySem.Spec PyProof.Rows
section
variable {X : Cx} {o e : Expr} {es : List Expr} {to : TE} {t : TA} {name : Str} {apos cpos : Pos} {T id : String} {r : V → List V → Hp → VK → Prop}
end
end L2
namespace L2
open PySem PySem.Spec PyProof.Rows
def PIte (c : Bool) (A B : Prop) : Prop := match c with | true => A | false => B
theorem pite {c : Bool} {A B : Prop} (h1 : c = true → A) (h2 : c = false → B) : PIte c A B := by
 cases c with
 | true => exact h1 rfl
 | false => exact h2 rfl
theorem piteD {p : Prop} [Decidable p] {A B : Prop} (h1 : p → A) (h2 : ¬ p → B) : PIte (decide p) A B := pite (fun h => h1 (of_decide_eq_true h)) (fun h => h2 (of_decide_eq_false h))
theorem pitT {c : Bool} {A B : Prop} (h : c = true) (hA : A) : PIte c A B := by subst h; exact hA
theorem pitNF {c : Bool} {A B : Prop} (h : c = true) (hB : B) : PIte (!c) A B := by subst h; exact hB
inductive D where
 | non | bl (b : Bool) | int (i : Int) | str (l : List Nat) | ty (n : String)
 | lst (ds : List D) | tup (ds : List D) | scr (ns : List Int) | dic (ks : List Key) (ds : List D) | obj (c : Str) (ns : List Str) (ds : List D) | exc (c : Str) (ns : List Str) (ds : List D)
def XAt (x C : Addr) (dd : Option Addr) (h : Heap) : Prop := ∃ o vs, h.get? x = some o ∧ o.cls = .ref C ∧ o.dict = dd ∧ o.data = .fields vs
def plus (A : Addr → Prop) (a : Addr) : Addr → Prop := fun b => A b ∨ b = a
def SqLo (K : PySem.W.Frag) (O : Addr → Prop) (H : Hp) (a : Addr) (xs : List V) : Prop :=
 (¬ O a ∧ Rd H a (.lst xs)) ∨ ∃ (o : Obj) (its : Array Value) (n : Nat), K.lookup a = some o ∧ o.cls = .type "list" ∧ o.dict = none ∧ o.data = .seq its n ∧ its.size ≤ sizeLine ∧ Vals xs its.toList
theorem SqLo.sq {K : PySem.W.Frag} {O : Addr → Prop} {H : Hp} {a : Addr} {xs : List V} (h : SqLo K O H a xs) : SqL K H a xs := h.elim (fun z => .inl z.2) .inr
def Keeps (O : Addr → Prop) (H : Hp) (O' : Addr → Prop) (H' : Hp) : Prop := ∀ b o, ¬ O b → H b = some o → ¬ O' b ∧ H' b = some o
theorem Rd.keeps {O O' : Addr → Prop} {H H' : Hp} {a : Addr} {u : HO} (k : Keeps O H O' H') (n : ¬ O a) (r : Rd H a u) : ¬ O' a ∧ Rd H' a u := by
 rcases r with e | ⟨o, e⟩
 ·exact ⟨(k _ _ n e).1, .inl (k _ _ n e).2⟩
 ·exact ⟨(k _ _ n e).1, .inr ⟨o, (k _ _ n e).2⟩⟩
theorem SqLo.keeps {K : PySem.W.Frag} {O O' : Addr → Prop} {H H' : Hp} {a : Addr} {xs : List V} (k : Keeps O H O' H') (h : SqLo K O H a xs) : SqLo K O' H' a xs := by
 rcases h with ⟨n, r⟩ | r
 ·exact .inl (r.keeps k n)
 ·exact .inr r
mutual
inductive FV (K : PySem.W.Frag) (O : Addr → Prop) (H : Hp) : V → D → Prop
 | non : FV K O H .non .non
 | bl (b : Bool) : FV K O H (.bl b) (.bl b)
 | int (i : Int) : FV K O H (.int i) (.int i)
 | str (l : List Nat) : l.length ≤ 1000000 → FV K O H (.str (S l)) (.str l)
 | ty (n : String) : FV K O H (.ty n) (.ty n)
 | scr {a : Addr} {ns : List Int} : SqLo K O H a (ns.map V.int) → FV K O H (.ref a) (.scr ns)
 | lst {a : Addr} {xs : List V} {ds : List D} : ¬ O a → H a = some (.lst xs) → FVs K O H xs ds → FV K O H (.ref a) (.lst ds)
 | tup {a : Addr} {xs : List V} {ds : List D} : ¬ O a → H a = some (.tup xs) → FVs K O H xs ds → FV K O H (.ref a) (.tup ds)
 | dic {a : Addr} {kvs : List (Key × V)} {ks : List Key} {ds : List D} : ¬ O a → H a = some (.dK kvs) → kvs.map Prod.fst = ks → FVs K O H (kvs.map Prod.snd) ds → FV K O H (.ref a) (.dic ks ds)
 | obj {a dx : Addr} {c : Str} {fs : List (Str × V)} {ns : List Str} {ds : List D} : ¬ O a → H a = some (.ins (clsOf K c) dx fs) → fs.map Prod.fst = ns → FVs K O H (fs.map Prod.snd) ds → FV K O H (.ref a) (.obj c ns ds)
 | exc0 {a : Addr} {c : Str} : ¬ O a → H a = some (.ext (XAt a (clsOf K c) none)) → FV K O H (.ref a) (.exc c [] [])
 | exc1 {a dx : Addr} {c : Str} {fs : List (Str × V)} {ns : List Str} {ds : List D} : ¬ O a → ¬ O dx → H a = some (.ext (XAt a (clsOf K c) (some dx))) → H dx = some (.xd fs) → fs.map Prod.fst = ns → FVs K O H (fs.map Prod.snd) ds → FV K O H (.ref a) (.exc c ns ds)
inductive FVs (K : PySem.W.Frag) (O : Addr → Prop) (H : Hp) : List V → List D → Prop
 | nil : FVs K O H [] []
 | cons {x : V} {d : D} {xs : List V} {ds : List D} : FV K O H x d → FVs K O H xs ds → FVs K O H (x :: xs) (d :: ds)
end
section
variable {K : PySem.W.Frag} {O O' : Addr → Prop} {H H' : Hp}
mutual
theorem FV.keeps (k : Keeps O H O' H') : ∀ {v : V} {d : D}, FV K O H v d → FV K O' H' v d
 | _, _, .non => .non
 | _, _, .bl b => .bl b
 | _, _, .int i => .int i
 | _, _, .str l h => .str l h
 | _, _, .ty n => .ty n
 | _, _, .scr s => .scr (s.keeps k)
 | _, _, .lst n e f => .lst (k _ _ n e).1 (k _ _ n e).2 (FVs.keeps k f)
 | _, _, .tup n e f => .tup (k _ _ n e).1 (k _ _ n e).2 (FVs.keeps k f)
 | _, _, .dic n e m f => .dic (k _ _ n e).1 (k _ _ n e).2 m (FVs.keeps k f)
 | _, _, .obj n e m f => .obj (k _ _ n e).1 (k _ _ n e).2 m (FVs.keeps k f)
 | _, _, .exc0 n e => .exc0 (k _ _ n e).1 (k _ _ n e).2
 | _, _, .exc1 n n2 e e2 m f => .exc1 (k _ _ n e).1 (k _ _ n2 e2).1 (k _ _ n e).2 (k _ _ n2 e2).2 m (FVs.keeps k f)
theorem FVs.keeps (k : Keeps O H O' H') : ∀ {vs : List V} {ds : List D}, FVs K O H vs ds → FVs K O' H' vs ds
 | _, _, .nil => .nil
 | _, _, .cons a b => .cons (FV.keeps k a) (FVs.keeps k b)
end
theorem FVs.length : ∀ {vs : List V} {ds : List D}, FVs K O H vs ds → vs.length = ds.length
 | _, _, .nil => rfl
 | _, _, .cons _ b => by rw [List.length_cons, List.length_cons, b.length]
theorem FVs.get : ∀ {vs : List V} {ds : List D} {i : Nat} {v : V}, FVs K O H vs ds → vs[i]? = some v → ∃ d, ds[i]? = some d ∧ FV K O H v d
 | _, _, 0, _, .cons a _, e => by simp at e; subst e; exact ⟨_, rfl, a⟩
 | _, _, i + 1, v, .cons _ b, e => by
  obtain ⟨d, h1, h2⟩ := b.get (i := i) (v := v) (by simpa using e)
  exact ⟨d, by simpa using h1, h2⟩
theorem FVs.getD : ∀ {vs : List V} {ds : List D} {i : Nat} {d : D}, FVs K O H vs ds → ds[i]? = some d → ∃ v, vs[i]? = some v ∧ FV K O H v d
 | _, _, 0, _, .cons a _, e => by simp at e; subst e; exact ⟨_, rfl, a⟩
 | _, _, i + 1, v, .cons _ b, e => by
  obtain ⟨d, h1, h2⟩ := b.getD (i := i) (d := v) (by simpa using e)
  exact ⟨d, by simpa using h1, h2⟩
theorem FVs.append : ∀ {vs ws : List V} {ds es : List D}, FVs K O H vs ds → FVs K O H ws es → FVs K O H (vs ++ ws) (ds ++ es)
 | _, _, _, _, .nil, s => s
 | _, _, _, _, .cons a b, s => .cons a (b.append s)
theorem FVs.of_ints : ∀ ns : List Int, FVs K O H (ns.map V.int) (ns.map D.int)
 | [] => .nil
 | n :: r => .cons (.int n) (FVs.of_ints r)
end
inductive PV where
 | dat (d : D) | own (ds : List D) | ins (c : Str) (ns : List Str) (ds : List D)
def PV.isOwn : PV → Bool
 | .dat _ => false
 | _ => true
def PV.d : PV → D
 | .dat d => d
 | .own ds => .lst ds
 | .ins c ns ds => .obj c ns ds
abbrev PSt := List (Option PV)
def Wr (ρ : PSt) (σ : St) (b : Addr) : Prop := ∃ (i : Nat) (p : PV), ρ[i]? = some (some p) ∧ p.isOwn = true ∧ σ[i]? = some (some (.ref b))
def OO (A : Addr → Prop) (ρ : PSt) (σ : St) (b : Addr) : Prop := A b ∨ Wr ρ σ b
def RS (K : PySem.W.Frag) (O : Addr → Prop) (H : Hp) : PV → V → Prop
 | .dat d, v => FV K O H v d
 | .own ds, v => ∃ a xs, v = .ref a ∧ H a = some (.lst xs) ∧ FVs K O H xs ds
 | .ins c ns ds, v => ∃ a dx fs, v = .ref a ∧ H a = some (.ins (clsOf K c) dx fs) ∧ fs.map Prod.fst = ns ∧ FVs K O H (fs.map Prod.snd) ds
structure Rel (K : PySem.W.Frag) (A : Addr → Prop) (ρ : PSt) (σ : St) (H : Hp) : Prop where
 len : ρ.length = σ.length
 get : ∀ (i : Nat) (p : PV), ρ[i]? = some (some p) → ∃ v, σ[i]? = some (some v) ∧ RS K (OO A ρ σ) H p v
 dj : ∀ (i j : Nat) (p q : PV) (v : V), ρ[i]? = some (some p) → ρ[j]? = some (some q) → p.isOwn = true → q.isOwn = true → σ[i]? = some (some v) → σ[j]? = some (some v) → i = j
 dom : ∀ b, A b → H b ≠ none
 sep : ∀ b, A b → ¬ Wr ρ σ b
structure Fr (ρ : PSt) (σ : St) (H : Hp) (ρ' : PSt) (H' : Hp) : Prop where
 kp : ∀ b o, ¬ Wr ρ σ b → H b = some o → H' b = some o
 dm : ∀ b, H b ≠ none → H' b ≠ none
 ow : ∀ b, Wr ρ' σ b → Wr ρ σ b
theorem Fr.refl (ρ : PSt) (σ : St) (H : Hp) : Fr ρ σ H ρ H := ⟨fun _ _ _ h => h, fun _ h => h, fun _ h => h⟩
theorem Fr.trans {ρ ρ1 ρ2 : PSt} {σ : St} {H H1 H2 : Hp} (a : Fr ρ σ H ρ1 H1) (b : Fr ρ1 σ H1 ρ2 H2) : Fr ρ σ H ρ2 H2 :=
 ⟨fun c o n h => b.kp c o (fun z => n (a.ow c z)) (a.kp c o n h), fun c h => b.dm c (a.dm c h), fun c h => a.ow c (b.ow c h)⟩
theorem Fr.keeps {ρ ρ' : PSt} {σ : St} {H H' : Hp} {A : Addr → Prop} (f : Fr ρ σ H ρ' H') : Keeps (OO A ρ σ) H (OO A ρ' σ) H' := fun b o n h =>
 ⟨fun z => z.elim (fun z => n (.inl z)) (fun z => n (.inr (f.ow b z))), f.kp b o (fun z => n (.inr z)) h⟩
theorem Fr.new {ρ : PSt} {σ : St} {H : Hp} {p : Addr} {o : HO} (h : H p = none) : Fr ρ σ H ρ (upd H p o) :=
 ⟨fun b u _ e => by rw [upd_ne (ne_of_none e h)]; exact e, fun b e => by
  by_cases z : b = p
  ·rw [z, upd_same]; exact nofun
  ·rw [upd_ne z]; exact e, fun _ h => h⟩
theorem Keeps.fresh {O : Addr → Prop} {H : Hp} {p : Addr} {o : HO} (h : H p = none) : Keeps O H (plus O p) (upd H p o) := fun b u n e =>
 ⟨fun z => z.elim n (fun z => by rw [z, h] at e; cases e), by rw [upd_ne (ne_of_none e h)]; exact e⟩
theorem Keeps.less {O O' : Addr → Prop} {H : Hp} (h : ∀ b, O' b → O b) : Keeps O H O' H := fun b o n e => ⟨fun z => n (h b z), e⟩
theorem RS.keeps {K : PySem.W.Frag} {O O' : Addr → Prop} {H H' : Hp} {p : PV} {v : V} (k : Keeps O H O' H') (w : p.isOwn = true → ∀ a, v = .ref a → H' a = H a) (h : RS K O H p v) : RS K O' H' p v := by
 cases p with
 | dat d => exact FV.keeps k h
 | own ds =>
  obtain ⟨a, xs, e, g, f⟩ := h
  exact ⟨a, xs, e, by rw [w rfl a e]; exact g, f.keeps k⟩
 | ins c ns ds =>
  obtain ⟨a, dx, fs, e, g, m, f⟩ := h
  exact ⟨a, dx, fs, e, by rw [w rfl a e]; exact g, m, f.keeps k⟩
theorem RS.ref {K : PySem.W.Frag} {O : Addr → Prop} {H : Hp} {p : PV} {v : V} (h : RS K O H p v) (o : p.isOwn = true) : ∃ a u, v = .ref a ∧ H a = some u := by
 cases p with
 | dat d => cases o
 | own ds => obtain ⟨a, xs, e, g, f⟩ := h; exact ⟨a, _, e, g⟩
 | ins c ns ds => obtain ⟨a, dx, fs, e, g, m, f⟩ := h; exact ⟨a, _, e, g⟩
theorem Rel.wr {K : PySem.W.Frag} {A : Addr → Prop} {ρ : PSt} {σ : St} {H : Hp} (R : Rel K A ρ σ H) {b : Addr} (h : Wr ρ σ b) : H b ≠ none := by
 obtain ⟨i, p, e, o, s⟩ := h
 obtain ⟨v, s', r⟩ := R.get i p e
 rw [s] at s'; cases s'
 obtain ⟨a, u, e1, e2⟩ := r.ref o
 cases e1
 rw [e2]; exact nofun
theorem Rel.less {K : PySem.W.Frag} {A A' : Addr → Prop} {ρ : PSt} {σ : St} {H : Hp} (R : Rel K A ρ σ H) (h : ∀ b, A' b → A b) : Rel K A' ρ σ H := by
 refine ⟨R.len, fun i q e => ?_, R.dj, fun b z => R.dom b (h b z), fun b z => R.sep b (h b z)⟩
 obtain ⟨v, s, r⟩ := R.get i q e
 exact ⟨v, s, r.keeps (Keeps.less fun b z => z.imp (h b) id) fun _ _ _ => rfl⟩
theorem Rel.frz {K : PySem.W.Frag} {A : Addr → Prop} {ρ : PSt} {σ : St} {H : Hp} (R : Rel K A ρ σ H) {i : Nat} {p : PV} (e : ρ[i]? = some (some p)) :
  Rel K A (ρ.set i (some (.dat p.d))) σ H ∧ Fr ρ σ H (ρ.set i (some (.dat p.d))) H := by
 have hi : i < ρ.length := (List.getElem?_eq_some_iff.mp e).1
 have ex : ∀ (m : Nat) (x : PV), (ρ.set i (some (.dat p.d)))[m]? = some (some x) → x.isOwn = true → m ≠ i ∧ ρ[m]? = some (some x) := fun m x em ox => by
  by_cases z : i = m
  ·subst z; rw [List.getElem?_set_self hi] at em; cases em; cases ox
  ·rw [List.getElem?_set_ne z] at em; exact ⟨fun q => z q.symm, em⟩
 have ow : ∀ b, Wr (ρ.set i (some (.dat p.d))) σ b → Wr ρ σ b := fun b ⟨j, r, e1, o1, s1⟩ => ⟨j, r, (ex j r e1 o1).2, o1, s1⟩
 have k : Keeps (OO A ρ σ) H (OO A (ρ.set i (some (.dat p.d))) σ) H := Keeps.less fun b z => z.imp id (ow b)
 refine ⟨⟨by rw [List.length_set]; exact R.len, fun j r e1 => ?_, fun j l p1 q1 v e1 e2 o1 o2 s1 s2 => R.dj j l p1 q1 v (ex j p1 e1 o1).2 (ex l q1 e2 o2).2 o1 o2 s1 s2, R.dom, fun b z w => R.sep b z (ow b w)⟩, ⟨fun _ _ _ h => h, fun _ h => h, ow⟩⟩
 by_cases z : i = j
 ·subst z
  rw [List.getElem?_set_self hi] at e1
  cases e1
  obtain ⟨v, s, r⟩ := R.get i p e
  refine ⟨v, s, ?_⟩
  have na : ∀ a, v = .ref a → p.isOwn = true → ¬ OO A (ρ.set i (some (.dat p.d))) σ a := fun a ea oo z => by
   subst ea
   rcases z with z | ⟨j, r, e1, o1, s1⟩
   ·exact R.sep a z ⟨i, p, e, oo, s⟩
   ·obtain ⟨n1, n2⟩ := ex j r e1 o1
    exact n1 (R.dj j i r p _ n2 e o1 oo s1 s)
  cases p with
  | dat d => exact FV.keeps k r
  | own ds =>
   obtain ⟨a, xs, rfl, g, f⟩ := r
   exact .lst (na a rfl rfl) g (f.keeps k)
  | ins c ns ds =>
   obtain ⟨a, dx, fs, rfl, g, m, f⟩ := r
   exact .obj (na a rfl rfl) g m (f.keeps k)
 ·rw [List.getElem?_set_ne z] at e1
  obtain ⟨v, s, r⟩ := R.get j _ e1
  exact ⟨v, s, r.keeps k fun _ _ _ => rfl⟩
end L2
namespace L2
open PySem PySem.Spec PyProof.Rows
abbrev PKt := PV → PSt → Prop
abbrev PTE := PSt → PKt → Prop
abbrev PTT := PSt → (Bool → PSt → Prop) → Prop
inductive AV where
 | v (d : D) | sl (i : Nat)
abbrev PA1 := PSt → (AV → PSt → Prop) → Prop
abbrev PTA := PSt → (List AV → PSt → Prop) → Prop
def Out (K : PySem.W.Frag) (A : Addr → Prop) (ρ : PSt) (σ : St) (H0 H : Hp) : PV → V → Prop
 | .dat d, v => Rel K A ρ σ H ∧ FV K (OO A ρ σ) H v d
 | .own ds, v => ∃ a xs, v = .ref a ∧ ¬ A a ∧ H0 a = none ∧ H a = some (.lst xs) ∧ Rel K (plus A a) ρ σ H ∧ FVs K (OO (plus A a) ρ σ) H xs ds
 | .ins c ns ds, v => ∃ a dx fs, v = .ref a ∧ ¬ A a ∧ H0 a = none ∧ H a = some (.ins (clsOf K c) dx fs) ∧ fs.map Prod.fst = ns ∧ Rel K (plus A a) ρ σ H ∧ FVs K (OO (plus A a) ρ σ) H (fs.map Prod.snd) ds
def LE (K : PySem.W.Frag) (te : TE) (pe : PTE) : Prop := ∀ (A : Addr → Prop) (ρ : PSt) (σ : St) (H : Hp) (Q : PKt) (Q' : VK), Rel K A ρ σ H → pe ρ Q →
 (∀ v H' p ρ', Q p ρ' → Fr ρ σ H ρ' H' → Out K A ρ' σ H H' p v → Q' v H') → te σ H Q'
def LT (K : PySem.W.Frag) (tt : TT) (pt : PTT) : Prop := ∀ (A : Addr → Prop) (ρ : PSt) (σ : St) (H : Hp) (Q : Bool → PSt → Prop) (Q' : Bool → Hp → Prop), Rel K A ρ σ H → pt ρ Q →
 (∀ b H' ρ', Q b ρ' → Fr ρ σ H ρ' H' → Rel K A ρ' σ H' → Q' b H') → tt σ H Q'
def AOk (K : PySem.W.Frag) (O : Addr → Prop) (σ : St) (H : Hp) : AV → V → Prop
 | .v d, v => FV K O H v d
 | .sl i, v => σ[i]? = some (some v)
def LA1 (K : PySem.W.Frag) (te : TE) (pa : PA1) : Prop := ∀ (A : Addr → Prop) (ρ : PSt) (σ : St) (H : Hp) (Q : AV → PSt → Prop) (Q' : VK), Rel K A ρ σ H → pa ρ Q →
 (∀ v H' av ρ', Q av ρ' → Fr ρ σ H ρ' H' → Rel K A ρ' σ H' → AOk K (OO A ρ' σ) σ H' av v → Q' v H') → te σ H Q'
inductive AOks (K : PySem.W.Frag) (O : Addr → Prop) (σ : St) (H : Hp) : List AV → List V → Prop
 | nil : AOks K O σ H [] []
 | cons {a : AV} {v : V} {as : List AV} {vs : List V} : AOk K O σ H a v → AOks K O σ H as vs → AOks K O σ H (a :: as) (v :: vs)
def LAs (K : PySem.W.Frag) (ta : TA) (pa : PTA) : Prop := ∀ (A : Addr → Prop) (ρ : PSt) (σ : St) (H : Hp) (Q : List AV → PSt → Prop) (Q' : List V → Hp → Prop), Rel K A ρ σ H → pa ρ Q →
 (∀ vs H' as ρ', Q as ρ' → Fr ρ σ H ρ' H' → Rel K A ρ' σ H' → AOks K (OO A ρ' σ) σ H' as vs → Q' vs H') → ta σ H Q'
section
variable {K : PySem.W.Frag} {A O O' : Addr → Prop} {ρ ρ' : PSt} {σ : St} {H H' H0 : Hp}
theorem AOk.keeps {a : AV} {v : V} (k : Keeps O H O' H') (h : AOk K O σ H a v) : AOk K O' σ H' a v := by
 cases a with
 | v d => exact FV.keeps k h
 | sl i => exact h
theorem Out.frz {p : PV} {v : V} (h : Out K A ρ σ H0 H p v) : Rel K A ρ σ H ∧ FV K (OO A ρ σ) H v p.d := by
 cases p with
 | dat d => exact h
 | own ds =>
  obtain ⟨a, xs, rfl, na, _, e, R, f⟩ := h
  refine ⟨R.less fun b z => .inl z, .lst (fun z => ?_) e (f.keeps (Keeps.less fun b z => z.imp .inl id))⟩
  exact z.elim na (fun z => R.sep a (.inr rfl) z)
 | ins c ns ds =>
  obtain ⟨a, dx, fs, rfl, na, _, e, m, R, f⟩ := h
  refine ⟨R.less fun b z => .inl z, .obj (fun z => ?_) e m (f.keeps (Keeps.less fun b z => z.imp .inl id))⟩
  exact z.elim na (fun z => R.sep a (.inr rfl) z)
theorem Out.h0 {p : PV} {v : V} {H1 : Hp} (h : Out K A ρ σ H0 H p v) (dm : ∀ b, H1 b ≠ none → H0 b ≠ none) : Out K A ρ σ H1 H p v := by
 have k : ∀ a, H0 a = none → H1 a = none := fun a e => by
  cases z : H1 a with
  | none => rfl
  | some o => exact absurd e (dm a (by rw [z]; exact nofun))
 cases p with
 | dat d => exact h
 | own ds => obtain ⟨a, xs, e1, na, e2, r⟩ := h; exact ⟨a, xs, e1, na, k a e2, r⟩
 | ins c ns ds => obtain ⟨a, dx, fs, e1, na, e2, r⟩ := h; exact ⟨a, dx, fs, e1, na, k a e2, r⟩
def Gr (H H' : Hp) : Prop := ∀ b o, H b = some o → H' b = some o
theorem Gr.fr (g : Gr H H') : Fr ρ σ H ρ H' := ⟨fun b o _ h => g b o h, fun b h => by
 cases e : H b with
 | none => exact absurd e h
 | some o => rw [g b o e]; exact nofun, fun _ h => h⟩
theorem Gr.new {p : Addr} {o : HO} (h : H p = none) : Gr H (upd H p o) := fun b u e => by rw [upd_ne (ne_of_none e h)]; exact e
theorem Gr.refl (H : Hp) : Gr H H := fun _ _ h => h
theorem Rel.gr (R : Rel K A ρ σ H) (g : Gr H H') : Rel K A ρ σ H' := by
 refine ⟨R.len, fun i q e => ?_, R.dj, fun b z => (g.fr (ρ := ρ) (σ := σ)).dm b (R.dom b z), R.sep⟩
 obtain ⟨v, s, r⟩ := R.get i q e
 refine ⟨v, s, r.keeps (g.fr (ρ := ρ) (σ := σ)).keeps fun ow a ea => ?_⟩
 obtain ⟨a', u, e1, e2⟩ := r.ref ow
 rw [ea] at e1; cases e1
 rw [e2]; exact g _ _ e2
theorem Rel.grA (R : Rel K A ρ σ H) (g : Gr H H') {p : Addr} (h : H p = none) (h' : H' p ≠ none) : Rel K (plus A p) ρ σ H' := by
 have k : Keeps (OO A ρ σ) H (OO (plus A p) ρ σ) H' := fun b u n e => by
  refine ⟨fun z => ?_, g _ _ e⟩
  rcases z with (z | z) | z
  ·exact n (.inl z)
  ·rw [z, h] at e; cases e
  ·exact n (.inr z)
 refine ⟨R.len, fun i q e => ?_, R.dj, fun b z => ?_, fun b z w => ?_⟩
 ·obtain ⟨v, s, r⟩ := R.get i q e
  refine ⟨v, s, r.keeps k fun ow a ea => ?_⟩
  obtain ⟨a', u, e1, e2⟩ := r.ref ow
  rw [ea] at e1; cases e1
  rw [e2]; exact g _ _ e2
 ·rcases z with z | z
  ·exact (g.fr (ρ := ρ) (σ := σ)).dm b (R.dom b z)
  ·rw [z]; exact h'
 ·rcases z with z | z
  ·exact R.sep b z w
  ·exact R.wr w (by rw [z]; exact h)
def OutV (K : PySem.W.Frag) (O : Addr → Prop) (H0 H : Hp) : PV → V → Prop
 | .dat d, v => FV K O H v d
 | .own ds, v => ∃ a xs, v = .ref a ∧ H0 a = none ∧ H a = some (.lst xs) ∧ FVs K (plus O a) H xs ds
 | .ins c ns ds, v => ∃ a dx fs, v = .ref a ∧ H0 a = none ∧ H a = some (.ins (clsOf K c) dx fs) ∧ fs.map Prod.fst = ns ∧ FVs K (plus O a) H (fs.map Prod.snd) ds
theorem OutV.out {p : PV} {v : V} (R : Rel K A ρ σ H) (g : Gr H H') (h : OutV K (OO A ρ σ) H H' p v) : Out K A ρ σ H H' p v := by
 cases p with
 | dat d => exact ⟨R.gr g, h⟩
 | own ds =>
  obtain ⟨a, xs, rfl, e0, e, f⟩ := h
  refine ⟨a, xs, rfl, fun z => R.dom a z e0, e0, e, R.grA g e0 (by rw [e]; exact nofun), f.keeps (Keeps.less fun b z => ?_)⟩
  rcases z with (z | z) | z
  ·exact .inl (.inl z)
  ·exact .inr z
  ·exact .inl (.inr z)
 | ins c ns ds =>
  obtain ⟨a, dx, fs, rfl, e0, e, m, f⟩ := h
  refine ⟨a, dx, fs, rfl, fun z => R.dom a z e0, e0, e, m, R.grA g e0 (by rw [e]; exact nofun), f.keeps (Keeps.less fun b z => ?_)⟩
  rcases z with (z | z) | z
  ·exact .inl (.inl z)
  ·exact .inr z
  ·exact .inl (.inr z)
def FVc (K : PySem.W.Frag) (O : Addr → Prop) (H : Hp) (v : V) (d : D) : Prop := FV K O H v d ∨ (∃ a xs ds, v = .ref a ∧ d = .lst ds ∧ H a = some (.lst xs) ∧ FVs K O H xs ds) ∨
 ∃ a dx c fs ns ds, v = .ref a ∧ d = .obj c ns ds ∧ H a = some (.ins (clsOf K c) dx fs) ∧ fs.map Prod.fst = ns ∧ FVs K O H (fs.map Prod.snd) ds
def cont (ρ : PSt) : AV → Option D
 | .v d => some d
 | .sl i => match ρ[i]? with | some (some p) => some p.d | _ => none
theorem Rel.cont {av : AV} {v : V} {d : D} (R : Rel K A ρ σ H) (h : AOk K (OO A ρ σ) σ H av v) (e : L2.cont ρ av = some d) : FVc K (OO A ρ σ) H v d := by
 cases av with
 | v d' => cases e; exact .inl h
 | sl i =>
  have h : σ[i]? = some (some v) := h
  simp only [L2.cont] at e
  split at e
  ·rename_i p ep
   cases e
   obtain ⟨v', s, r⟩ := R.get i p ep
   rw [h] at s; cases s
   cases p with
   | dat d => exact .inl r
   | own ds => obtain ⟨a, xs, e1, e2, f⟩ := r; exact .inr (.inl ⟨a, xs, ds, e1, rfl, e2, f⟩)
   | ins c ns ds => obtain ⟨a, dx, fs, e1, e2, m, f⟩ := r; exact .inr (.inr ⟨a, dx, c, fs, ns, ds, e1, rfl, e2, m, f⟩)
  ·cases e
theorem FVc.lst {v : V} {ds : List D} (h : FVc K O H v (.lst ds)) : ∃ a xs, v = .ref a ∧ H a = some (.lst xs) ∧ FVs K O H xs ds := by
 rcases h with h | ⟨a, xs, ds', e1, e2, e3, f⟩ | ⟨a, dx, c, fs, ns, ds', e1, e2, _⟩
 ·cases h with
  | lst n s f => exact ⟨_, _, rfl, s, f⟩
 ·cases e2; exact ⟨a, xs, e1, e3, f⟩
 ·cases e2
theorem FVc.fv {v : V} {d : D} (h : FVc K O H v d) (n : ∀ ds, d ≠ .lst ds) (n' : ∀ c ns ds, d ≠ .obj c ns ds) : FV K O H v d := by
 rcases h with h | ⟨a, xs, ds', e1, e2, e3, f⟩ | ⟨a, dx, c, fs, ns, ds', e1, e2, _⟩
 ·exact h
 ·exact absurd e2 (n _)
 ·exact absurd e2 (n' _ _ _)
theorem FVc.tup {v : V} {ds : List D} (h : FVc K O H v (.tup ds)) : ∃ a xs, v = .ref a ∧ ¬ O a ∧ H a = some (.tup xs) ∧ FVs K O H xs ds := by
 cases h.fv nofun nofun with
 | tup n s f => exact ⟨_, _, rfl, n, s, f⟩
theorem FVc.scr {v : V} {ns : List Int} (h : FVc K O H v (.scr ns)) : ∃ a, v = .ref a ∧ SqL K H a (ns.map V.int) := by
 cases h.fv nofun nofun with
 | scr s => exact ⟨_, rfl, s.sq⟩
theorem FVc.int {v : V} {i : Int} (h : FVc K O H v (.int i)) : v = .int i := by cases h.fv nofun nofun; rfl
theorem FVc.str {v : V} {i : List Nat} (h : FVc K O H v (.str i)) : v = .str (S i) ∧ i.length ≤ 1000000 := by
 cases h.fv nofun nofun with
 | str _ z => exact ⟨rfl, z⟩
end
def pC (d : D) : PTE := fun ρ Q => Q (.dat d) ρ
def pVar (i : Nat) : PTE := fun ρ Q => match ρ[i]? with
 | some (some (.dat d)) => Q (.dat d) ρ
 | some (some (.own ds)) => Q (.dat (.lst ds)) (ρ.set i (some (.dat (.lst ds))))
 | some (some (.ins c ns ds)) => Q (.dat (.obj c ns ds)) (ρ.set i (some (.dat (.obj c ns ds))))
 | _ => False
def pSl (i : Nat) : PA1 := fun ρ Q => match ρ[i]? with
 | some (some (.dat d)) => Q (.v d) ρ
 | some (some (.own _)) => Q (.sl i) ρ
 | some (some (.ins _ _ _)) => Q (.sl i) ρ
 | _ => False
def pFz (pe : PTE) : PA1 := fun ρ Q => pe ρ fun p ρ1 => Q (.v p.d) ρ1
def paNil : PTA := fun ρ Q => Q [] ρ
def paCons (pa : PA1) (pr : PTA) : PTA := fun ρ Q => pa ρ fun a ρ1 => pr ρ1 fun as ρ2 => Q (a :: as) ρ2
section
variable {K : PySem.W.Frag} {ta tb tc : TE} {pa pb pc : PA1} {pe pe' : PTE} {tr : TA} {pr : PTA}
theorem le_C {v : V} {d : D} (h : ∀ O H, FV K O H v d) : LE K (tC v) (pC d) := fun A ρ σ H Q Q' R q k => k v H (.dat d) ρ q (Fr.refl _ _ _) ⟨R, h _ _⟩
theorem le_int {i : Int} : LE K (tC (.int i)) (pC (.int i)) := le_C fun _ _ => .int i
theorem le_bl {i : Bool} : LE K (tC (.bl i)) (pC (.bl i)) := le_C fun _ _ => .bl i
theorem le_var {i : Nat} : LE K (tVar i) (pVar i) := by
 intro A ρ σ H Q Q' R q k
 unfold pVar at q
 split at q
 ·rename_i d e
  obtain ⟨v, s, r⟩ := R.get i _ e
  exact ⟨v, s, k v H (.dat d) ρ q (Fr.refl _ _ _) ⟨R, r⟩⟩
 ·rename_i ds e
  obtain ⟨R', f⟩ := R.frz e
  obtain ⟨v, s, r⟩ := R'.get i _ (List.getElem?_set_self (List.getElem?_eq_some_iff.mp e).1)
  exact ⟨v, s, k v H (.dat (.lst ds)) _ q f ⟨R', r⟩⟩
 ·rename_i c ns ds e
  obtain ⟨R', f⟩ := R.frz e
  obtain ⟨v, s, r⟩ := R'.get i _ (List.getElem?_set_self (List.getElem?_eq_some_iff.mp e).1)
  exact ⟨v, s, k v H (.dat (.obj c ns ds)) _ q f ⟨R', r⟩⟩
 ·exact q.elim
theorem la_sl {i : Nat} : LA1 K (tVar i) (pSl i) := by
 intro A ρ σ H Q Q' R q k
 unfold pSl at q
 split at q
 ·rename_i d e
  obtain ⟨v, s, r⟩ := R.get i _ e
  exact ⟨v, s, k v H _ ρ q (Fr.refl _ _ _) R r⟩
 ·rename_i e
  obtain ⟨v, s, r⟩ := R.get i _ e
  exact ⟨v, s, k v H _ ρ q (Fr.refl _ _ _) R s⟩
 ·rename_i e
  obtain ⟨v, s, r⟩ := R.get i _ e
  exact ⟨v, s, k v H _ ρ q (Fr.refl _ _ _) R s⟩
 ·exact q.elim
theorem la_fz (h : LE K ta pe) : LA1 K ta (pFz pe) := fun A ρ σ H Q Q' R q k => h A ρ σ H _ Q' R q fun v H' p ρ' q f o => k v H' _ ρ' q f o.frz.1 o.frz.2
theorem las_nil : LAs K tNil paNil := fun A ρ σ H Q Q' R q k => k [] H [] ρ q (Fr.refl _ _ _) R .nil
theorem las_cons (h : LA1 K ta pa) (hr : LAs K tr pr) : LAs K (tCons ta tr) (paCons pa pr) := fun A ρ σ H Q Q' R q k =>
 h A ρ σ H _ _ R q fun v H1 a ρ1 q1 f1 R1 o1 => hr A ρ1 σ H1 _ _ R1 q1 fun vs H2 as ρ2 q2 f2 R2 o2 => k _ H2 _ ρ2 q2 (f1.trans f2) R2 (.cons (o1.keeps f2.keeps) o2)
def LO (K : PySem.W.Frag) (r : R2) (f : D → D → (PV → Prop) → Prop) : Prop := ∀ (O : Addr → Prop) (H : Hp) (x y : V) (a b : D) (Q : PV → Prop) (Q' : VK), (∀ b, O b → H b ≠ none) → FVc K O H x a → FVc K O H y b → f a b Q →
 (∀ v H' p, Q p → Gr H H' → OutV K O H H' p v → Q' v H') → r x y H Q'
def op2 (f : D → D → (PV → Prop) → Prop) (ρ : PSt) (x y : AV) (Q : PKt) : Prop := match cont ρ x, cont ρ y with
 | some a, some b => f a b fun p => Q p ρ
 | _, _ => False
def pOp (f : D → D → (PV → Prop) → Prop) (pa pb : PA1) : PTE := fun ρ Q => pa ρ fun x ρ1 => pb ρ1 fun y ρ2 => op2 f ρ2 x y Q
theorem Rel.dom2 {A : Addr → Prop} {ρ : PSt} {σ : St} {H : Hp} (R : Rel K A ρ σ H) : ∀ b, OO A ρ σ b → H b ≠ none := fun b z => z.elim (R.dom b) R.wr
theorem le_op {r : R2} {f : D → D → (PV → Prop) → Prop} (o : LO K r f) (ha : LA1 K ta pa) (hb : LA1 K tb pb) : LE K (tOp r ta tb) (pOp f pa pb) := fun A ρ σ H Q Q' R q k =>
 ha A ρ σ H _ _ R q fun v H1 a ρ1 q1 f1 R1 o1 => hb A ρ1 σ H1 _ _ R1 q1 fun w H2 b ρ2 q2 f2 R2 o2 => by
  unfold op2 at q2
  split at q2
  ·rename_i da db e1 e2
   exact o _ H2 v w da db _ _ R2.dom2 (R2.cont (o1.keeps f2.keeps) e1) (R2.cont o2 e2) q2 fun z H3 p q3 g ov => k z H3 p ρ2 q3 ((f1.trans f2).trans g.fr) ((ov.out R2 g).h0 fun b z => f2.dm b (f1.dm b z))
  ·exact q2.elim
inductive FVcs (K : PySem.W.Frag) (O : Addr → Prop) (H : Hp) : List V → List D → Prop
 | nil : FVcs K O H [] []
 | cons {x : V} {d : D} {xs : List V} {ds : List D} : FVc K O H x d → FVcs K O H xs ds → FVcs K O H (x :: xs) (d :: ds)
def conts (ρ : PSt) : List AV → Option (List D)
 | [] => some []
 | a :: r => match cont ρ a, conts ρ r with
  | some d, some ds => some (d :: ds)
  | _, _ => none
theorem Rel.conts {A : Addr → Prop} {ρ : PSt} {σ : St} {H : Hp} (R : Rel K A ρ σ H) : ∀ {as : List AV} {vs : List V} {ds : List D}, AOks K (OO A ρ σ) σ H as vs → L2.conts ρ as = some ds → FVcs K (OO A ρ σ) H vs ds
 | _, _, _, .nil, e => by cases e; exact .nil
 | _, _, _, .cons a b, e => by
  unfold L2.conts at e
  split at e
  ·rename_i e1 e2
   cases e
   exact .cons (R.cont a e1) (R.conts b e2)
  ·cases e
def LC (K : PySem.W.Frag) (r : List V → Hp → VK → Prop) (f : List D → (PV → Prop) → Prop) : Prop := ∀ (O : Addr → Prop) (H : Hp) (xs : List V) (as : List D) (Q : PV → Prop) (Q' : VK), (∀ b, O b → H b ≠ none) → FVcs K O H xs as → f as Q →
 (∀ v H' p, Q p → Gr H H' → OutV K O H H' p v → Q' v H') → r xs H Q'
def opN (f : List D → (PV → Prop) → Prop) (ρ : PSt) (as : List AV) (Q : PKt) : Prop := match conts ρ as with
 | some ds => f ds fun p => Q p ρ
 | _ => False
def pCB (f : List D → (PV → Prop) → Prop) (pr : PTA) : PTE := fun ρ Q => pr ρ fun as ρ1 => opN f ρ1 as Q
theorem le_cb {r : List V → Hp → VK → Prop} {f : List D → (PV → Prop) → Prop} (o : LC K r f) (ha : LAs K tr pr) : LE K (tCB r tr) (pCB f pr) := fun A ρ σ H Q Q' R q k =>
 ha A ρ σ H _ _ R q fun vs H1 as ρ1 q1 f1 R1 o1 => by
  unfold opN at q1
  split at q1
  ·rename_i ds e1
   exact o _ H1 vs ds _ _ R1.dom2 (R1.conts o1 e1) q1 fun z H3 p q3 g ov => k z H3 p ρ1 q3 (f1.trans g.fr) ((ov.out R1 g).h0 fun b z => f1.dm b z)
  ·exact q1.elim
def avD : List AV → Option (List D)
 | [] => some []
 | .v d :: r => match avD r with | some ds => some (d :: ds) | none => none
 | .sl _ :: _ => none
theorem AOks.avD {O : Addr → Prop} {σ : St} {H : Hp} : ∀ {as : List AV} {vs : List V} {ds : List D}, AOks K O σ H as vs → L2.avD as = some ds → FVs K O H vs ds
 | _, _, _, .nil, e => by cases e; exact .nil
 | .v d :: r, _, _, .cons a b, e => by
  simp only [L2.avD] at e
  split at e
  ·rename_i e1; cases e; exact .cons a (b.avD e1)
  ·cases e
 | .sl i :: r, _, _, .cons a b, e => by cases e
def pLst (pr : PTA) : PTE := fun ρ Q => pr ρ fun as ρ1 => match avD as with
 | some ds => ds.length ≤ 1000000 ∧ Q (.own ds) ρ1
 | _ => False
theorem le_lst (ha : LAs K tr pr) : LE K (tLst tr) (pLst pr) := fun A ρ σ H Q Q' R q k =>
 ha A ρ σ H _ _ R q fun vs H1 as ρ1 q1 f1 R1 o1 => by
  split at q1
  ·rename_i ds e1
   have fs := o1.avD e1
   refine ⟨sz _ (by rw [fs.length]; exact q1.1), fun p hp => k _ _ (.own ds) ρ1 q1.2 (f1.trans (Fr.new hp)) ?_⟩
   have g : Gr H1 (upd H1 p (.lst vs)) := Gr.new hp
   exact (OutV.out (p := .own ds) R1 g ⟨p, vs, rfl, hp, upd_same, fs.keeps (Keeps.fresh hp)⟩).h0 fun b z => f1.dm b z
  ·exact q1.elim
def pB (pe : PTE) : PTT := fun ρ Q => pe ρ fun p ρ1 => match p with
 | .dat (.bl b) => Q b ρ1
 | _ => False
theorem lt_B (h : LE K ta pe) : LT K (tB ta) (pB pe) := fun A ρ σ H Q Q' R q k => h A ρ σ H _ _ R q fun v H1 p ρ1 q1 f1 o1 => by
 split at q1
 ·rename_i b
  obtain ⟨R1, f⟩ := o1
  cases f
  exact ⟨b, rfl, k b H1 ρ1 q1 f1 R1⟩
 ·exact q1.elim
theorem lt_T (h : LE K ta pe) : LT K (tTest ta) (pB pe) := lt_B h
def pOr (a b : PTT) : PTT := fun ρ Q => a ρ fun c ρ1 => PIte c (Q true ρ1) (b ρ1 Q)
def pNot (a : PTT) : PTT := fun ρ Q => a ρ fun c ρ1 => Q (!c) ρ1
variable {tta ttb : TT} {pta ptb : PTT}
theorem lt_or (ha : LT K tta pta) (hb : LT K ttb ptb) : LT K (tOr tta ttb) (pOr pta ptb) := fun A ρ σ H Q Q' R q k => ha A ρ σ H _ _ R q fun c H1 ρ1 q1 f1 R1 => by
 cases c with
 | false => exact hb A ρ1 σ H1 _ _ R1 q1 fun b H2 ρ2 q2 f2 R2 => k b H2 ρ2 q2 (f1.trans f2) R2
 | true => exact k true H1 ρ1 q1 f1 R1
theorem lt_not (ha : LT K tta pta) : LT K (tNot tta) (pNot pta) := fun A ρ σ H Q Q' R q k => ha A ρ σ H _ _ R q fun c H1 ρ1 q1 f1 R1 => k _ H1 ρ1 q1 f1 R1
def pAndV (a b : PTE) : PTE := fun ρ Q => a ρ fun p ρ1 => match p with
 | .dat (.bl c) => PIte c (b ρ1 Q) (Q (.dat (.bl false)) ρ1)
 | _ => False
theorem le_and (ha : LE K ta pe) (hb : LE K tb pe') : LE K (tAndV ta tb) (pAndV pe pe') := fun A ρ σ H Q Q' R q k => ha A ρ σ H _ _ R q fun v H1 p ρ1 q1 f1 o1 => by
 split at q1
 ·rename_i c
  obtain ⟨R1, f⟩ := o1
  cases f
  refine ⟨c, rfl, ?_⟩
  cases c with
  | true => exact hb A ρ1 σ H1 _ _ R1 q1 fun b H2 p2 ρ2 q2 f2 o2 => k b H2 p2 ρ2 q2 (f1.trans f2) (o2.h0 fun b z => f1.dm b z)
  | false => exact k _ H1 _ ρ1 q1 f1 ⟨R1, .bl false⟩
 ·exact q1.elim
end
end L2
namespace L2
open PySem PySem.Spec PyProof.Rows
abbrev F2 := D → D → (PV → Prop) → Prop
def fI0 (g : Int → Int → D) : F2
 | .int i, .int j, Q => Q (.dat (g i j))
 | _, _, _ => False
def fI (C : Int → Int → Prop) (g : Int → Int → D) : F2
 | .int i, .int j, Q => C i j ∧ Q (.dat (g i j))
 | _, _, _ => False
section
variable {K : PySem.W.Frag} {X : Cx}
theorem lo_I0 {g : Int → Int → V} {g' : Int → Int → D} (h : ∀ i j O H, FV K O H (g i j) (g' i j)) : LO K (rI0 g) (fI0 g') := by
 intro O H x y a b Q Q' dom fx fy q k
 unfold fI0 at q
 split at q
 ·rename_i i j; exact ⟨i, j, fx.int, fy.int, k _ H _ q (Gr.refl _) (h i j _ _)⟩
 ·exact q.elim
theorem lo_I {C : Int → Int → Prop} {g : Int → Int → V} {g' : Int → Int → D} (h : ∀ i j O H, FV K O H (g i j) (g' i j)) : LO K (rI C g) (fI C g') := by
 intro O H x y a b Q Q' dom fx fy q k
 unfold fI at q
 split at q
 ·rename_i i j; exact ⟨i, j, fx.int, fy.int, q.1, k _ H _ q.2 (Gr.refl _) (h i j _ _)⟩
 ·exact q.elim
theorem out_lst {O : Addr → Prop} {H : Hp} {xs : List V} {ds : List D} {p : Addr} (hp : H p = none) (f : FVs K O H xs ds) : OutV K O H (upd H p (.lst xs)) (.own ds) (.ref p) :=
 ⟨p, xs, rfl, hp, upd_same, f.keeps (Keeps.fresh hp)⟩
theorem out_tup {O : Addr → Prop} {H : Hp} {xs : List V} {ds : List D} {p : Addr} (dom : ∀ b, O b → H b ≠ none) (hp : H p = none) (f : FVs K O H xs ds) : OutV K O H (upd H p (.tup xs)) (.dat (.tup ds)) (.ref p) :=
 .tup (fun z => dom p z hp) upd_same (f.keeps fun b o n e => ⟨n, by rw [upd_ne (ne_of_none e hp)]; exact e⟩)
def rAddS : R2 := fun x y H Q => ∃ i j, x = .str (S i) ∧ y = .str (S j) ∧ i.length + j.length ≤ sizeLine ∧ Q (.str (S (i ++ j))) H
def rAddU (K : PySem.W.Frag) : R2 := fun x y H Q => rI0 (fun i j => .int (i + j)) x y H Q ∨ rAddS x y H Q ∨ rCatL K x y H Q ∨ rCatT K x y H Q
theorem u_add (K : PySem.W.Frag) (e : X.K = K) : OpR X (binaryOp .Add) (rAddU K) := by
 subst e
 exact OpR.or op_add (OpR.or op_addS (OpR.or op_catL op_catT))
def fAdd : F2
 | .int i, .int j, Q => Q (.dat (.int (i + j)))
 | .str a, .str b, Q => a.length + b.length ≤ 1000000 ∧ Q (.dat (.str (a ++ b)))
 | .lst a, .lst b, Q => a.length + b.length ≤ 1000000 ∧ Q (.own (a ++ b))
 | .scr a, .lst b, Q => a.length + b.length ≤ 1000000 ∧ Q (.own (a.map .int ++ b))
 | .tup a, .tup b, Q => a ≠ [] ∧ a.length + b.length ≤ 1000000 ∧ Q (.dat (.tup (a ++ b)))
 | _, _, _ => False
theorem lo_add : LO K (rAddU K) fAdd := by
 intro O H x y a b Q Q' dom fx fy q k
 unfold fAdd at q
 split at q
 ·rename_i i j; exact .inl ⟨i, j, fx.int, fy.int, k _ H _ q (Gr.refl _) (.int _)⟩
 ·rename_i i j; exact .inr (.inl ⟨i, j, fx.str.1, fy.str.1, sz _ q.1, k _ H _ q.2 (Gr.refl _) (.str _ (by rw [List.length_append]; exact q.1))⟩)
 ·rename_i i j
  obtain ⟨a, xs, rfl, e1, f1⟩ := fx.lst
  obtain ⟨b, ys, rfl, e2, f2⟩ := fy.lst
  exact .inr (.inr (.inl ⟨a, b, xs, ys, rfl, rfl, SqL.of e1, SqL.of e2, sz _ (by rw [f1.length, f2.length]; exact q.1), fun p hp => k _ _ _ q.2 (Gr.new hp) (out_lst hp (f1.append f2))⟩))
 ·rename_i i j
  obtain ⟨a, rfl, e1⟩ := fx.scr
  obtain ⟨b, ys, rfl, e2, f2⟩ := fy.lst
  exact .inr (.inr (.inl ⟨a, b, _, ys, rfl, rfl, e1, SqL.of e2, sz _ (by rw [List.length_map, f2.length]; exact q.1), fun p hp => k _ _ _ q.2 (Gr.new hp) (out_lst hp ((FVs.of_ints i).append f2))⟩))
 ·rename_i i j
  obtain ⟨a, xs, rfl, n1, e1, f1⟩ := fx.tup
  obtain ⟨b, ys, rfl, n2, e2, f2⟩ := fy.tup
  have l1 := f1.length
  have l2 := f2.length
  refine .inr (.inr (.inr ⟨a, b, xs, ys, rfl, rfl, SqT.of e1, SqT.of e2, fun z => q.1 ?_, sz _ (by rw [l1, l2]; exact q.2.1), fun z => ?_, fun _ p hp => k _ _ _ q.2.2 (Gr.new hp) (out_tup dom hp (f1.append f2))⟩))
  ·exact List.length_eq_zero_iff.mp (by rw [← l1, z]; rfl)
  ·have : j = [] := List.length_eq_zero_iff.mp (by rw [← l2, z]; rfl)
   subst this
   exact k _ H _ q.2.2 (Gr.refl _) (by rw [List.append_nil]; exact .tup n1 e1 f1)
 ·exact q.elim
theorem lo_sub : LO K (rI0 fun i j => .int (i - j)) (fI0 fun i j => .int (i - j)) := lo_I0 fun _ _ _ _ => .int _
theorem lo_mod : LO K (rI (fun _ j => 0 < j) fun i j => .int (i % j)) (fI (fun _ j => 0 < j) fun i j => .int (i % j)) := lo_I fun _ _ _ _ => .int _
theorem lo_pow : LO K (rI CPow fun i j => .int (i ^ j.toNat)) (fI (fun i j => 0 ≤ j ∧ j ≤ 1000000 ∧ i.natAbs < 2 ^ 64) fun i j => .int (i ^ j.toNat)) := lo_I fun _ _ _ _ => .int _
def rRepS : R2 := fun x y H Q => ∃ l n, x = .str (S l) ∧ y = .int n ∧ -1000000 ≤ n ∧ n ≤ 1000000 ∧ n.toNat * l.length ≤ sizeLine ∧ Q (.str (S (repN l n))) H
def rMulU : R2 := fun x y H Q => rI CMul (fun i j => .int (i * j)) x y H Q ∨ rRepS x y H Q ∨ rRep x y H Q
theorem u_mul : OpR X (binaryOp .Mult) rMulU := OpR.or op_mul (OpR.or op_rep_str op_rep)
def fMul : F2
 | .int i, .int j, Q => ((-(2 ^ 64) < i ∧ i < 2 ^ 64) ∨ (-(2 ^ 64) < j ∧ j < 2 ^ 64)) ∧ Q (.dat (.int (i * j)))
 | .str a, .int n, Q => (-1000000 ≤ n ∧ n ≤ 1000000 ∧ n.toNat * a.length ≤ 1000000) ∧ Q (.dat (.str (repN a n)))
 | .lst a, .int n, Q => (-1000000 ≤ n ∧ n ≤ 1000000 ∧ a.length * n.toNat ≤ 1000000) ∧ Q (.own (repN a n))
 | _, _, _ => False
theorem FVs.rep {O : Addr → Prop} {H : Hp} {xs : List V} {ds : List D} (f : FVs K O H xs ds) : ∀ n, FVs K O H (List.replicate n xs).flatten (List.replicate n ds).flatten
 | 0 => .nil
 | n + 1 => by rw [List.replicate_succ, List.replicate_succ, List.flatten_cons, List.flatten_cons]; exact f.append (f.rep n)
theorem lo_mul : LO K rMulU fMul := by
 intro O H x y a b Q Q' dom fx fy q k
 unfold fMul at q
 split at q
 ·rename_i i j; exact .inl ⟨i, j, fx.int, fy.int, q.1, k _ H _ q.2 (Gr.refl _) (.int _)⟩
 ·rename_i i j; exact .inr (.inl ⟨i, j, fx.str.1, fy.int, q.1.1, q.1.2.1, sz _ q.1.2.2, k _ H _ q.2 (Gr.refl _) (.str _ (by rw [repN_length]; exact q.1.2.2))⟩)
 ·rename_i i j
  obtain ⟨a, xs, rfl, e1, f1⟩ := fx.lst
  exact .inr (.inr ⟨a, j, xs, rfl, fy.int, e1, by omega, by omega, sz _ (by rw [f1.length]; exact q.1.2.2), fun p hp => k _ _ _ q.2 (Gr.new hp) (out_lst hp (f1.rep _))⟩)
 ·exact q.elim
theorem lo_gt : LO K (rI0 fun i j => .bl (decide (j < i))) (fI0 fun i j => .bl (decide (j < i))) := lo_I0 fun _ _ _ _ => .bl _
mutual
def D.py : D → PyData
 | .non => .none | .bl b => .bool b | .int i => .int i | .str l => .str (S l) | .ty _ => .none
 | .lst ds => .list (D.pys ds) | .tup ds => .tuple (D.pys ds) | .scr ns => .list (ns.map .int) | .dic _ _ => .none | .obj _ _ _ => .none | .exc _ _ _ => .none
def D.pys : List D → List PyData
 | [] => []
 | d :: r => d.py :: D.pys r
end
mutual
def D.plain : D → Bool
 | .non => true | .bl _ => true | .int _ => true | .str _ => true | .ty _ => false
 | .lst ds => D.plains ds | .tup ds => D.plains ds | .scr _ => true | .dic _ _ => false | .obj _ _ _ => false | .exc _ _ _ => false
def D.plains : List D → Bool
 | [] => true
 | d :: r => d.plain && D.plains r
end
mutual
theorem FV.dv {O : Addr → Prop} {H : Hp} : ∀ {v : V} {d : D}, FV K O H v d → d.plain = true → DV K H v d.py
 | _, _, .non, _ => .non
 | _, _, .bl b, _ => .bl b
 | _, _, .int i, _ => .int i
 | _, _, .str l h, _ => .str (S l)
 | _, _, .ty n, p => nomatch p
 | _, _, .scr s, _ => .lst s.sq (DVs.ints _)
 | _, _, .lst n e f, p => .lst (SqL.of e) (FVs.dvs f p)
 | _, _, .tup n e f, p => .tup (SqT.of e) (FVs.dvs f p)
 | _, _, .dic _ _ _ _, p => nomatch p
 | _, _, .obj _ _ _ _, p => nomatch p
 | _, _, .exc0 _ _, p => nomatch p
 | _, _, .exc1 _ _ _ _ _ _, p => nomatch p
theorem FVs.dvs {O : Addr → Prop} {H : Hp} : ∀ {vs : List V} {ds : List D}, FVs K O H vs ds → D.plains ds = true → DVs K H vs (D.pys ds)
 | _, _, .nil, _ => .nil
 | _, _, .cons a b, p => by
  have p : (_ && _) = true := p
  rw [Bool.and_eq_true] at p
  exact .cons (FV.dv a p.1) (FVs.dvs b p.2)
end
theorem FVc.dv {O : Addr → Prop} {H : Hp} {v : V} {d : D} (h : FVc K O H v d) (p : d.plain = true) : DV K H v d.py := by
 rcases h with h | ⟨a, xs, ds', rfl, rfl, e3, f⟩ | ⟨a, dx, c, fs, ns, ds', e1, rfl, _⟩
 ·exact h.dv p
 ·exact .lst (SqL.of e3) (f.dvs p)
 ·cases p
def rEqU (K : PySem.W.Frag) (neg : Bool) : R2 := fun x y H Q => rI0 (fun i j => .bl (if neg then !decide (i = j) else decide (i = j))) x y H Q ∨ (∃ i j, x = .str (S i) ∧ y = .str (S j) ∧ Q (.bl (if neg then !decide (i = j) else decide (i = j))) H) ∨ rEqD K neg x y H Q
theorem u_eq (K : PySem.W.Frag) (e : X.K = K) (hu : X.A.units + 64 < cLine) : OpR X (compareOp .Eq) (rEqU K false) := by
 subst e
 exact OpR.or op_eqI (OpR.or op_eqS (op_eqD hu))
theorem u_ne (K : PySem.W.Frag) (e : X.K = K) (hu : X.A.units + 64 < cLine) : OpR X (compareOp .NotEq) (rEqU K true) := by
 subst e
 exact OpR.or op_neI (OpR.or op_neS (op_neD hu))
def EqOk (a b : D) : Prop := a.plain = true ∧ b.plain = true ∧ SeqAt.shaped a.py = true ∧ SeqAt.shaped b.py = true
def deq (a b : D) : Bool := PyData.eqv a.py b.py
def fEq : F2
 | .int i, .int j, Q => Q (.dat (.bl (decide (i = j))))
 | .str i, .str j, Q => Q (.dat (.bl (decide (i = j))))
 | a, b, Q => EqOk a b ∧ Q (.dat (.bl (deq a b)))
def fNe : F2
 | .int i, .int j, Q => Q (.dat (.bl (!decide (i = j))))
 | .str i, .str j, Q => Q (.dat (.bl (!decide (i = j))))
 | a, b, Q => EqOk a b ∧ Q (.dat (.bl (!deq a b)))
theorem lo_eq : LO K (rEqU K false) fEq := by
 intro O H x y a b Q Q' dom fx fy q k
 unfold fEq at q
 split at q
 ·rename_i i j; exact .inl ⟨i, j, fx.int, fy.int, k _ H _ q (Gr.refl _) (.bl _)⟩
 ·rename_i i j; exact .inr (.inl ⟨i, j, fx.str.1, fy.str.1, k _ H _ q (Gr.refl _) (.bl _)⟩)
 ·exact .inr (.inr ⟨_, _, fx.dv q.1.1, fy.dv q.1.2.1, q.1.2.2.1, q.1.2.2.2, k _ H _ q.2 (Gr.refl _) (.bl _)⟩)
theorem lo_ne : LO K (rEqU K true) fNe := by
 intro O H x y a b Q Q' dom fx fy q k
 unfold fNe at q
 split at q
 ·rename_i i j; exact .inl ⟨i, j, fx.int, fy.int, k _ H _ q (Gr.refl _) (.bl _)⟩
 ·rename_i i j; exact .inr (.inl ⟨i, j, fx.str.1, fy.str.1, k _ H _ q (Gr.refl _) (.bl _)⟩)
 ·exact .inr (.inr ⟨_, _, fx.dv q.1.1, fy.dv q.1.2.1, q.1.2.2.1, q.1.2.2.2, k _ H _ q.2 (Gr.refl _) (.bl _)⟩)
def rIxU (K : PySem.W.Frag) : R2 := fun x y H Q => rIxL K x y H Q ∨ rIxT K x y H Q ∨ rIxS' x y H Q
theorem u_ix (K : PySem.W.Frag) (e : X.K = K) : IxR X (rIxU K) := by
 subst e
 exact IxR.or ix_list (IxR.or ix_tup ix_strS)
def fIx : F2
 | .lst ds, .int i, Q => ∃ d, atI ds i = some d ∧ Q (.dat d)
 | .tup ds, .int i, Q => ∃ d, atI ds i = some d ∧ Q (.dat d)
 | .scr ns, .int i, Q => ∃ d, atI ns i = some d ∧ Q (.dat (.int d))
 | .str l, .int i, Q => ∃ c, atI l i = some c ∧ Q (.dat (.str [c]))
 | _, _, _ => False
theorem FVs.atI {O : Addr → Prop} {H : Hp} {vs : List V} {ds : List D} {i : Int} {d : D} (f : FVs K O H vs ds) (h : L2.atI ds i = some d) : ∃ v, L2.atI vs i = some v ∧ FV K O H v d := by
 unfold L2.atI at h ⊢
 rw [f.length]
 cases e : ixN ds.length i with
 | none => rw [e] at h; cases h
 | some j => rw [e] at h; exact f.getD h
theorem lo_ix : LO K (rIxU K) fIx := by
 intro O H x y a b Q Q' dom fx fy q k
 unfold fIx at q
 split at q
 ·obtain ⟨d, hd, q⟩ := q
  obtain ⟨p, xs, rfl, e1, f1⟩ := fx.lst
  obtain ⟨v, hv, fv⟩ := f1.atI hd
  exact .inl ⟨p, xs, _, v, rfl, fy.int, SqL.of e1, hv, k _ H _ q (Gr.refl _) fv⟩
 ·obtain ⟨d, hd, q⟩ := q
  obtain ⟨p, xs, rfl, n1, e1, f1⟩ := fx.tup
  obtain ⟨v, hv, fv⟩ := f1.atI hd
  exact .inr (.inl ⟨p, xs, _, v, rfl, fy.int, SqT.of e1, hv, k _ H _ q (Gr.refl _) fv⟩)
 ·obtain ⟨d, hd, q⟩ := q
  obtain ⟨p, rfl, e1⟩ := fx.scr
  exact .inl ⟨p, _, _, _, rfl, fy.int, e1, atI_map hd, k _ H _ q (Gr.refl _) (.int d)⟩
 ·obtain ⟨c, hc, q⟩ := q
  exact .inr (.inr ⟨_, _, c, fx.str.1, fy.int, sz _ fx.str.2, hc, k _ H _ q (Gr.refl _) (.str _ (by show 1 ≤ 1000000; decide))⟩)
 ·exact q.elim
end
end L2
namespace L2
open PySem PySem.Spec PyProof.Rows _root_.HT
section
variable {prog : Program} {w : World} {A : Around} {E : Value → Shared → Prop} {s : Shared}
end
end L2
namespace L2
open PySem PySem.Spec PyProof.Rows
section
variable {K : PySem.W.Frag} {X : Cx} {ta tb tc to : TE} {pa pb pc : PA1} {pe : PTE} {tr : TA} {pr : PTA}
abbrev FN := List D → (PV → Prop) → Prop
def rLenU (K : PySem.W.Frag) : List V → Hp → VK → Prop := fun xs H Q => (∃ l, xs = [.str (S l)] ∧ l.length ≤ sizeLine ∧ Q (.int l.length) H) ∨ rLenL K xs H Q ∨ rLenT K xs H Q ∨ ∃ p kvs, xs = [.ref p] ∧ Rd H p (.dK kvs) ∧ Q (.int kvs.length) H
theorem u_len (K : PySem.W.Frag) (e : X.K = K) : CallR X (.builtin "len") (rLenU K) := by
 subst e
 exact CallR.or call_lenS (CallR.or call_lenL (CallR.or call_lenT call_lenD))
def fLen : FN
 | [.str l], Q => Q (.dat (.int l.length))
 | [.lst l], Q => Q (.dat (.int l.length))
 | [.tup l], Q => Q (.dat (.int l.length))
 | [.scr l], Q => Q (.dat (.int l.length))
 | [.dic ks _], Q => Q (.dat (.int ks.length))
 | _, _ => False
theorem lc_len : LC K (rLenU K) fLen := by
 intro O H xs as Q Q' dom fs q k
 unfold fLen at q
 split at q
 ·cases fs with | cons a b => cases b; rw [a.str.1]; exact .inl ⟨_, rfl, sz _ a.str.2, k _ H _ q (Gr.refl _) (.int _)⟩
 ·cases fs with
  | cons a b =>
   cases b
   obtain ⟨p, ys, rfl, e1, f1⟩ := a.lst
   exact .inr (.inl ⟨p, ys, rfl, SqL.of e1, by rw [f1.length]; exact k _ H _ q (Gr.refl _) (.int _)⟩)
 ·cases fs with
  | cons a b =>
   cases b
   obtain ⟨p, ys, rfl, n1, e1, f1⟩ := a.tup
   exact .inr (.inr (.inl ⟨p, ys, rfl, SqT.of e1, by rw [f1.length]; exact k _ H _ q (Gr.refl _) (.int _)⟩))
 ·cases fs with
  | cons a b =>
   cases b
   obtain ⟨p, rfl, e1⟩ := a.scr
   exact .inr (.inl ⟨p, _, rfl, e1, by rw [List.length_map]; exact k _ H _ q (Gr.refl _) (.int _)⟩)
 ·cases fs with
  | cons a b =>
   cases b
   cases a.fv nofun nofun with
   | dic n e m f => subst m; exact .inr (.inr (.inr ⟨_, _, rfl, .inl e, k _ H _ q (Gr.refl _) (by rw [List.length_map]; exact .int _)⟩))
 ·exact q.elim
end
end L2
namespace L2
open PySem PySem.Spec PyProof.Rows
structure PEnds where
 nx : PSt → Prop
 rt : PV → PSt → Prop
 bk : PSt → Prop := fun _ => False
 ct : PSt → Prop := fun _ => False
abbrev PTS := PEnds → PSt → Prop
structure RelF (fx : List (Nat × V)) (R : Addr → Prop) (H0 : Hp) (ρ : PSt) (σ : St) (H : Hp) : Prop where
 kp : ∀ b o, ¬ R b → H0 b = some o → H b = some o
 dm : ∀ b, H0 b ≠ none → H b ≠ none
 ow : ∀ b, Wr ρ σ b → R b ∨ H0 b = none
 fx : ∀ p ∈ fx, σ[p.1]? = some (some p.2)
section
variable {K : PySem.W.Frag} {fx : List (Nat × V)} {A R : Addr → Prop} {H0 H H' : Hp} {ρ ρ' : PSt} {σ : St}
theorem RelF.fr (F : RelF fx R H0 ρ σ H) (f : Fr ρ σ H ρ' H') : RelF fx R H0 ρ' σ H' :=
 ⟨fun b o n e => f.kp b o (fun w => (F.ow b w).elim n (fun z => by rw [z] at e; cases e)) (F.kp b o n e), fun b z => f.dm b (F.dm b z), fun b w => F.ow b (f.ow b w), F.fx⟩
theorem RelF.start (hfx : ∀ p ∈ fx, σ[p.1]? = some (some p.2)) : RelF fx (Wr ρ σ) H ρ σ H := ⟨fun _ _ _ h => h, fun _ h => h, fun _ h => .inl h, hfx⟩
theorem RelF.keepsR {ρ1 : PSt} {σ1 : St} {H1 : Hp} (F : RelF fx R H1 ρ σ H) (hR : ∀ b, R b → OO A ρ1 σ1 b) : Keeps (OO A ρ1 σ1) H1 (OO A ρ σ) H := fun b o n e => by
 refine ⟨fun z => ?_, F.kp b o (fun z => n (hR b z)) e⟩
 rcases z with z | z
 ·exact n (.inl z)
 ·rcases F.ow b z with z | z
  ·exact n (hR b z)
  ·rw [z] at e; cases e
theorem RelF.keeps {ρ1 : PSt} {σ1 : St} {H1 : Hp} (F : RelF fx (Wr ρ1 σ1) H1 ρ σ H) : Keeps (OO A ρ1 σ1) H1 (OO A ρ σ) H := F.keepsR fun b z => .inr z
theorem RelF.trans {fx' : List (Nat × V)} {ρ1 : PSt} {σ1 : St} {H1 : Hp} (F : RelF fx R H0 ρ1 σ1 H1) (G : RelF fx' (Wr ρ1 σ1) H1 ρ σ H) (hfx : ∀ p ∈ fx, σ[p.1]? = some (some p.2)) : RelF fx R H0 ρ σ H := by
 refine ⟨fun b o n e => G.kp b o (fun w => (F.ow b w).elim n (fun z => by rw [z] at e; cases e)) (F.kp b o n e), fun b z => G.dm b (F.dm b z), fun b w => ?_, hfx⟩
 rcases G.ow b w with z | z
 ·exact F.ow b z
 ·refine .inr ?_
  cases e : H0 b with
  | none => rfl
  | some o => exact absurd z (F.dm b (by rw [e]; exact nofun))
theorem Out.put {p : PV} {v : V} {i : Nat} (h : Out K A ρ σ H0 H p v) : Rel K A (ρ.set i (some p)) (σ.set i (some v)) H ∧ ∀ b, Wr (ρ.set i (some p)) (σ.set i (some v)) b → Wr ρ σ b ∨ H0 b = none := by
 have get : ∀ (j : Nat) (q : PV), (ρ.set i (some p))[j]? = some (some q) → (j = i ∧ q = p ∧ i < ρ.length) ∨ (j ≠ i ∧ ρ[j]? = some (some q)) := fun j q e => by
  by_cases z : i = j
  ·subst z
   by_cases hi : i < ρ.length
   ·rw [List.getElem?_set_self hi] at e; cases e; exact .inl ⟨rfl, rfl, hi⟩
   ·rw [List.getElem?_eq_none (by rw [List.length_set]; omega)] at e; cases e
  ·rw [List.getElem?_set_ne z] at e; exact .inr ⟨fun q => z q.symm, e⟩
 cases p with
 | dat d =>
  obtain ⟨R1, f⟩ := h
  have ow : ∀ b, Wr (ρ.set i (some (.dat d))) (σ.set i (some v)) b → Wr ρ σ b := fun b ⟨j, r, e1, o1, s1⟩ => by
   rcases get j r e1 with ⟨_, rfl, _⟩ | ⟨n, e⟩
   ·cases o1
   ·rw [List.getElem?_set_ne (fun z => n z.symm)] at s1; exact ⟨j, r, e, o1, s1⟩
  have k : Keeps (OO A ρ σ) H (OO A (ρ.set i (some (.dat d))) (σ.set i (some v))) H := Keeps.less fun b z => z.imp id (ow b)
  refine ⟨⟨by rw [List.length_set, List.length_set]; exact R1.len, fun j r e1 => ?_, fun j l p1 q1 v' e1 e2 o1 o2 s1 s2 => ?_, R1.dom, fun b z w => R1.sep b z (ow b w)⟩, fun b w => .inl (ow b w)⟩
  ·rcases get j r e1 with ⟨rfl, rfl, hi⟩ | ⟨n, e⟩
   ·exact ⟨v, List.getElem?_set_self (by rw [← R1.len]; exact hi), f.keeps k⟩
   ·obtain ⟨u, s, r'⟩ := R1.get j r e
    exact ⟨u, by rw [List.getElem?_set_ne (fun z => n z.symm)]; exact s, r'.keeps k fun _ _ _ => rfl⟩
  ·rcases get j p1 e1 with ⟨_, rfl, _⟩ | ⟨n1, e1⟩
   ·cases o1
   ·rcases get l q1 e2 with ⟨_, rfl, _⟩ | ⟨n2, e2⟩
    ·cases o2
    ·rw [List.getElem?_set_ne (fun z => n1 z.symm)] at s1
     rw [List.getElem?_set_ne (fun z => n2 z.symm)] at s2
     exact R1.dj j l p1 q1 v' e1 e2 o1 o2 s1 s2
 | own ds =>
  obtain ⟨a, xs, rfl, na, hn, e0, R1, f⟩ := h
  have ow : ∀ b, Wr (ρ.set i (some (.own ds))) (σ.set i (some (.ref a))) b → Wr ρ σ b ∨ b = a := fun b ⟨j, r, e1, o1, s1⟩ => by
   rcases get j r e1 with ⟨rfl, rfl, hi⟩ | ⟨n, e⟩
   ·rw [List.getElem?_set_self (by rw [← R1.len]; exact hi)] at s1; cases s1; exact .inr rfl
   ·rw [List.getElem?_set_ne (fun z => n z.symm)] at s1; exact .inl ⟨j, r, e, o1, s1⟩
  have k : Keeps (OO (plus A a) ρ σ) H (OO A (ρ.set i (some (.own ds))) (σ.set i (some (.ref a)))) H := Keeps.less fun b z => by
   rcases z with z | z
   ·exact .inl (.inl z)
   ·rcases ow b z with z | z
    ·exact .inr z
    ·exact .inl (.inr z)
  refine ⟨⟨by rw [List.length_set, List.length_set]; exact R1.len, fun j r e1 => ?_, fun j l p1 q1 v' e1 e2 o1 o2 s1 s2 => ?_, fun b z => R1.dom b (.inl z), fun b z w => ?_⟩, fun b w => (ow b w).imp id fun z => by rw [z]; exact hn⟩
  ·rcases get j r e1 with ⟨rfl, rfl, hi⟩ | ⟨n, e⟩
   ·exact ⟨_, List.getElem?_set_self (by rw [← R1.len]; exact hi), a, xs, rfl, e0, f.keeps k⟩
   ·obtain ⟨u, s, r'⟩ := R1.get j r e
    exact ⟨u, by rw [List.getElem?_set_ne (fun z => n z.symm)]; exact s, r'.keeps k fun _ _ _ => rfl⟩
  ·rcases get j p1 e1 with ⟨rfl, rfl, hi⟩ | ⟨n1, e1'⟩
   ·rw [List.getElem?_set_self (by rw [← R1.len]; exact hi)] at s1; cases s1
    rcases get l q1 e2 with ⟨rfl, rfl, _⟩ | ⟨n2, e2⟩
    ·rfl
    ·rw [List.getElem?_set_ne (fun z => n2 z.symm)] at s2
     exact absurd ⟨l, q1, e2, o2, s2⟩ (R1.sep a (.inr rfl))
   ·rw [List.getElem?_set_ne (fun z => n1 z.symm)] at s1
    rcases get l q1 e2 with ⟨rfl, rfl, hi⟩ | ⟨n2, e2⟩
    ·rw [List.getElem?_set_self (by rw [← R1.len]; exact hi)] at s2; cases s2
     exact absurd ⟨j, p1, e1', o1, s1⟩ (R1.sep a (.inr rfl))
    ·rw [List.getElem?_set_ne (fun z => n2 z.symm)] at s2
     exact R1.dj j l p1 q1 v' e1' e2 o1 o2 s1 s2
  ·rcases ow b w with w | w
   ·exact R1.sep b (.inl z) w
   ·rw [w] at z; exact na z
 | ins c ns ds =>
  obtain ⟨a, dx, fs, rfl, na, hn, e0, m, R1, f⟩ := h
  have ow : ∀ b, Wr (ρ.set i (some (.ins c ns ds))) (σ.set i (some (.ref a))) b → Wr ρ σ b ∨ b = a := fun b ⟨j, r, e1, o1, s1⟩ => by
   rcases get j r e1 with ⟨rfl, rfl, hi⟩ | ⟨n, e⟩
   ·rw [List.getElem?_set_self (by rw [← R1.len]; exact hi)] at s1; cases s1; exact .inr rfl
   ·rw [List.getElem?_set_ne (fun z => n z.symm)] at s1; exact .inl ⟨j, r, e, o1, s1⟩
  have k : Keeps (OO (plus A a) ρ σ) H (OO A (ρ.set i (some (.ins c ns ds))) (σ.set i (some (.ref a)))) H := Keeps.less fun b z => by
   rcases z with z | z
   ·exact .inl (.inl z)
   ·rcases ow b z with z | z
    ·exact .inr z
    ·exact .inl (.inr z)
  refine ⟨⟨by rw [List.length_set, List.length_set]; exact R1.len, fun j r e1 => ?_, fun j l p1 q1 v' e1 e2 o1 o2 s1 s2 => ?_, fun b z => R1.dom b (.inl z), fun b z w => ?_⟩, fun b w => (ow b w).imp id fun z => by rw [z]; exact hn⟩
  ·rcases get j r e1 with ⟨rfl, rfl, hi⟩ | ⟨n, e⟩
   ·exact ⟨_, List.getElem?_set_self (by rw [← R1.len]; exact hi), a, dx, fs, rfl, e0, m, f.keeps k⟩
   ·obtain ⟨u, s, r'⟩ := R1.get j r e
    exact ⟨u, by rw [List.getElem?_set_ne (fun z => n z.symm)]; exact s, r'.keeps k fun _ _ _ => rfl⟩
  ·rcases get j p1 e1 with ⟨rfl, rfl, hi⟩ | ⟨n1, e1'⟩
   ·rw [List.getElem?_set_self (by rw [← R1.len]; exact hi)] at s1; cases s1
    rcases get l q1 e2 with ⟨rfl, rfl, _⟩ | ⟨n2, e2⟩
    ·rfl
    ·rw [List.getElem?_set_ne (fun z => n2 z.symm)] at s2
     exact absurd ⟨l, q1, e2, o2, s2⟩ (R1.sep a (.inr rfl))
   ·rw [List.getElem?_set_ne (fun z => n1 z.symm)] at s1
    rcases get l q1 e2 with ⟨rfl, rfl, hi⟩ | ⟨n2, e2⟩
    ·rw [List.getElem?_set_self (by rw [← R1.len]; exact hi)] at s2; cases s2
     exact absurd ⟨j, p1, e1', o1, s1⟩ (R1.sep a (.inr rfl))
    ·rw [List.getElem?_set_ne (fun z => n2 z.symm)] at s2
     exact R1.dj j l p1 q1 v' e1' e2 o1 o2 s1 s2
  ·rcases ow b w with w | w
   ·exact R1.sep b (.inl z) w
   ·rw [w] at z; exact na z
end
abbrev PTG := PV → PSt → (PSt → Prop) → Prop
abbrev PTGs := List D → PSt → (PSt → Prop) → Prop
def LG (K : PySem.W.Frag) (fs : List Nat) (g : TG) (pg : PTG) : Prop := ∀ (fx : List (Nat × V)) (A R : Addr → Prop) (H0 : Hp) (ρ : PSt) (σ : St) (H : Hp) (p : PV) (v : V) (Q : PSt → Prop) (Q' : St → Hp → Prop), fx.map Prod.fst = fs → RelF fx R H0 ρ σ H → Out K A ρ σ H0 H p v → pg p ρ Q →
 (∀ ρ' σ' H', Q ρ' → Rel K A ρ' σ' H' → RelF fx R H0 ρ' σ' H' → Q' σ' H') → g v σ H Q'
def LGs (K : PySem.W.Frag) (fs : List Nat) (g : TGs) (pg : PTGs) : Prop := ∀ (fx : List (Nat × V)) (A R : Addr → Prop) (H0 : Hp) (ρ : PSt) (σ : St) (H : Hp) (ds : List D) (vs : List V) (Q : PSt → Prop) (Q' : St → Hp → Prop), fx.map Prod.fst = fs → RelF fx R H0 ρ σ H → Rel K A ρ σ H → FVs K (OO A ρ σ) H vs ds → pg ds ρ Q →
 (∀ ρ' σ', Q ρ' → Rel K A ρ' σ' H → RelF fx R H0 ρ' σ' H → (∀ b, Wr ρ' σ' b → Wr ρ σ b) → Q' σ' H) → g vs σ H Q'
def LGd (K : PySem.W.Frag) (fs : List Nat) (g : TG) (pg : PTG) : Prop := ∀ (fx : List (Nat × V)) (A R : Addr → Prop) (H0 : Hp) (ρ : PSt) (σ : St) (H : Hp) (d : D) (v : V) (Q : PSt → Prop) (Q' : St → Hp → Prop), fx.map Prod.fst = fs → RelF fx R H0 ρ σ H → Rel K A ρ σ H → FV K (OO A ρ σ) H v d → pg (.dat d) ρ Q →
 (∀ ρ' σ', Q ρ' → Rel K A ρ' σ' H → RelF fx R H0 ρ' σ' H → (∀ b, Wr ρ' σ' b → Wr ρ σ b) → Q' σ' H) → g v σ H Q'
def pgName (i : Nat) : PTG := fun p ρ Q => Q (ρ.set i (some p))
def pgNil : PTGs := fun ds ρ Q => match ds with | [] => Q ρ | _ => False
def pgCons (g : PTG) (gs : PTGs) : PTGs := fun ds ρ Q => match ds with | d :: r => g (.dat d) ρ fun ρ1 => gs r ρ1 Q | [] => False
section
variable {K : PySem.W.Frag} {fs : List Nat}
theorem RelF.put {fx : List (Nat × V)} {R : Addr → Prop} {H0 H : Hp} {ρ : PSt} {σ : St} {i : Nat} {p : PV} {v : V} (hf : fx.map Prod.fst = fs) (hi : fs.contains i = false) (F : RelF fx R H0 ρ σ H) (ow : ∀ b, Wr (ρ.set i (some p)) (σ.set i (some v)) b → Wr ρ σ b ∨ H0 b = none) : RelF fx R H0 (ρ.set i (some p)) (σ.set i (some v)) H :=
 ⟨F.kp, F.dm, fun b w => (ow b w).elim (F.ow b) .inr, fun q hq => by
  have : q.1 ≠ i := fun z => by
   have h1 : i ∈ fs := by rw [← hf, ← z]; exact List.mem_map_of_mem hq
   rw [List.contains_iff_mem.mpr h1] at hi; cases hi
  rw [List.getElem?_set_ne (fun z => this z.symm)]; exact F.fx q hq⟩
theorem lg_name {i : Nat} (hi : fs.contains i = false) : LG K fs (gName i) (pgName i) := fun fx A R H0 ρ σ H p v Q Q' hf F o q k => k _ _ _ q o.put.1 (F.put hf hi o.put.2)
theorem lgs_nil : LGs K fs gNil pgNil := fun fx A R H0 ρ σ H ds vs Q Q' hf F r fv q k => by
 unfold pgNil at q
 split at q
 ·cases fv; exact ⟨rfl, k _ _ q r F fun _ h => h⟩
 ·exact q.elim
theorem lgd_name {i : Nat} (hi : fs.contains i = false) : LGd K fs (gName i) (pgName i) := fun fx A R H0 ρ σ H d v Q Q' hf F r fv q k => by
 have o : Out K A ρ σ H0 H (.dat d) v := ⟨r, fv⟩
 have ow : ∀ b, Wr (ρ.set i (some (.dat d))) (σ.set i (some v)) b → Wr ρ σ b := fun b ⟨j, p, e1, o1, s1⟩ => by
  by_cases z : i = j
  ·subst z
   by_cases hl : i < ρ.length
   ·rw [List.getElem?_set_self hl] at e1; cases e1; cases o1
   ·rw [List.getElem?_eq_none (by rw [List.length_set]; omega)] at e1; cases e1
  ·rw [List.getElem?_set_ne z] at e1 s1; exact ⟨j, p, e1, o1, s1⟩
 exact k _ _ q o.put.1 (F.put hf hi o.put.2) ow
theorem lgs_cons {g : TG} {pg : PTG} {gs : TGs} {pgs : PTGs} (hg : LGd K fs g pg) (h : LGs K fs gs pgs) : LGs K fs (gCons g gs) (pgCons pg pgs) := fun fx A R H0 ρ σ H ds vs Q Q' hf F r fv q k => by
 unfold pgCons at q
 split at q
 ·cases fv with
  | cons a b =>
   exact ⟨_, _, rfl, hg fx A R H0 ρ σ H _ _ _ _ hf F r a q fun ρ1 σ1 q1 r1 F1 w1 => h fx A R H0 ρ1 σ1 H _ _ _ _ hf F1 r1 (b.keeps (Keeps.less fun b z => z.imp id (w1 b))) q1 fun ρ2 σ2 q2 r2 F2 w2 => k ρ2 σ2 q2 r2 F2 fun b z => w1 b (w2 b z)⟩
 ·exact q.elim
end
def LS (K : PySem.W.Frag) (fs : List Nat) (ts : TS) (ps : PTS) : Prop := ∀ (fx : List (Nat × V)) (A R : Addr → Prop) (H0 : Hp) (ρ : PSt) (σ : St) (H : Hp) (D : PEnds) (D' : Ends), fx.map Prod.fst = fs → Rel K A ρ σ H → RelF fx R H0 ρ σ H → ps D ρ →
 (∀ ρ' σ' H', D.nx ρ' → Rel K A ρ' σ' H' → RelF fx R H0 ρ' σ' H' → D'.nx σ' H') →
 (∀ v p ρ' σ' H', D.rt p ρ' → Out K A ρ' σ' H0 H' p v → RelF fx R H0 ρ' σ' H' → D'.rt v H') →
 (∀ ρ' σ' H', D.bk ρ' → Rel K A ρ' σ' H' → RelF fx R H0 ρ' σ' H' → D'.bk σ' H') →
 (∀ ρ' σ' H', D.ct ρ' → Rel K A ρ' σ' H' → RelF fx R H0 ρ' σ' H' → D'.ct σ' H') → ts D' σ H
def psNext : PTS := fun D ρ => D.nx ρ
def psSeq (a b : PTS) : PTS := fun D ρ => a { D with nx := b D } ρ
def psRet (pe : PTE) : PTS := fun D ρ => pe ρ D.rt
def psIf (t : PTT) (a b : PTS) : PTS := fun D ρ => t ρ fun c ρ1 => PIte c (a D ρ1) (b D ρ1)
def psAsg (pe : PTE) (g : PTG) : PTS := fun D ρ => pe ρ fun p ρ1 => g p ρ1 D.nx
def psJoin (a : PTS) : PTS := fun D ρ => ∃ J : PSt → Prop, a { D with nx := J } ρ ∧ ∀ ρ', J ρ' → D.nx ρ'
section
variable {K : PySem.W.Frag} {fs : List Nat} {ta tb : TS} {pa pb : PTS} {te : TE} {pe : PTE} {tt : TT} {pt : PTT}
theorem ls_next : LS K fs tNext psNext := fun fx A R H0 ρ σ H D D' hf r F q k1 k2 k3 k4 => k1 _ _ _ q r F
theorem ls_seq (ha : LS K fs ta pa) (hb : LS K fs tb pb) : LS K fs (tSeq ta tb) (psSeq pa pb) := fun fx A R H0 ρ σ H D D' hf r F q k1 k2 k3 k4 =>
 ha fx A R H0 ρ σ H _ _ hf r F q (fun ρ1 σ1 H1 q1 r1 F1 => hb fx A R H0 ρ1 σ1 H1 _ _ hf r1 F1 q1 k1 k2 k3 k4) k2 k3 k4
theorem ls_ret (h : LE K te pe) : LS K fs (tRet te) (psRet pe) := fun fx A R H0 ρ σ H D D' hf r F q k1 k2 k3 k4 => h A ρ σ H _ _ r q fun v H1 p ρ1 q1 f1 o1 => k2 v p ρ1 σ H1 q1 (o1.h0 F.dm) (F.fr f1)
theorem ls_if (ht : LT K tt pt) (ha : LS K fs ta pa) (hb : LS K fs tb pb) : LS K fs (tIfS tt ta tb) (psIf pt pa pb) := fun fx A R H0 ρ σ H D D' hf r F q k1 k2 k3 k4 => ht A ρ σ H _ _ r q fun c H1 ρ1 q1 f1 r1 => by
 cases c with
 | true => exact ha fx A R H0 ρ1 σ H1 D D' hf r1 (F.fr f1) q1 k1 k2 k3 k4
 | false => exact hb fx A R H0 ρ1 σ H1 D D' hf r1 (F.fr f1) q1 k1 k2 k3 k4
theorem ls_asg {g : TG} {pg : PTG} (h : LE K te pe) (hg : LG K fs g pg) : LS K fs (tAsg te g) (psAsg pe pg) := fun fx A R H0 ρ σ H D D' hf r F q k1 k2 k3 k4 => h A ρ σ H _ _ r q fun v H1 p ρ1 q1 f1 o1 =>
 hg fx A R H0 ρ1 σ H1 p v _ _ hf (F.fr f1) (o1.h0 F.dm) q1 k1
theorem ls_join (h : LS K fs ta pa) : LS K fs (tJoin ta) (psJoin pa) := fun fx A R H0 ρ σ H D D' hf r F q k1 k2 k3 k4 => by
 obtain ⟨J, q1, q2⟩ := q
 refine ⟨fun σ' H' => ∃ ρ', J ρ' ∧ Rel K A ρ' σ' H' ∧ RelF fx R H0 ρ' σ' H', ?_, fun σ' H' ⟨ρ', j, r', F'⟩ => k1 ρ' σ' H' (q2 ρ' j) r' F'⟩
 exact h fx A R H0 ρ σ H _ _ hf r F q1 (fun ρ' σ' H' j r' F' => ⟨ρ', j, r', F'⟩) k2 k3 k4
end
end L2
namespace L2
open PySem PySem.Spec PyProof.Rows
def iAny (K : PySem.W.Frag) (tl : TE) : TI := fun σ H R => tl σ H fun x H1 => (∃ k a xs, x = .ref a ∧ Sq k K H1 a xs ∧ R (Itk k K a) H1) ∨ ∃ l, x = .str (S l) ∧ R (Its (signs1 l)) H1
section
variable {X : Cx} {tg : Expr}
theorem pi_any0 {l : Expr} {tl : TE} (hl : PE X l tl) : PI X tg l (iAny X.K tl) := by
 intro pins s σ H R I h
 refine thn (hl pins s σ H _ I h) fun v s1 ⟨x, H1, I1, r1, q1⟩ => ?_
 have fin : ∀ b ∈ [s1.heap.objs.size], FpOk X pins H1 b := fun b hb => by
  have e : b = s1.heap.objs.size := by simpa using hb
  subst e
  exact I1.fpOk (Nat.le_refl _) (I1.hok.fresh (Nat.le_refl _))
 rcases q1 with ⟨k, a, xs, e, hq, q⟩ | ⟨l, e, q⟩
 ·subst e
  cases r1
  cases k with
  | false =>
   obtain ⟨its, rv, p, hz⟩ := I1.list hq
   refine wpAny_pyIter_list p.isList ?_
   exact ⟨s1.heap.objs.size, [s1.heap.objs.size], _, _, H1, rfl, I1.kept (t' := s1.toks) fun b o e => Heap.get?_push_of_some _ e, turn_list a _, ⟨_, Heap.get?_push_size _ rfl, rfl, rfl⟩, fin, q⟩
  | true =>
   obtain ⟨its, rv, p, hz⟩ := I1.tuple hq
   refine wpAny_pyIter_tuple (show s1.heap.IsTuple a its.toArray from p) ?_
   exact ⟨s1.heap.objs.size, [s1.heap.objs.size], _, _, H1, rfl, I1.kept (t' := s1.toks) fun b o e => Heap.get?_push_of_some _ e, turn_tuple a _, ⟨_, Heap.get?_push_size _ rfl, rfl, rfl⟩, fin, q⟩
 ·subst e
  obtain ⟨t, rfl⟩ := r1
  have hv : ∀ i v, i < (S l).cps.size → SignAt (S l) i v → ∃ x, (signs1 l)[i]? = some x ∧ RelV x v := fun i v _ ⟨c, u, hc, e⟩ => by
   subst e
   have hc' : l[i]? = some c := by simpa [S] using hc
   exact ⟨.str (S [c]), by unfold signs1; rw [List.getElem?_map, hc']; rfl, u, rfl⟩
  have hsc : ∀ i v, SignAt (S l) i v → ∀ a, v ≠ .ref a := fun i v ⟨c, u, hc, e⟩ a z => by subst e; cases z
  have hn : (signs1 l).length = (S l).cps.size := by rw [signs1_len]; simp [S]
  have hobj : ∀ ty i (h : Heap), h.IsStrIter s1.heap.objs.size ty (S l) t i → ∃ o, h.get? s1.heap.objs.size = some o ∧ ∀ v, o.data ≠ .cell v := fun ty i h ⟨o, ho, _, hd⟩ => ⟨o, ho, fun v z => by rw [hd] at z; cases z⟩
  have hfr : ∀ ty i (h h' : Heap), h.IsStrIter s1.heap.objs.size ty (S l) t i → (∀ b ∈ [s1.heap.objs.size], ∀ o, h.get? b = some o → h'.get? b = some o) → h'.IsStrIter s1.heap.objs.size ty (S l) t i := fun ty i h h' ⟨o, ho, r⟩ k => ⟨o, k _ (by simp) o ho, r⟩
  cases ha : (S l).cps.all (· < 128)
  ·refine wpAny_pyIter_wide ha ⟨s1.heap.objs.size, [s1.heap.objs.size], _, Its (signs1 l), H1, rfl, I1.kept (t' := s1.toks) fun b o e => Heap.get?_push_of_some _ e,
    turn_walk (fun A hA => Walks.strWide hA _ (S l) t) hn hv hsc (hobj _) (hfr _) (fun A i s Q E st q => wpAny_pyIter_striter_wide st q), ⟨_, Heap.get?_push_size _ rfl, rfl, rfl⟩, fin, q⟩
  ·refine wpAny_pyIter_ascii ha ⟨s1.heap.objs.size, [s1.heap.objs.size], _, Its (signs1 l), H1, rfl, I1.kept (t' := s1.toks) fun b o e => Heap.get?_push_of_some _ e,
    turn_walk (fun A hA => Walks.strAscii hA _ (S l) t) hn hv hsc (hobj _) (hfr _) (fun A i s Q E st q => wpAny_pyIter_striter_ascii st q), ⟨_, Heap.get?_push_size _ rfl, rfl, rfl⟩, fin, q⟩
theorem pi_any (K : PySem.W.Frag) (e : X.K = K) {l : Expr} {tl : TE} (hl : PE X l tl) : PI X tg l (iAny K tl) := by subst e; exact pi_any0 hl
end
abbrev PTI := PSt → (Nat → (Nat → D) → PSt → Prop) → Prop
def Wlk (K : PySem.W.Frag) (O : Addr → Prop) (H : Hp) (J : It) (n : Nat) (it : Nat → D) : Prop := ∀ (O' : Addr → Prop) (H' : Hp), Keeps O H O' H' → (∀ b, O' b → H' b ≠ none) →
 (∀ k, k < n → J.go k H' ∧ ∀ x H'', J.yld k H' x H'' → Gr H' H'' ∧ FV K O' H'' x (it k)) ∧ J.stop n H'
def LI (K : PySem.W.Frag) (wi : TI) (pi : PTI) : Prop := ∀ (A : Addr → Prop) (ρ : PSt) (σ : St) (H : Hp) (Q : Nat → (Nat → D) → PSt → Prop) (Q' : It → Hp → Prop), Rel K A ρ σ H → pi ρ Q →
 (∀ J H' n it ρ', Q n it ρ' → Fr ρ σ H ρ' H' → Rel K A ρ' σ H' → Wlk K (OO A ρ' σ) H' J n it → Q' J H') → wi σ H Q'
def itD (ds : List D) (k : Nat) : D := ds.getD k .non
theorem itD_of {ds : List D} {k : Nat} {d : D} (h : ds[k]? = some d) : itD ds k = d := by unfold itD; rw [List.getD_eq_getElem?_getD, h]; rfl
def srcD : D → Option (Nat × (Nat → D))
 | .lst ds => some (ds.length, itD ds)
 | .tup ds => some (ds.length, itD ds)
 | .scr ns => some (ns.length, fun k => .int (ns.getD k 0))
 | .str l => some (l.length, fun k => .str [l.getD k 0])
 | _ => none
def piAny (pe : PTE) : PTI := fun ρ Q => pe ρ fun p ρ1 => match srcD p.d with
 | some (n, it) => Q n it ρ1
 | none => False
section
variable {K : PySem.W.Frag} {te : TE} {pe : PTE} {ta : TA} {pa : PTA}
theorem FV.row {O : Addr → Prop} {H : Hp} {v : V} {d : D} {n : Nat} {it : Nat → D} (h : FV K O H v d) (e : srcD d = some (n, it)) :
  (∃ k a xs, v = .ref a ∧ xs.length = n ∧ (∀ O' H', Keeps O H O' H' → Sq k K H' a xs ∧ ∀ j x, xs[j]? = some x → FV K O' H' x (it j))) ∨ ∃ l, v = .str (S l) ∧ l.length = n ∧ (∀ k, it k = .str [l.getD k 0]) := by
 cases h with
 | lst nn e0 f =>
  cases e
  refine .inl ⟨false, _, _, rfl, f.length, fun O' H' k => ⟨SqL.of (k _ _ nn e0).2, fun j x hx => ?_⟩⟩
  obtain ⟨d, hd, fd⟩ := f.get hx
  rw [itD_of hd]; exact fd.keeps k
 | tup nn e0 f =>
  cases e
  refine .inl ⟨true, _, _, rfl, f.length, fun O' H' k => ⟨SqT.of (k _ _ nn e0).2, fun j x hx => ?_⟩⟩
  obtain ⟨d, hd, fd⟩ := f.get hx
  rw [itD_of hd]; exact fd.keeps k
 | scr s =>
  cases e
  refine .inl ⟨false, _, _, rfl, List.length_map _, fun O' H' k => ⟨(s.keeps k).sq, fun j x hx => ?_⟩⟩
  obtain ⟨z, hz, rfl⟩ := ints_get hx
  show FV K O' H' (V.int z) (D.int (List.getD _ j 0))
  rw [List.getD_eq_getElem?_getD, hz]; exact .int z
 | str l hl => cases e; exact .inr ⟨l, rfl, rfl, fun _ => rfl⟩
 | non => cases e
 | bl b => cases e
 | int i => cases e
 | ty n => cases e
 | dic _ _ _ _ => cases e
 | obj _ _ _ _ => cases e
 | exc0 _ _ => cases e
 | exc1 _ _ _ _ _ _ => cases e
theorem li_any (h : LE K te pe) : LI K (iAny K te) (piAny pe) := fun A ρ σ H Q Q' R q k => h A ρ σ H _ _ R q fun v H1 p ρ1 q1 f1 o1 => by
 obtain ⟨R1, fv⟩ := o1.frz
 split at q1
 ·rename_i n it e
  rcases fv.row e with ⟨b, a, xs, rfl, hl, hr⟩ | ⟨l, rfl, hl, hi⟩
  ·refine .inl ⟨b, a, xs, rfl, (hr _ H1 (fun b o n h => ⟨n, h⟩)).1, k _ H1 n it ρ1 q1 f1 R1 fun O' H' kk dom => ?_⟩
   obtain ⟨sq, hx⟩ := hr O' H' kk
   cases b with
   | false =>
    refine ⟨fun j hj => ⟨⟨xs, _, sq, List.getElem?_eq_getElem (by rw [hl]; exact hj)⟩, fun x H'' ⟨e, y⟩ => ?_⟩, ⟨xs, sq, by rw [hl]; exact Nat.le_refl _⟩⟩
    subst e; exact ⟨Gr.refl _, hx j x (y xs sq)⟩
   | true =>
    refine ⟨fun j hj => ⟨⟨xs, _, sq, List.getElem?_eq_getElem (by rw [hl]; exact hj)⟩, fun x H'' ⟨e, y⟩ => ?_⟩, ⟨xs, sq, by rw [hl]; exact Nat.le_refl _⟩⟩
    subst e; exact ⟨Gr.refl _, hx j x (y xs sq)⟩
  ·refine .inr ⟨l, rfl, k _ H1 n it ρ1 q1 f1 R1 fun O' H' kk dom => ?_⟩
   refine ⟨fun j hj => ⟨by show j < (signs1 l).length; rw [signs1_len, hl]; exact hj, fun x H'' ⟨e, y⟩ => ?_⟩, by show (signs1 l).length = n; rw [signs1_len, hl]⟩
   subst e
   obtain ⟨c, hc, rfl⟩ := signs1_get y
   rw [hi, List.getD_eq_getElem?_getD, hc]
   exact ⟨Gr.refl _, .str _ (by show 1 ≤ 1000000; decide)⟩
 ·exact q1.elim
def piR1 (pa : PTA) : PTI := fun ρ Q => pa ρ fun as ρ1 => match as with
 | [.v (.int j)] => (-(2 ^ 60) ≤ j ∧ j < 2 ^ 60) ∧ Q j.toNat (fun k => .int (k : Int)) ρ1
 | _ => False
theorem wlk_r {O : Addr → Prop} {H : Hp} {lo : Int} {n : Nat} {it : Nat → D} (h : ∀ k : Nat, it k = .int (lo + k)) : Wlk K O H (Itr lo n) n it := fun O' H' _ _ =>
 ⟨fun j hj => ⟨hj, fun x H'' ⟨e, y⟩ => by subst e y; rw [h]; exact ⟨Gr.refl _, .int _⟩⟩, Nat.le_refl _⟩
theorem li_r1 (h : LAs K ta pa) : LI K (iRng1 ta) (piR1 pa) := fun A ρ σ H Q Q' R q k => h A ρ σ H _ _ R q fun vs H1 as ρ1 q1 f1 R1 o1 => by
 split at q1
 ·rename_i j
  cases o1 with
  | cons a b =>
   cases b
   cases a
   exact ⟨j, rfl, by omega, by omega, k _ H1 _ _ ρ1 q1.2 f1 R1 (wlk_r fun k => by rw [Int.zero_add])⟩
 ·exact q1.elim
def rowD : D → Option (List D)
 | .lst ds => some ds
 | .tup ds => some ds
 | .scr ns => some (ns.map .int)
 | _ => none
theorem FV.rowD {O : Addr → Prop} {H : Hp} {v : V} {d : D} {ds : List D} (h : FV K O H v d) (e : L2.rowD d = some ds) :
  ∃ k a xs, v = .ref a ∧ xs.length = ds.length ∧ (∀ O' H', Keeps O H O' H' → Sq k K H' a xs ∧ FVs K O' H' xs ds) := by
 cases h with
 | lst nn e0 f => cases e; exact ⟨false, _, _, rfl, f.length, fun O' H' k => ⟨SqL.of (k _ _ nn e0).2, f.keeps k⟩⟩
 | tup nn e0 f => cases e; exact ⟨true, _, _, rfl, f.length, fun O' H' k => ⟨SqT.of (k _ _ nn e0).2, f.keeps k⟩⟩
 | scr s => cases e; exact ⟨false, _, _, rfl, by rw [List.length_map, List.length_map], fun O' H' k => ⟨(s.keeps k).sq, FVs.of_ints _⟩⟩
 | str l hl => cases e
 | non => cases e
 | bl b => cases e
 | int i => cases e
 | ty n => cases e
 | dic _ _ _ _ => cases e
 | obj _ _ _ _ => cases e
 | exc0 _ _ => cases e
 | exc1 _ _ _ _ _ _ => cases e
def piEnum (pa : PTA) : PTI := fun ρ Q => pa ρ fun as ρ1 => match as with
 | [.v a] => (match rowD a with
  | some xs => Q xs.length (fun k => .tup [.int (k : Int), itD xs k]) ρ1
  | _ => False)
 | _ => False
theorem li_enum (h : LAs K ta pa) : LI K (iEnum K ta) (piEnum pa) := fun A ρ σ H Q Q' R q k => h A ρ σ H _ _ R q fun vs H1 as ρ1 q1 f1 R1 o1 => by
 split at q1
 ·rename_i da
  cases o1 with
  | cons o1 o3 =>
   cases o3
   split at q1
   ·rename_i xs ex
    obtain ⟨b1, a1, us, rfl, l1, w1⟩ := FV.rowD (show FV K _ H1 _ da from o1) ex
    have t1 := w1 _ H1 (fun b o n h => ⟨n, h⟩)
    refine ⟨b1, a1, rfl, ⟨us, t1.1⟩, k _ H1 _ _ ρ1 q1 f1 R1 fun O' H' kk dom => ?_⟩
    obtain ⟨s1, g1⟩ := w1 O' H' kk
    refine ⟨fun j hj => ?_, ⟨us, s1, by omega⟩⟩
    have h1 : j < us.length := by omega
    refine ⟨⟨us, _, s1, List.getElem?_eq_getElem h1⟩, fun x H'' ⟨T, u, hT, e, y1, e2⟩ => ?_⟩
    subst e e2
    obtain ⟨d1, hd1, fd1⟩ := g1.get (y1 us s1)
    have e1 : itD xs j = d1 := by unfold itD; rw [List.getD_eq_getElem?_getD, hd1]; rfl
    rw [e1]
    have kk2 : Keeps O' H' O' (upd H' T (.tup [.int (j : Int), u])) := fun b o n e => ⟨n, by rw [upd_ne (ne_of_none e hT)]; exact e⟩
    exact ⟨Gr.new hT, .tup (fun z => dom T z hT) upd_same (.cons (.int _) (.cons (fd1.keeps kk2) .nil))⟩
   ·exact q1.elim
 ·exact q1.elim
end
def psFor (pi : PTI) (g : PTG) (pb : PTS) : PTS := fun D ρ => pi ρ fun n it ρ1 => ∃ I : Nat → PSt → Prop, I 0 ρ1 ∧ (∀ k ρ d, k < n → d = it k → I k ρ → g (.dat d) ρ fun ρ2 => pb { D with nx := I (k + 1), ct := I (k + 1), bk := D.nx } ρ2) ∧ ∀ ρ, I n ρ → D.nx ρ
section
variable {K : PySem.W.Frag} {fs : List Nat} {wi : TI} {pi : PTI} {g : TG} {pg : PTG} {tb : TS} {pb : PTS} {tt : TT} {pt : PTT}
theorem ls_for (hi : LI K wi pi) (hg : LGd K fs g pg) (hb : LS K fs tb pb) : LS K fs (tFor wi g tb) (psFor pi pg pb) := fun fx A R H0 ρ σ H D D' hf r F q k1 k2 k3 k4 => hi A ρ σ H _ _ r q fun J H1 n it ρ1 q1 f1 r1 W => by
 obtain ⟨I, i0, turn, after⟩ := q1
 have F1 := F.fr f1
 refine ⟨fun i m σ' H' => i + m = n ∧ ∃ ρ', I i ρ' ∧ Rel K A ρ' σ' H' ∧ RelF fx (Wr ρ1 σ) H1 ρ' σ' H', ⟨n, Nat.zero_add n, ρ1, i0, r1, RelF.start F1.fx⟩, fun i m σ' H' ⟨him, ρ', iv, r', F'⟩ => ?_⟩
 obtain ⟨go, stop⟩ := W _ H' F'.keeps r'.dom2
 by_cases hk : i < n
 ·obtain ⟨g1, g2⟩ := go i hk
  refine .inr ⟨g1, fun σ'' H'' => ∃ ρ'', I (i + 1) ρ'' ∧ Rel K A ρ'' σ'' H'' ∧ RelF fx (Wr ρ1 σ) H1 ρ'' σ'' H'', fun σ'' H'' z => ⟨m - 1, by omega, by omega, z⟩, fun x H'' y => ?_⟩
  obtain ⟨gr, fv⟩ := g2 x H'' y
  refine hg fx A (Wr ρ1 σ) H1 ρ' σ' H'' _ x _ _ hf (F'.fr gr.fr) (r'.gr gr) fv (turn i ρ' _ hk rfl iv) fun ρ2 σ2 q2 r2 F2 _ => ?_
  refine hb fx A (Wr ρ1 σ) H1 ρ2 σ2 H'' _ _ hf r2 F2 q2 (fun ρ3 σ3 H3 q3 r3 F3 => ⟨ρ3, q3, r3, F3⟩) (fun v p ρ3 σ3 H3 q3 o3 F3 => k2 v p ρ3 σ3 H3 q3 (o3.h0 F1.dm) (F1.trans F3 F3.fx)) (fun ρ3 σ3 H3 q3 r3 F3 => k1 ρ3 σ3 H3 q3 r3 (F1.trans F3 F3.fx)) (fun ρ3 σ3 H3 q3 r3 F3 => ⟨ρ3, q3, r3, F3⟩)
 ·have e : i = n := by omega
  subst e
  exact .inl ⟨stop, k1 ρ' σ' H' (after ρ' iv) r' (F1.trans F' F'.fx)⟩
end
end L2
namespace L2
open PySem PySem.Spec PyProof.Rows
def sub0P (ix : List (Option Nat)) (ρ : PSt) : PSt := ix.map fun o => match o with
 | none => none
 | some j => match ρ[j]? with
  | some v => v
  | none => none
def back : List (Option Nat) → PSt → PSt → PSt
 | some j :: ix, ρ, t :: τ => back ix (ρ.set j t) τ
 | none :: ix, ρ, _ :: τ => back ix ρ τ
 | _, ρ, _ => ρ
def ixOk : List (Option Nat) → Bool
 | [] => true
 | none :: r => ixOk r
 | some j :: r => !r.contains (some j) && ixOk r
theorem back_len : ∀ (ix : List (Option Nat)) (ρ τ : PSt), (back ix ρ τ).length = ρ.length
 | [], ρ, τ => by unfold back; rfl
 | some j :: ix, ρ, t :: τ => by show (back ix (ρ.set j t) τ).length = _; rw [back_len ix, List.length_set]
 | none :: ix, ρ, t :: τ => by show (back ix ρ τ).length = _; exact back_len ix ρ τ
 | some j :: ix, ρ, [] => by unfold back; rfl
 | none :: ix, ρ, [] => by unfold back; rfl
theorem back_out : ∀ (ix : List (Option Nat)) (ρ τ : PSt) (j : Nat), some j ∉ ix → (back ix ρ τ)[j]? = ρ[j]?
 | [], ρ, τ, j, _ => by unfold back; rfl
 | some i :: ix, ρ, t :: τ, j, h => by
  show (back ix (ρ.set i t) τ)[j]? = _
  rw [back_out ix _ τ j (fun z => h (List.mem_cons_of_mem _ z)), List.getElem?_set_ne (fun z => h (by rw [z]; exact List.mem_cons_self ..))]
 | none :: ix, ρ, t :: τ, j, h => by show (back ix ρ τ)[j]? = _; exact back_out ix ρ τ j fun z => h (List.mem_cons_of_mem _ z)
 | some i :: ix, ρ, [], j, _ => by unfold back; rfl
 | none :: ix, ρ, [], j, _ => by unfold back; rfl
theorem back_in : ∀ (ix : List (Option Nat)) (ρ τ : PSt) (j k : Nat), ixOk ix = true → ix[k]? = some (some j) → k < τ.length → j < ρ.length → (back ix ρ τ)[j]? = τ[k]?
 | some i :: ix, ρ, t :: τ, j, k, h, e, hk, hj => by
  have h : (!ix.contains (some i) && ixOk ix) = true := h
  rw [Bool.and_eq_true] at h
  show (back ix (ρ.set i t) τ)[j]? = _
  cases k with
  | zero =>
   have e : some (some i) = some (some j) := e
   cases e
   have hn : some i ∉ ix := fun z => by
    have := h.1
    rw [List.contains_iff_mem.mpr z] at this; cases this
   rw [back_out ix _ τ i hn, List.getElem?_set_self hj]; rfl
  | succ k =>
   have e : ix[k]? = some (some j) := by simpa using e
   rw [back_in ix _ τ j k h.2 e (by simpa using hk) (by rw [List.length_set]; exact hj)]; simp
 | none :: ix, ρ, t :: τ, j, k, h, e, hk, hj => by
  show (back ix ρ τ)[j]? = _
  cases k with
  | zero => cases e
  | succ k =>
   have e : ix[k]? = some (some j) := by simpa using e
   rw [back_in ix _ τ j k h e (by simpa using hk) hj]; simp
 | [], ρ, τ, j, k, h, e, hk, hj => by simp at e
 | some i :: ix, ρ, [], j, k, h, e, hk, hj => absurd hk (Nat.not_lt_zero _)
 | none :: ix, ρ, [], j, k, h, e, hk, hj => absurd hk (Nat.not_lt_zero _)
theorem ixOk_inj : ∀ {ix : List (Option Nat)} {k l j : Nat}, ixOk ix = true → ix[k]? = some (some j) → ix[l]? = some (some j) → k = l
 | some i :: ix, k, l, j, h, e1, e2 => by
  have h : (!ix.contains (some i) && ixOk ix) = true := h
  rw [Bool.and_eq_true] at h
  have no : ∀ m, ix[m]? ≠ some (some i) := fun m z => by
   have := h.1
   rw [List.contains_iff_mem.mpr (List.mem_of_getElem? z)] at this; cases this
  cases k with
  | zero =>
   have e1 : some (some i) = some (some j) := e1
   cases e1
   cases l with
   | zero => rfl
   | succ l => exact absurd (by simpa using e2) (no l)
  | succ k =>
   cases l with
   | zero =>
    have e2 : some (some i) = some (some j) := e2
    cases e2
    exact absurd (by simpa using e1) (no k)
   | succ l => rw [ixOk_inj (k := k) (l := l) h.2 (by simpa using e1) (by simpa using e2)]
 | none :: ix, k, l, j, h, e1, e2 => by
  cases k with
  | zero => cases e1
  | succ k =>
   cases l with
   | zero => cases e2
   | succ l => rw [ixOk_inj (ix := ix) (k := k) (l := l) (j := j) h (by simpa using e1) (by simpa using e2)]
 | [], k, l, j, h, e1, e2 => by simp at e1
theorem sub0P_get {ix : List (Option Nat)} {ρ : PSt} {k : Nat} {p : PV} (h : (sub0P ix ρ)[k]? = some (some p)) : ∃ j, ix[k]? = some (some j) ∧ ρ[j]? = some (some p) := by
 unfold sub0P at h
 rw [List.getElem?_map] at h
 cases e : ix[k]? with
 | none => rw [e] at h; cases h
 | some o =>
  rw [e] at h
  cases o with
  | none => cases h
  | some j =>
   refine ⟨j, rfl, ?_⟩
   have h : some (match ρ[j]? with | some v => v | none => none) = some (some p) := h
   cases e2 : ρ[j]? with
   | none => rw [e2] at h; cases h
   | some v => rw [e2] at h; exact h
theorem sub0_get {ix : List (Option Nat)} {σ : St} {k j : Nat} {v : V} (h : ix[k]? = some (some j)) (e : σ[j]? = some (some v)) : (sub0 ix σ)[k]? = some (some v) := by
 unfold sub0
 rw [List.getElem?_map, h]
 show some (match σ[j]? with | some v => v | none => none) = some (some v)
 rw [e]
theorem Rel.amb {K : PySem.W.Frag} {A : Addr → Prop} {ρ : PSt} {σ : St} {H : Hp} {a : Addr} {o : HO} (R : Rel K A ρ σ H) (ha : A a) : Rel K A ρ σ (upd H a o) := by
 have k : Keeps (OO A ρ σ) H (OO A ρ σ) (upd H a o) := fun b u n e => ⟨n, by rw [upd_ne (fun z => n (by rw [z]; exact .inl ha))]; exact e⟩
 refine ⟨R.len, fun i q e => ?_, R.dj, fun b z => ?_, R.sep⟩
 ·obtain ⟨v, s, r⟩ := R.get i q e
  refine ⟨v, s, r.keeps k fun ow b eb => ?_⟩
  rw [upd_ne]
  intro z
  subst z eb
  exact R.sep b ha ⟨i, q, e, ow, s⟩
 ·by_cases z' : b = a
  ·rw [z', upd_same]; exact nofun
  ·rw [upd_ne z']; exact R.dom b z
def capOk (ix : List (Option Nat)) (ρ : PSt) : Bool := ix.all fun o => match o with | none => true | some j => (match ρ[j]? with | some (some _) => true | _ => false)
structure CompG (ix : List (Option Nat)) (ρ1 : PSt) (n : Nat) (it : Nat → D) (g : PTG) (pt : PTT) (pe : PTE) (Q : PKt) : Prop where
 ex : ∃ I : Nat → List D → PSt → Prop, I 0 [] (sub0P ix ρ1) ∧
  (∀ k ys τ d, k < n → d = it k → I k ys τ → g (.dat d) τ fun τ2 => pt τ2 fun ok τ3 => PIte ok (pe τ3 fun p τ4 => I (k + 1) (ys ++ [p.d]) τ4) (I (k + 1) ys τ3)) ∧ ∀ ys τ, I n ys τ → Q (.own ys) (back ix ρ1 τ)
def pComp (ix : List (Option Nat)) (pi : PTI) (g : PTG) (pt : PTT) (pe : PTE) : PTE := fun ρ Q => pi ρ fun n it ρ1 => capOk ix ρ1 = true ∧ n ≤ 1000000 ∧ CompG ix ρ1 n it g pt pe Q
def pYes : PTT := fun ρ Q => Q true ρ
theorem lt_yes {K : PySem.W.Frag} : LT K tYes pYes := fun A ρ σ H Q Q' R q k => k true H ρ q (Fr.refl _ _ _) R
def capt (ix : List (Option Nat)) : List Nat := (List.range ix.length).filter fun k => (ix.getD k none).isSome
theorem le_comp {K : PySem.W.Frag} {ix : List (Option Nat)} {wi : TI} {pi : PTI} {g : TG} {pg : PTG} {tts : TT} {pt : PTT} {te : TE} {pe : PTE} (hix : ixOk ix = true) (hi : LI K wi pi) (hg : ∀ fs : List Nat, (∀ k ∈ fs, k ∈ capt ix) → LGd K fs g pg) (ht : LT K tts pt) (he : LE K te pe) :
  LE K (tComp ix wi g tts te) (pComp ix pi pg pt pe) := fun A ρ σ H Q Q' R q k => hi A ρ σ H _ _ R q fun J H1 n it ρ1 q1 f1 R1 W D hD => by
 obtain ⟨hcap, hn, ⟨I, i0, turn, after⟩⟩ := q1
 let τρ0 := sub0P ix ρ1
 let τσ0 := sub0 ix σ
 let Ai : Addr → Prop := fun b => A b ∨ b = D ∨ (Wr ρ1 σ b ∧ ¬ Wr τρ0 τσ0 b)
 let H0' := upd H1 D (.lst [])
 have wsub : ∀ b, Wr τρ0 τσ0 b → Wr ρ1 σ b := fun b ⟨m, p, e, o, s⟩ => by
  obtain ⟨j, h1, h2⟩ := sub0P_get e
  obtain ⟨v, hv, _⟩ := R1.get j p h2
  have := sub0_get h1 hv
  rw [s] at this
  cases this
  exact ⟨j, p, h2, o, hv⟩
 have nD : ¬ Wr ρ1 σ D := fun z => R1.wr z hD
 have oosub : ∀ b, OO Ai τρ0 τσ0 b → OO A ρ1 σ b ∨ b = D := fun b z => by
  rcases z with (z | z | z) | z
  ·exact .inl (.inl z)
  ·exact .inr z
  ·exact .inl (.inr z.1)
  ·exact .inl (.inr (wsub b z))
 have kD : Keeps (OO A ρ1 σ) H1 (OO Ai τρ0 τσ0) H0' := fun b o nn e => by
  refine ⟨fun z => ?_, ?_⟩
  ·rcases oosub b z with z | z
   ·exact nn z
   ·rw [z, hD] at e; cases e
  ·rw [show H0' b = H1 b from upd_ne (ne_of_none e hD)]; exact e
 have Ri : Rel K Ai τρ0 τσ0 H0' := by
  refine ⟨by show (sub0P ix ρ1).length = (sub0 ix σ).length; unfold sub0P sub0; rw [List.length_map, List.length_map], fun m p e => ?_, fun m l p q v e1 e2 o1 o2 s1 s2 => ?_, fun b z => ?_, fun b z w => ?_⟩
  ·obtain ⟨j, h1, h2⟩ := sub0P_get e
   obtain ⟨v, hv, r⟩ := R1.get j p h2
   refine ⟨v, sub0_get h1 hv, r.keeps kD fun ow a ea => ?_⟩
   subst ea
   exact upd_ne (fun z => nD (by rw [← z]; exact ⟨j, p, h2, ow, hv⟩))
  ·obtain ⟨j, h1, h2⟩ := sub0P_get e1
   obtain ⟨j', h3, h4⟩ := sub0P_get e2
   obtain ⟨v1, hv1, _⟩ := R1.get j p h2
   obtain ⟨v2, hv2, _⟩ := R1.get j' q h4
   have t1 := sub0_get h1 hv1
   have t2 := sub0_get h3 hv2
   rw [s1] at t1
   rw [s2] at t2
   cases t1
   cases t2
   have := R1.dj j j' p q _ h2 h4 o1 o2 hv1 hv2
   subst this
   exact ixOk_inj hix h1 h3
  ·rcases z with z | z | z
   ·intro e
    by_cases zz : b = D
    ·exact R1.dom b z (by rw [zz]; exact hD)
    ·rw [show H0' b = H1 b from upd_ne zz] at e; exact R1.dom b z e
   ·rw [z]; show upd H1 D _ D ≠ none; rw [upd_same]; exact nofun
   ·intro e
    rw [show H0' b = H1 b from upd_ne (fun zz => nD (by rw [← zz]; exact z.1))] at e; exact R1.wr z.1 e
  ·rcases z with z | z | z
   ·exact R1.sep b z (wsub b w)
   ·rw [z] at w; exact nD (wsub D w)
   ·exact z.2 w
 let fxi : List (Nat × V) := (capt ix).filterMap fun m => match (τσ0[m]?) with | some (some v) => some (m, v) | _ => none
 have hfx : ∀ p ∈ fxi, τσ0[p.1]? = some (some p.2) := fun p hp => by
  obtain ⟨m, hm, e⟩ := List.mem_filterMap.mp hp
  split at e
  ·rename_i v ev; cases e; exact ev
  ·cases e
 have hfs : ∀ m ∈ fxi.map Prod.fst, m ∈ capt ix := fun m hm => by
  obtain ⟨p, hp, rfl⟩ := List.mem_map.mp hm
  obtain ⟨m', hm', e⟩ := List.mem_filterMap.mp hp
  split at e
  ·cases e; exact hm'
  ·cases e
 have hgi := hg (fxi.map Prod.fst) hfs
 have fxget : ∀ (m j : Nat) (v : V), ix[m]? = some (some j) → σ[j]? = some (some v) → (m, v) ∈ fxi := fun m j v h1 h2 => by
  refine List.mem_filterMap.mpr ⟨m, ?_, ?_⟩
  ·unfold capt
   refine List.mem_filter.mpr ⟨List.mem_range.mpr (List.getElem?_eq_some_iff.mp h1).1, ?_⟩
   rw [List.getD_eq_getElem?_getD, h1]; rfl
  ·show (match (sub0 ix σ)[m]? with | some (some v) => some (m, v) | _ => none) = _
   rw [sub0_get h1 h2]
 let Rr : Addr → Prop := fun b => Wr τρ0 τσ0 b ∨ b = D
 have hRr : ∀ b, Rr b → OO Ai τρ0 τσ0 b := fun b z => z.elim (fun z => .inr z) (fun z => .inl (.inr (.inl z)))
 have F0 : RelF fxi Rr H0' τρ0 τσ0 H0' := ⟨fun _ _ _ h => h, fun _ h => h, fun b w => .inl (.inl w), hfx⟩
 refine ⟨fun i m τ H2 => i + m = n ∧ ∃ ys τρ xs, I i ys τρ ∧ ys.length ≤ i ∧ Rel K Ai τρ τ H2 ∧ RelF fxi Rr H0' τρ τ H2 ∧ H2 D = some (.lst xs) ∧ FVs K (OO Ai τρ τ) H2 xs ys ∧ ∀ b, Wr τρ τ b → Wr τρ0 τσ0 b,
  ⟨n, Nat.zero_add n, [], τρ0, [], i0, Nat.le_refl _, Ri, F0, upd_same, .nil, fun _ h => h⟩, fun i m τ H2 ⟨him, ys, τρ, xs, iv, hy, r2, F2, eD, fD, hw⟩ => ?_⟩
 have kk : Keeps (OO A ρ1 σ) H1 (OO Ai τρ τ) H2 := fun b o nn e => (F2.keepsR hRr) b o (kD b o nn e).1 (kD b o nn e).2
 obtain ⟨go, stop⟩ := W _ H2 kk r2.dom2
 by_cases hk : i < n
 ·obtain ⟨g1, g2⟩ := go i hk
  refine .inr ⟨g1, fun x H3 y => ?_⟩
  obtain ⟨gr, fv⟩ := g2 x H3 y
  have AiD : Ai D := .inr (.inl rfl)
  refine hgi fxi Ai Rr H0' τρ τ H3 _ x _ _ rfl (F2.fr gr.fr) (r2.gr gr) fv (turn i ys τρ _ hk rfl iv) fun τρ2 τ2 q2 r3 F3 w3 => ?_
  refine ht Ai τρ2 τ2 H3 _ _ r3 q2 fun ok H5 τρ3 q3 f5 r5 => ?_
  have F5 := F3.fr f5
  have fD5 : FVs K (OO Ai τρ3 τ2) H5 xs ys := ((fD.keeps (gr.fr (ρ := τρ) (σ := τ)).keeps).keeps (Keeps.less fun b z => z.imp id (w3 b))).keeps f5.keeps
  have eD5 : H5 D = some (.lst xs) := f5.kp D _ (r3.sep D AiD) (gr D _ eD)
  cases ok with
  | true =>
   refine he Ai τρ3 τ2 H5 _ _ r5 q3 fun v H6 p τρ4 q4 f6 o6 => ?_
   obtain ⟨r6, fv6⟩ := o6.frz
   have F6 := F5.fr f6
   have eD6 : H6 D = some (.lst xs) := f6.kp D _ (r5.sep D AiD) eD5
   have kw : Keeps (OO Ai τρ4 τ2) H6 (OO Ai τρ4 τ2) (upd H6 D (.lst (xs ++ [v]))) := fun b o nn e => ⟨nn, by rw [upd_ne (fun z => nn (by rw [z]; exact .inl AiD))]; exact e⟩
   refine ⟨xs, eD6, ?_, m - 1, by omega, by omega, ys ++ [p.d], τρ4, xs ++ [v], q4, by rw [List.length_append]; show _ + 1 ≤ _; omega, r6.amb AiD, ⟨fun b o nn e => ?_, fun b z => ?_, F6.ow, F6.fx⟩, upd_same, ((fD5.keeps f6.keeps).append (.cons fv6 .nil)).keeps kw, fun b z => hw b (w3 b (f5.ow b (f6.ow b z)))⟩
   ·have : xs.length = ys.length := fD.length
    exact Nat.lt_of_lt_of_le (by omega : xs.length < 1000000) (sz _ (Nat.le_refl _))
   ·rw [upd_ne (fun z => nn (.inr z))]; exact F6.kp b o nn e
   ·by_cases zz : b = D
    ·rw [zz, upd_same]; exact nofun
    ·rw [upd_ne zz]; exact F6.dm b z
  | false => exact ⟨m - 1, by omega, by omega, ys, τρ3, xs, q3, by omega, r5, F5, eD5, fD5, fun b z => hw b (w3 b (f5.ow b z))⟩
 ·have e : i = n := by omega
  subst e
  refine .inl ⟨stop, ?_⟩
  have q' := after ys τρ iv
  have cap : ∀ (m j : Nat), ix[m]? = some (some j) → ∃ p v, ρ1[j]? = some (some p) ∧ σ[j]? = some (some v) ∧ τ[m]? = some (some v) := fun m j e => by
   have h1 := List.all_eq_true.mp hcap _ (List.mem_of_getElem? e)
   have h1 : (match ρ1[j]? with | some (some _) => true | _ => false) = true := h1
   split at h1
   ·rename_i p ep
    obtain ⟨v, hv, _⟩ := R1.get j p ep
    exact ⟨p, v, ep, hv, F2.fx _ (fxget m j v e hv)⟩
   ·cases h1
  have get' : ∀ (j : Nat) (p : PV), (back ix ρ1 τρ)[j]? = some (some p) → (∃ m v, ix[m]? = some (some j) ∧ σ[j]? = some (some v) ∧ τ[m]? = some (some v) ∧ τρ[m]? = some (some p)) ∨ (some j ∉ ix ∧ ρ1[j]? = some (some p)) := fun j p e => by
   by_cases hj : some j ∈ ix
   ·obtain ⟨m, hm, em⟩ := List.getElem_of_mem hj
    have em' : ix[m]? = some (some j) := by rw [List.getElem?_eq_getElem hm, em]
    obtain ⟨p0, v, h1, h2, h3⟩ := cap m j em'
    rw [back_in ix ρ1 τρ j m hix em' (by rw [r2.len]; exact (List.getElem?_eq_some_iff.mp h3).1) (List.getElem?_eq_some_iff.mp h1).1] at e
    exact .inl ⟨m, v, em', h2, h3, e⟩
   ·rw [back_out ix ρ1 τρ j hj] at e
    exact .inr ⟨hj, e⟩
  have nocap : ∀ (j : Nat) (p : PV) (b : Addr), some j ∉ ix → ρ1[j]? = some (some p) → p.isOwn = true → σ[j]? = some (some (.ref b)) → ¬ Wr τρ0 τσ0 b := fun j p b hj e o s ⟨m, q, e1, o1, s1⟩ => by
   obtain ⟨j', h1, h2⟩ := sub0P_get e1
   obtain ⟨v, hv, _⟩ := R1.get j' q h2
   have := sub0_get h1 hv
   rw [s1] at this
   cases this
   have := R1.dj j j' p q _ e h2 o o1 s hv
   subst this
   exact hj (List.mem_of_getElem? h1)
  have w' : ∀ b, Wr (back ix ρ1 τρ) σ b → Wr τρ τ b ∨ (Wr ρ1 σ b ∧ ¬ Wr τρ0 τσ0 b) := fun b ⟨j, p, e, o, s⟩ => by
   rcases get' j p e with ⟨m, v, h1, h2, h3, h4⟩ | ⟨hj, h1⟩
   ·rw [s] at h2; cases h2; exact .inl ⟨m, p, h4, o, h3⟩
   ·exact .inr ⟨⟨j, p, h1, o, s⟩, nocap j p b hj h1 o s⟩
  have oo' : ∀ b, OO (plus A D) (back ix ρ1 τρ) σ b → OO Ai τρ τ b := fun b z => by
   rcases z with (z | z) | z
   ·exact .inl (.inl z)
   ·exact .inl (.inr (.inl z))
   ·rcases w' b z with z | z
    ·exact .inr z
    ·exact .inl (.inr (.inr z))
  have kp1 : ∀ b o, ¬ Wr τρ0 τσ0 b → b ≠ D → H1 b = some o → H2 b = some o := fun b o n1 n2 e => F2.kp b o (fun z => z.elim n1 n2) (by rw [show H0' b = H1 b from upd_ne n2]; exact e)
  have k1 : Keeps (OO A ρ1 σ) H1 (OO (plus A D) (back ix ρ1 τρ) σ) H2 := fun b o nn e => ⟨fun z => (kk b o nn e).1 (oo' b z), (kk b o nn e).2⟩
  have AiD : Ai D := .inr (.inl rfl)
  have R' : Rel K (plus A D) (back ix ρ1 τρ) σ H2 := by
   refine ⟨by rw [back_len]; exact R1.len, fun j p e => ?_, fun j l p q v e1 e2 o1 o2 s1 s2 => ?_, fun b z => ?_, fun b z w => ?_⟩
   ·rcases get' j p e with ⟨m, v, h1, h2, h3, h4⟩ | ⟨hj, h1⟩
    ·obtain ⟨v', hv', r⟩ := r2.get m p h4
     rw [h3] at hv'; cases hv'
     exact ⟨v, h2, r.keeps (Keeps.less oo') fun _ _ _ => rfl⟩
    ·obtain ⟨v, hv, r⟩ := R1.get j p h1
     refine ⟨v, hv, r.keeps k1 fun ow a ea => ?_⟩
     subst ea
     obtain ⟨a', u, e1, e2⟩ := r.ref ow
     cases e1
     rw [e2]
     exact kp1 a u (nocap j p a hj h1 ow hv) (fun z => by rw [z, hD] at e2; cases e2) e2
   ·rcases get' j p e1 with ⟨m, v1, h1, h2, h3, h4⟩ | ⟨hj, h1⟩
    ·rw [s1] at h2; cases h2
     rcases get' l q e2 with ⟨m', v2, g1, g2, g3, g4⟩ | ⟨hl, g1⟩
     ·rw [s2] at g2; cases g2
      have := r2.dj m m' p q _ h4 g4 o1 o2 h3 g3
      subst this
      rw [h1] at g1; cases g1; rfl
     ·exfalso
      obtain ⟨v', hv', r⟩ := r2.get m p h4
      rw [h3] at hv'; cases hv'
      obtain ⟨a, u, ea, _⟩ := r.ref o1
      subst ea
      exact nocap l q a hl g1 o2 s2 (hw a ⟨m, p, h4, o1, h3⟩)
    ·rcases get' l q e2 with ⟨m', v2, g1, g2, g3, g4⟩ | ⟨hl, g1⟩
     ·rw [s2] at g2; cases g2
      exfalso
      obtain ⟨v', hv', r⟩ := r2.get m' q g4
      rw [g3] at hv'; cases hv'
      obtain ⟨a, u, ea, _⟩ := r.ref o2
      subst ea
      exact nocap j p a hj h1 o1 s1 (hw a ⟨m', q, g4, o2, g3⟩)
     ·exact R1.dj j l p q v h1 g1 o1 o2 s1 s2
   ·rcases z with z | z
    ·exact r2.dom b (.inl z)
    ·rw [z, eD]; exact nofun
   ·rcases w' b w with w | w
    ·rcases z with z | z
     ·exact r2.sep b (.inl z) w
     ·rw [z] at w; exact r2.sep D AiD w
    ·rcases z with z | z
     ·exact R1.sep b z w.1
     ·rw [z] at w; exact nD w.1
  have f2 : Fr ρ1 σ H1 (back ix ρ1 τρ) H2 := by
   refine ⟨fun b o nn e => kp1 b o (fun z => nn (wsub b z)) (fun z => by rw [z, hD] at e; cases e) e, fun b z => F2.dm b ?_, fun b z => ?_⟩
   ·intro e
    by_cases zz : b = D
    ·exact z (by rw [zz]; exact hD)
    ·rw [show H0' b = H1 b from upd_ne zz] at e; exact z e
   ·rcases w' b z with z | z
    ·exact wsub b (hw b z)
    ·exact z.1
  have hD0 : H D = none := by
   cases e : H D with
   | none => rfl
   | some o => exact absurd hD (f1.dm D (by rw [e]; exact nofun))
  exact k _ H2 (.own ys) _ q' (f1.trans f2) ⟨D, xs, rfl, fun z => R1.dom D z hD, hD0, eD, R', fD.keeps (Keeps.less oo')⟩
end L2
namespace L2
open PySem PySem.Spec PyProof.Rows
section
variable {K : PySem.W.Frag} {A A' : Addr → Prop} {ρ : PSt} {σ : St} {H H' : Hp}
end
section
variable {K : PySem.W.Frag} {te tk : TE} {pe pk : PTE} {fs : List Nat}
end
def spP (K : PySem.W.Frag) (c : FN) : Sp := fun vs H Q _ => ∃ (O : Addr → Prop) (ds : List D) (Qc : PV → Prop), (∀ b, O b → H b ≠ none) ∧ FVs K O H vs ds ∧ c ds Qc ∧ ∀ r, Qc r → ∀ v H', Gr H H' → OutV K O H H' r v → Q v H'
def pCallP (c : FN) (pr : PTA) : PTE := fun ρ Q => pr ρ fun as ρ1 => match avD as with
 | some ds => c ds fun r => Q r ρ1
 | none => False
theorem start_get {N : List Str} {vs : List V} {i : Nat} {v : V} (h : vs[i]? = some v) : (start N vs)[i]? = some (some v) := by
 unfold start
 rw [List.getElem?_append_left (by rw [List.length_map]; exact (List.getElem?_eq_some_iff.mp h).1), List.getElem?_map, h]; rfl
def begin_ (n : Nat) (ps : List PV) : PSt := ps.map some ++ List.replicate (n - ps.length) none
theorem begin_get {n : Nat} {ps : List PV} {i : Nat} {p : PV} (h : (begin_ n ps)[i]? = some (some p)) : ps[i]? = some p := by
 unfold begin_ at h
 by_cases hi : i < ps.length
 ·rw [List.getElem?_append_left (by rw [List.length_map]; exact hi), List.getElem?_map] at h
  cases e : ps[i]? with
  | none => rw [e] at h; cases h
  | some q => rw [e] at h; cases h; rfl
 ·rw [List.getElem?_append_right (by rw [List.length_map]; omega)] at h
  have := List.mem_of_getElem? h
  rw [List.mem_replicate] at this
  cases this.2
section
variable {K : PySem.W.Frag} {tr : TA} {pr : PTA} {ts : TS} {ps : PTS}
theorem le_callP {c : FN} (h : LAs K tr pr) : LE K (tCall (spP K c) [] E0 tr) (pCallP c pr) := fun A ρ σ H Q Q' R q k => h A ρ σ H _ _ R q fun vs H1 as ρ1 q1 f1 R1 o1 => by
 split at q1
 ·rename_i ds e
  rw [List.append_nil]
  exact ⟨OO A ρ1 σ, ds, _, R1.dom2, o1.avD e, q1, fun r qr v H' g ov => k v H' r ρ1 qr (f1.trans g.fr) ((ov.out R1 g).h0 f1.dm)⟩
 ·exact q1.elim
theorem Out.outV {O : Addr → Prop} {ρ : PSt} {σ : St} {H H' : Hp} {p : PV} {v : V} (h : Out K O ρ σ H H' p v) : OutV K O H H' p v := by
 cases p with
 | dat d => exact h.2.keeps (Keeps.less fun b z => .inl z)
 | own ds =>
  obtain ⟨a, xs, e1, na, e2, e3, R, f⟩ := h
  exact ⟨a, xs, e1, e2, e3, f.keeps (Keeps.less fun b z => .inl z)⟩
 | ins c ns ds =>
  obtain ⟨a, dx, fs, e1, na, e2, e3, m, R, f⟩ := h
  exact ⟨a, dx, fs, e1, e2, e3, m, f.keeps (Keeps.less fun b z => .inl z)⟩
theorem fnP {c : FN} {N : List Str} (hl : LS K [] ts ps) (hn : ∀ ds Q, c ds Q → ds.length ≤ N.length) (hc : ∀ ds Q, c ds Q → ps { nx := fun _ => Q (.dat .non), rt := fun p _ => Q p } (begin_ N.length (ds.map .dat)))
  {vs : List V} {H : Hp} {Q : VK} {E : XK} (h : spP K c vs H Q E) : ts { nx := fun _ H' => Q .non H', rt := Q } (start N vs) H := by
 obtain ⟨O, ds, Qc, dom, fv, hq, k⟩ := h
 have nw : ∀ (ρ : PSt) (b : Addr), ρ = begin_ N.length (ds.map .dat) → ¬ Wr ρ (start N vs) b := fun ρ b e ⟨i, p, e1, o1, s1⟩ => by
  rw [e] at e1
  have := begin_get e1
  rw [List.getElem?_map] at this
  cases e2 : ds[i]? with
  | none => rw [e2] at this; cases this
  | some d => rw [e2] at this; cases this; cases o1
 have lenv := fv.length
 have hle := hn ds Qc hq
 have R0 : Rel K O (begin_ N.length (ds.map .dat)) (start N vs) H := by
  refine ⟨?_, fun i p e => ?_, fun i j p q v e1 e2 o1 o2 s1 s2 => ?_, dom, fun b _ w => nw _ b rfl w⟩
  ·unfold begin_ start
   rw [List.length_append, List.length_append, List.length_map, List.length_map, List.length_map, List.length_replicate, List.length_replicate, lenv]
  ·have := begin_get e
   rw [List.getElem?_map] at this
   cases e2 : ds[i]? with
   | none => rw [e2] at this; cases this
   | some d =>
    rw [e2] at this; cases this
    obtain ⟨v, hv, f⟩ := fv.getD e2
    exact ⟨v, start_get hv, f.keeps (Keeps.less fun b z => z.elim id fun w => absurd w (nw _ b rfl))⟩
  ·have := begin_get e1
   rw [List.getElem?_map] at this
   cases e3 : ds[i]? with
   | none => rw [e3] at this; cases this
   | some d => rw [e3] at this; cases this; cases o1
 refine hl [] O (fun _ => False) H _ _ H _ _ rfl R0 ⟨fun _ _ _ h => h, fun _ h => h, fun b w => absurd w (nw _ b rfl), fun p hp => nomatch hp⟩ (hc ds Qc hq) (fun ρ' σ' H' q r F => ?_) (fun v p ρ' σ' H' q o F => ?_) (fun _ _ _ z => z.elim) (fun _ _ _ z => z.elim)
 ·exact k _ q .non H' (fun b o e => F.kp b o id e) .non
 ·exact k _ q v H' (fun b o e => F.kp b o id e) o.outV
end
def cLaw : FN := fun as Q => ∃ ns : List Int, as = [.scr ns] ∧ ns.length ≤ 63 ∧ Q (.dat (.bl true))
theorem spLaw_P {K : PySem.W.Frag} {vs : List V} {H : Hp} {Q : VK} {E : XK} (h : spLaw K vs H Q E) : spP K cLaw vs H Q E := by
 obtain ⟨a, ns, rfl, hS, h63, q⟩ := h
 refine ⟨fun _ => False, [.scr ns], fun r => r = .dat (.bl true), nofun, .cons (.scr ?_) .nil, ⟨ns, rfl, h63, rfl⟩, fun r e v H' g o => ?_⟩
 ·rcases hS with h | h
  ·exact .inl ⟨id, h⟩
  ·exact .inr h
 ·subst e
  cases o
  exact q H'
end L2
namespace L2
open PySem PySem.Spec PyProof.Rows
section
variable {K : PySem.W.Frag} {X : Cx}
variable {ta : TE} {pa : PA1} {tr : TA} {pr : PTA} {pe : PTE}
def nameIx (f : Str) : List Str → Option Nat
 | [] => none
 | n :: r => if n = f then some 0 else (nameIx f r).map (· + 1)
theorem lookup_ix {f : Str} : ∀ {fs : List (Str × V)} {k : Nat}, nameIx f (fs.map Prod.fst) = some k → fs.lookup f = (fs.map Prod.snd)[k]?
 | [], k, h => by cases h
 | (n, v) :: r, k, h => by
  unfold nameIx at h
  rw [List.map_cons] at h
  simp only at h
  rw [List.lookup_cons]
  by_cases e : n = f
  ·rw [if_pos e] at h; cases h
   rw [show (f == n) = true by rw [e]; exact beq_self_eq_true _]; rfl
  ·rw [if_neg e] at h
   rw [show (f == n) = false from beq_eq_false_iff_ne.mpr fun z => e z.symm]
   cases e2 : nameIx f (r.map Prod.fst) with
   | none => rw [e2] at h; cases h
   | some j => rw [e2] at h; cases h; show List.lookup f r = _; rw [lookup_ix e2]; simp
end
end L2
namespace L2
open PySem PySem.Spec PyProof.Rows
abbrev rSubU : R2 := rI0 fun i j => .int (i - j)
abbrev rModU : R2 := rI (fun _ j => 0 < j) fun i j => .int (i % j)
abbrev rPowU : R2 := rI CPow fun i j => .int (i ^ j.toNat)
abbrev rGtU : R2 := rI0 fun i j => .bl (decide (j < i))
abbrev fSub : F2 := fI0 fun i j => .int (i - j)
abbrev fMod : F2 := fI (fun _ j => 0 < j) fun i j => .int (i % j)
abbrev fPow : F2 := fI (fun i j => 0 ≤ j ∧ j ≤ 1000000 ∧ i.natAbs < 2 ^ 64) fun i j => .int (i ^ j.toNat)
abbrev fGt : F2 := fI0 fun i j => .bl (decide (j < i))
section
variable {K : PySem.W.Frag} {X : Cx} {ta : TE} {tr : TA} {pr : PTA} {ts : TS} {ps : PTS}
theorem u_sub : OpR X (binaryOp .Sub) rSubU := op_sub
theorem u_mod : OpR X (binaryOp .Mod) rModU := op_mod
theorem u_pow : OpR X (binaryOp .Pow) rPowU := op_pow
theorem u_gt : OpR X (compareOp .Gt) rGtU := op_gt
theorem pi_enumK {es : List Expr} {ct : Nat} {tp : Pos} (K : PySem.W.Frag) (e : X.K = K) {a : Expr} {ta : TA} {p pos : Pos} (hg : Gl X "enumerate") (hm : X.mg "enumerate" = none) (ha : PA X [a] ta) (hs : starEach [a] X.env = [(false, eval a X.env)] := by rfl) :
  PI X (.Tuple es ct tp) (.Call (.Name "enumerate" p) [a] [] pos) (iEnum K ta) := by subst e; exact pi_enum hg hm ha hs
theorem ncap {ix : List (Option Nat)} {fs : List Nat} {i : Nat} (h : ∀ k ∈ fs, k ∈ capt ix) (hi : (capt ix).contains i = false) : fs.contains i = false := by
 cases e : fs.contains i with
 | false => rfl
 | true =>
  have := h i (List.contains_iff_mem.mp e)
  rw [List.contains_iff_mem.mpr this] at hi; cases hi
theorem lenP {c : FN} {n : Nat} (hn : ∀ ds Q, c ds Q → ds.length = n) {vs : List V} {H : Hp} {Q : VK} {E : XK} (h : spP K c vs H Q E) : vs.length = n := by
 obtain ⟨O, ds, Qc, _, f, hq, _⟩ := h
 rw [f.length]; exact hn ds Qc hq
abbrev RunP (pp : PTS) (n : Nat) (ds : List D) (Q : PV → Prop) : Prop := pp { nx := fun _ => Q (.dat .non), rt := fun p _ => Q p } (begin_ n (ds.map .dat))
end
end L2
namespace L2
theorem Cal.imp {P : PySem.Program} {w : PySem.World} {K : PySem.W.Frag} {mg : PySem.Str → Option PySem.Value} {base : PySem.Heap} {k : Nat} {x : PySem.Str} {ps : List PySem.Str} {sp sp' : Sp} (C : Cal P w K mg base k x ps sp) (h : ∀ vs H Q E, sp' vs H Q E → sp vs H Q E) : Cal P w K mg base k x ps sp' := by
 obtain ⟨f, fd, F, r⟩ := C.ex
 exact ⟨f, fd, F.imp h, r⟩
end L2
namespace L2
open PySem PySem.Spec PyProof.Rows
section
variable {K : PySem.W.Frag} {X : Cx}
end
end L2
namespace L2
open PySem PySem.Spec PyProof.Rows
theorem cfm {ix : List (Option Nat)} {ρ1 : PSt} {n : Nat} {it : Nat → D} {g : PTG} {pt : PTT} {pe : PTE} {Q : PKt} (T : PSt → Prop) (f : Nat → Option D) (h0 : T (sub0P ix ρ1))
  (hs : ∀ k τ d, k < n → d = it k → T τ → ∀ (K1 : D → PSt → Prop) (K2 : PSt → Prop), (∀ d τ', f k = some d → T τ' → K1 d τ') → (∀ τ', f k = none → T τ' → K2 τ') → g (.dat d) τ fun τ2 => pt τ2 fun ok τ3 => PIte ok (pe τ3 fun p τ4 => K1 p.d τ4) (K2 τ3))
  (hq : ∀ τ, T τ → Q (.own ((List.range n).filterMap f)) (back ix ρ1 τ)) :
  CompG ix ρ1 n it g pt pe Q := by
 refine ⟨fun k ys τ => ys = (List.range k).filterMap f ∧ T τ, ⟨rfl, h0⟩, fun k ys τ dd hk ed ⟨e, t⟩ => ?_, fun ys τ ⟨e, t⟩ => by rw [e]; exact hq τ t⟩
 have r : (List.range (k + 1)).filterMap f = (List.range k).filterMap f ++ (f k).toList := by
  rw [List.range_succ, List.filterMap_append]
  cases e : f k with
  | none => rw [show [k].filterMap f = [] by simp [e]]; rfl
  | some d => rw [show [k].filterMap f = [d] by simp [e]]; rfl
 refine hs k τ dd hk ed t (fun d τ' => (ys ++ [d] = (List.range (k + 1)).filterMap f ∧ T τ')) (fun τ' => (ys = (List.range (k + 1)).filterMap f ∧ T τ')) (fun d τ' h t' => ⟨?_, t'⟩) (fun τ' h t' => ⟨?_, t'⟩)
 ·rw [r, e, h]; rfl
 ·rw [r, e, h]; simp
theorem cmap {ix : List (Option Nat)} {ρ1 : PSt} {n : Nat} {it : Nat → D} {g : PTG} {pe : PTE} {Q : PKt} (T : PSt → Prop) (f : Nat → D) (h0 : T (sub0P ix ρ1))
  (hs : ∀ k τ d, k < n → d = it k → T τ → ∀ K1 : D → PSt → Prop, (∀ τ', T τ' → K1 (f k) τ') → g (.dat d) τ fun τ2 => pe τ2 fun p τ4 => K1 p.d τ4)
  (hq : ∀ τ, T τ → Q (.own ((List.range n).map f)) (back ix ρ1 τ)) :
  CompG ix ρ1 n it g pYes pe Q := by
 refine cfm T (fun k => some (f k)) h0 (fun k τ d hk ed t K1 K2 k1 k2 => ?_) fun τ t => ?_
 ·exact hs k τ d hk ed t K1 fun τ' t' => k1 _ τ' rfl t'
 ·have : (List.range n).filterMap (fun k => some (f k)) = (List.range n).map f := by rw [← List.filterMap_eq_map]; rfl
  rw [this]; exact hq τ t
theorem itD_int {ns : List Int} {k : Nat} (h : k < (ns.map D.int).length) : itD (ns.map D.int) k = .int (ns.getD k 0) := itD_of (by
 have h : k < ns.length := by rwa [List.length_map] at h
 rw [List.getElem?_map, List.getD_eq_getElem?_getD, List.getElem?_eq_getElem h]; rfl)
theorem pys_int : ∀ ns : List Int, D.pys (ns.map .int) = ns.map PyData.int
 | [] => rfl
 | n :: r => by rw [List.map_cons, List.map_cons, ← pys_int r]; rfl
theorem plains_int : ∀ ns : List Int, D.plains (ns.map .int) = true
 | [] => rfl
 | n :: r => by rw [List.map_cons]; show (true && D.plains (r.map .int)) = true; rw [plains_int r]; rfl
def Sh (d : D) : Prop := d.plain = true ∧ SeqAt.shaped d.py = true
theorem EqOk.of {a b : D} (h : Sh a) (h' : Sh b) : EqOk a b := ⟨h.1, h'.1, h.2, h'.2⟩
theorem Sh.lstI (ns : List Int) : Sh (.lst (ns.map .int)) := ⟨plains_int ns, by show SeqAt.shaped (.list (D.pys _)) = true; rw [pys_int]; exact (Flat.list (flat_ints ns)).shaped (by decide)⟩
theorem deq_self {d : D} (h : Sh d) : deq d d = true := eqv_same h.2
end L2
namespace L2
open PySem PySem.Spec PyProof.Rows
section
variable {K : PySem.W.Frag} {X : Cx}
end
end L2
namespace L2
open PySem PySem.Spec PyProof.Rows
section
variable {X : Cx} {K : PySem.W.Frag}
def rEqDic (neg : Bool) : R2 := fun x y H Q => ∃ a b, x = .ref a ∧ y = .ref b ∧ H a = some (.dK []) ∧ H b = some (.dK []) ∧ Q (.bl (!neg)) H
theorem op_eqDic (hu : X.A.units + 64 < cLine) : OpR X (compareOp .Eq) (rEqDic false) := by
 intro pins s σ H x y v u Q I rx ry ⟨a, b, e1, e2, h1, h2, q⟩
 subst e1 e2
 cases rx
 cases ry
 obtain ⟨_, y1, vs, r1, p1⟩ := (show ObjOk X.prog X.w H s.heap a (.dK []) from I.hok a _ h1)
 obtain ⟨_, y2, ws, r2, p2⟩ := (show ObjOk X.prog X.w H s.heap b (.dK []) from I.hok b _ h2)
 cases r1
 cases r2
 exact PySem.W.keq_eq (r := true) y1 y2 p1 p2 (by omega) (fun _ => .nil) ⟨.bl true, H, I, rfl, q⟩
theorem op_neDic (hu : X.A.units + 64 < cLine) : OpR X (compareOp .NotEq) (rEqDic true) := by
 intro pins s σ H x y v u Q I rx ry ⟨a, b, e1, e2, h1, h2, q⟩
 subst e1 e2
 cases rx
 cases ry
 obtain ⟨_, y1, vs, r1, p1⟩ := (show ObjOk X.prog X.w H s.heap a (.dK []) from I.hok a _ h1)
 obtain ⟨_, y2, ws, r2, p2⟩ := (show ObjOk X.prog X.w H s.heap b (.dK []) from I.hok b _ h2)
 cases r1
 cases r2
 exact PySem.W.keq_ne (r := true) y1 y2 p1 p2 (by omega) (fun _ => .nil) ⟨.bl false, H, I, rfl, q⟩
def rEqU2 (K : PySem.W.Frag) (neg : Bool) : R2 := fun x y H Q => rEqU K neg x y H Q ∨ rEqDic neg x y H Q
theorem u_eq2 (K : PySem.W.Frag) (e : X.K = K) (hu : X.A.units + 64 < cLine) : OpR X (compareOp .Eq) (rEqU2 K false) := OpR.or (u_eq K e hu) (op_eqDic hu)
theorem u_ne2 (K : PySem.W.Frag) (e : X.K = K) (hu : X.A.units + 64 < cLine) : OpR X (compareOp .NotEq) (rEqU2 K true) := OpR.or (u_ne K e hu) (op_neDic hu)
def fEq2 : F2
 | .dic [] [], .dic [] [], Q => Q (.dat (.bl true))
 | a, b, Q => fEq a b Q
def fNe2 : F2
 | .dic [] [], .dic [] [], Q => Q (.dat (.bl false))
 | a, b, Q => fNe a b Q
theorem FVc.dic0 {O : Addr → Prop} {H : Hp} {v : V} (h : FVc K O H v (.dic [] [])) : ∃ a, v = .ref a ∧ H a = some (.dK []) := by
 cases h.fv nofun nofun with
 | dic n e m f =>
  rename_i a kvs
  cases kvs with
  | nil => exact ⟨a, rfl, e⟩
  | cons x r => cases m
theorem lo_eq2 : LO K (rEqU2 K false) fEq2 := by
 intro O H x y a b Q Q' dom fx fy q k
 unfold fEq2 at q
 split at q
 ·obtain ⟨a, rfl, e1⟩ := fx.dic0
  obtain ⟨b, rfl, e2⟩ := fy.dic0
  exact .inr ⟨a, b, rfl, rfl, e1, e2, k _ H _ q (Gr.refl _) (.bl _)⟩
 ·exact .inl (lo_eq O H x y _ _ Q Q' dom fx fy q k)
theorem lo_ne2 : LO K (rEqU2 K true) fNe2 := by
 intro O H x y a b Q Q' dom fx fy q k
 unfold fNe2 at q
 split at q
 ·obtain ⟨a, rfl, e1⟩ := fx.dic0
  obtain ⟨b, rfl, e2⟩ := fy.dic0
  exact .inr ⟨a, b, rfl, rfl, e1, e2, k _ H _ q (Gr.refl _) (.bl _)⟩
 ·exact .inl (lo_ne O H x y _ _ Q Q' dom fx fy q k)
end
end L2
namespace L2
open PySem PySem.Spec PyProof.Rows
theorem pys_map : ∀ ds : List D, D.pys ds = ds.map D.py
 | [] => rfl
 | d :: r => by rw [List.map_cons, ← pys_map r]; rfl
theorem plains_all : ∀ ds : List D, D.plains ds = ds.all D.plain
 | [] => rfl
 | d :: r => by rw [List.all_cons, ← plains_all r]; rfl
def Fl (n : Nat) (d : D) : Prop := d.plain = true ∧ Flat n d.py
theorem Fl.sh {n : Nat} {d : D} (h : Fl n d) (hn : n ≤ 64) : Sh d := ⟨h.1, h.2.shaped hn⟩
theorem Fl.bl {n : Nat} (b : Bool) : Fl n (.bl b) := ⟨rfl, by simp [D.py, PyData.canLay0], by simp [D.py, PyData.depth]⟩
theorem Fl.lst {n : Nat} {ds : List D} (h : ∀ d ∈ ds, Fl n d) : Fl (n + 1) (.lst ds) := by
 refine ⟨?_, ?_⟩
 ·show D.plains ds = true
  rw [plains_all, List.all_eq_true]; exact fun d hd => (h d hd).1
 ·show Flat (n + 1) (.list (D.pys ds))
  rw [pys_map]
  refine Flat.list fun d hd => ?_
  obtain ⟨x, hx, rfl⟩ := List.mem_map.mp hd
  exact (h x hx).2
end L2
namespace L2
open PySem PySem.Spec PyProof.Rows
section
variable {K : PySem.W.Frag} {te : TE} {pe : PTE} {tr : TA} {pr : PTA}
end
end L2
namespace L2
open PySem PySem.Spec PyProof.Rows
section
variable {P : Program} {w : World} {A : Around} {E : Value → Shared → Prop} {s : Shared} {z U V i j : Addr} {n : Nat} {x y : Str} {t t' : Tok} {cx cy : Nat} {u v : Value}
end
section
variable {P : Program} {w : World} {A : Around} {E : Value → Shared → Prop} {s : Shared}
end
section
variable {X : Cx} {es : List Expr} {ct : Nat} {tp : Pos}
end
section
variable {K : PySem.W.Frag} {ta : TA} {pa : PTA}
end
end L2
namespace L2
open PySem PySem.Spec PyProof.Rows
section
variable {X : Cx} {K : PySem.W.Frag} {te : TE} {pe : PTE}
end
end L2
namespace L2
open PySem PySem.Spec PyProof.Rows
section
variable {prog : Program} {w : World} {A : Around} {R : Result → Shared → Prop} {s : Shared}
end
section
variable {Y : Cx} {elt t1 i1 t2 i2 : Expr} {f1 f2 : List Expr} {scope : Scope} {pos : Pos} {te : TE} {D : Addr} {wi : TI} {g : TG} {tts : TT} {tb : TB}
end
section
variable {X : Cx} {elt t1 i1 t2 i2 : Expr} {f1 f2 : List Expr} {scope : Scope} {N' : List Str} {ix : List (Option Nat)} {wi : TI} {g : TG} {tts : TT} {tb : Addr → TB}
end
end L2
namespace L2
open PySem PySem.Spec PyProof.Rows
end L2
namespace L2
open PySem PySem.Spec PyProof.Rows
section
variable {X : Cx} {K : PySem.W.Frag} {te : TE} {pe : PTE} {fs : List Nat}
end
end L2
namespace L2
open PySem PySem.Spec PyProof.Rows
section
variable {X : Cx} {K : PySem.W.Frag} {te tk : TE} {pe pk : PTE}
end
end L2
namespace L2
open PySem PySem.Spec PyProof.Rows
section
variable {prog : Program} {w : World} {A : Around} {E : Value → Shared → Prop} {s : Shared}
end
section
variable {X : Cx} {K : PySem.W.Frag}
end
end L2
namespace L2
open PySem PySem.Spec PyProof.Rows
section
variable {K : PySem.W.Frag} {te te' tk tk' : TE} {pe pe' pk pk' : PTE} {fs : List Nat}
end
end L2
namespace L2
open PySem PySem.Spec PyProof.Rows
section
variable {prog : Program} {w : World} {A : Around} {E : Value → Shared → Prop} {s : Shared}
theorem draw_list {it t : Addr} {items : Array Value} (hne : t ≠ it) : ∀ (n i : Nat) (s : Shared) (Q : List Value → Shared → Prop), s.heap.IsListIter it t i → s.heap.IsList t items → i + n ≤ items.size →
  (∀ h', h'.IsListIter it t (i + n) → Heap.SameBut it s.heap h' → Q ((items.toList.drop i).take n) { s with heap := h' }) → wpAny (model prog w) A (draw (.ref it) n) Q E s
 | 0, i, s, Q, hit, _, _, hQ => by
  show wpAny _ _ (pure []) Q E s
  exact wpAny_pure (by simpa using hQ s.heap hit (Heap.SameBut.refl ..))
 | n + 1, i, s, Q, hit, ht, hle, hQ => by
  have hlt : i < items.size := by omega
  show wpAny _ _ (pyNext (.ref it) >>= _) Q E s
  refine wpAny_bind (wpAny_pyNext_list_item hit ht (x := items[i]) (by simp [hlt]) fun h₁ hit₁ hs₁ => ?_)
  refine wpAny_bind (wpAny_holding (draw_list hne n (i + 1) _ _ hit₁ (ht.extBut hs₁.extBut hne) (by omega) fun h₂ hit₂ hs₂ => wpAny_pure ?_))
  have hd : items.toList.drop i = items[i] :: items.toList.drop (i + 1) := by simp [List.drop_eq_getElem_cons, hlt]
  have := hQ h₂ (by rw [show i + (n + 1) = i + 1 + n by omega]; exact hit₂) (hs₁.trans hs₂)
  rw [hd, List.take_succ_cons] at this
  exact this
theorem unpackItems_list {t : Addr} {items : Array Value} {Q : List Value → Shared → Prop} (hh : A.handled = none) (ht : s.heap.IsList t items)
  (hQ : ∀ h', Heap.ExtBut s.heap.objs.size s.heap h' → Q items.toList { s with heap := h' }) : wpAny (model prog w) A (unpackItems (.ref t) items.size none) Q E s := by
 have hlt : t ≠ s.heap.objs.size := by obtain ⟨o, ho, _⟩ := ht; exact Nat.ne_of_lt (Heap.lt_size ho)
 unfold unpackItems
 refine wpAny_bind ?_
 ·unfold notIterableAtAll
  refine wpAny_bind (wpAny_specialOf ht.typeIs PySem.F.slot_list_iter.lookup ?_)
  refine wpAny_pure ?_
  simp only [Bool.false_eq_true, if_false]
  refine wpAny_bind (wpAny_holding (wpAny_pyIter_list ht ?_))
  refine wpAny_bind (wpAny_holding (draw_list hlt items.size 0 _ _ ⟨_, Heap.get?_push_size _ rfl, rfl, rfl⟩ (ht.push _) (by omega) fun h₁ hit₁ hs₁ => ?_))
  have hall : List.take items.size (List.drop 0 items.toList) = items.toList := by
   rw [List.drop_zero]; exact List.take_of_length_le (by simp)
  rw [hall]
  rw [if_neg (by simp)]
  have ht₁ : h₁.IsList t items := (ht.push _).extBut hs₁.extBut hlt
  refine wpAny_bind (wpAny_holding (wpAny_pyNext_list_end hh hit₁ ht₁ (by simp) fun h₂ he₂ => ?_))
  simp only [Option.isSome_none, Bool.false_eq_true, if_false]
  refine wpAny_pure (hQ h₂ fun b o hb e => he₂ b o hb (hs₁.extBut b o hb (Heap.get?_push_of_some _ e)))
theorem assign_Tuple_list {env : Env} {elts : List Expr} {x1} {pos : Pos} {t : Addr} {items : Array Value} {Q : Unit → Shared → Prop} (hh : A.handled = none) (ht : s.heap.IsList t items)
  (hn : (assignEach elts env).length = items.size) (hstar : (assignEach elts env).findIdx? (·.1) = none)
  (h : ∀ h', Heap.ExtBut s.heap.objs.size s.heap h' → wpAny (model prog w) A (assignInOrder ((assignEach elts env).map (·.2)) items.toList) Q E { s with heap := h' }) :
  wpAny (model prog w) A (assign (.Tuple elts x1 pos) env (.ref t)) Q E s := by
 rw [assign_Tuple]
 refine wpAny_bind (wpAny_standAt ?_)
 unfold unpack
 rw [hn, hstar]
 exact wpAny_bind (wpAny_holding (unpackItems_list hh ht h))
end
def gRow (K : PySem.W.Frag) (n : Nat) (t : TGs) : TG := fun v σ H Q => ∃ b a xs, v = .ref a ∧ Sq b K H a xs ∧ xs.length = n ∧ t xs σ H Q
section
variable {X : Cx}
theorem pg_row (K : PySem.W.Frag) (eK : X.K = K) {es : List Expr} {k : Nat} {t : TGs} {n : Nat} {pos : Pos} (hc : X.calm = true) (h : PGs X es t)
  (hn : (assignEach es X.env).length = n := by rfl) (hst : (assignEach es X.env).findIdx? (·.1) = none := by rfl) : PG X (.Tuple es k pos) (gRow K n t) := by
 subst eK
 intro pins s σ H v u Q I r hw
 obtain ⟨b, a, xs, e1, hq, hl, hw⟩ := hw
 cases b with
 | true => exact pg_tup hc h hn hst pins s σ H v u Q I r ⟨a, xs, e1, hq, hl, hw⟩
 | false =>
  subst e1
  cases r
  obtain ⟨its, rv, ht, hz⟩ := I.list hq
  refine assign_Tuple_list (I.ok.hd hc) ht.isList (by simp [hn, ← hl, rv.length]) hst fun h' hx => ?_
  have I1 : Inv X pins σ H { s with heap := h' } := I.kept (t' := s.toks) fun b o e => hx b o (Nat.ne_of_lt (Heap.lt_size e)) e
  exact h pins _ σ H xs _ Q I1 (by simpa using rv) hw
def pgRow (n : Nat) (gs : PTGs) : PTG := fun p ρ Q => match p with | .dat (.tup ds) => ds.length = n ∧ gs ds ρ Q | .dat (.lst ds) => ds.length = n ∧ gs ds ρ Q | .own ds => ds.length = n ∧ gs ds ρ Q | _ => False
end
section
variable {K : PySem.W.Frag} {fs : List Nat}
theorem lgd_row {n : Nat} {gs : TGs} {pgs : PTGs} (h : LGs K fs gs pgs) : LGd K fs (gRow K n gs) (pgRow n pgs) := fun fx A R H0 ρ σ H d v Q Q' hf F r fv q k => by
 unfold pgRow at q
 split at q
 ·rename_i e
  cases e
  cases fv with
  | tup nn e f => exact ⟨true, _, _, rfl, SqT.of e, by rw [f.length]; exact q.1, h fx A R H0 ρ σ H _ _ Q Q' hf F r f q.2 k⟩
 ·rename_i e
  cases e
  cases fv with
  | lst nn e f => exact ⟨false, _, _, rfl, SqL.of e, by rw [f.length]; exact q.1, h fx A R H0 ρ σ H _ _ Q Q' hf F r f q.2 k⟩
 ·rename_i e
  cases e
 ·exact q.elim
end
end L2
namespace L2
open PySem PySem.Spec PyProof.Rows
end L2
namespace L2
open PySem PySem.Spec PyProof.Rows
def nSt : Expr → Bool
 | .Starred _ _ => false
 | _ => true
theorem star_of {e : Expr} {es : List Expr} {env : Env} (h : nSt e = true) : starEach (e :: es) env = (false, eval e env) :: starEach es env := by
 cases e <;> first | rfl | cases h
theorem plain_of {env : Env} {pos : Pos} : ∀ {es : List Expr}, es.all nSt = true → (backTo pos (starEach es env)).any (·.1) = false
 | [], _ => rfl
 | e :: es, h => by
  rw [List.all_cons, Bool.and_eq_true] at h
  rw [star_of h.1]
  show (false || (backTo pos (starEach es env)).any (·.1)) = false
  rw [plain_of h.2]; rfl
section
variable {X : Cx} {k : Nat} {x : Str} {ps : List Str} {sp : Sp} {e : Expr} {es : List Expr} {te : TE} {t : TA} {p pos : Pos} {dvs : List V} {C : Addr} {id T : String} {r : List V → Hp → VK → Prop}
theorem paC (ha : PE X e te) (hr : PA X es t) (hn : nSt e = true := by rfl) : PA X (e :: es) (tCons te t) := pa_cons ha hr (star_of hn)
theorem pe_cal2 (C : Cal X.prog X.w X.K X.mg X.base k x ps sp) (hr : Room k X.A) (ha : PA X (e :: es) t) (hg : Gl X x := by rfl) (hdb : (x == ("__debug__" : Str)) = false := by decide) (hn : nSt e = true := by rfl) (hp : es.all nSt = true := by rfl) :
  PE X (.Call (.Name x p) (e :: es) [] pos) (tCall sp [] E0 t) := pe_cal C hr ha hg hdb (star_of hn) (plain_of hp)
theorem pe_callB2 (hc : CallR X (.builtin id) r) (hg : Gl X x) (hm : X.mg x = none) (hv : bootBuiltins x = some (.builtin id)) (ha : PA X (e :: es) t) (hnn : x ≠ "__name__" := by decide) (hdb : (x == ("__debug__" : Str)) = false := by decide) (hn : nSt e = true := by rfl) (hp : es.all nSt = true := by rfl) :
  PE X (.Call (.Name x p) (e :: es) [] pos) (tCB r t) := pe_callB hc hg hm hv ha hnn hdb (star_of hn) (plain_of hp)
end
end L2
namespace L2
open PySem PySem.Spec PyProof.Rows
def plT : Expr → Bool
 | .Call _ _ _ _ => true
 | .Name _ _ => true
 | .Subscript _ _ _ => true
 | .Attribute _ _ _ => true
 | _ => false
theorem true_of {e : Expr} {env : Env} (h : plT e = true) : ∀ whole, isTrue e env whole = (do let v ← whole; standAt e.pos; holding [v] (truthy v)) := by
 cases e <;> first | (intro _; rfl) | cases h
theorem pt_val2 {X : Cx} {e : Expr} {t : TE} (h : PE X e t) (hp : plT e = true := by rfl) : PT X e (tB t) := pt_val h (true_of hp)
end L2
namespace L2
open PySem PySem.Spec PyProof.Rows
abbrev vmB : List Value := [.type "ValueError", .type "Exception", .type "BaseException", .type "object"]
section
variable {prog : Program} {w : World} {A : Around} {E : Value → Shared → Prop} {K : PySem.W.Frag} {h : Heap} {g : Array GenState} {d : Drawn} {t : Nat} {os : OsState}
variable {nm q : Str} {C N : Addr} {bs bm : List Value} {sn : List Str} {sub : List Value} {ab : Bool} {col : Option Bool} {k0 k1 k2 k3 k5 : Option Value}
theorem x_type_call {rest : List Value} {fI : Addr} {Q : Fin → Shared → Prop} (X : K.In h) (hC : h.get? C = some (excClassObj nm q C N bs bm true sn sub ab col none k0 k1 k2 k3 k5 "ValueError.__new__")) (T : OwnTail h vmB bm)
  (hi : PySem.W.findIn K (.ref C) "__init__" = some (some (.ref fI))) (hf : PySem.W.typeIn K (.ref fI) = some (.type "function")) (hrest : rest.length ≤ sizeLine)
  (hq : ∀ h', Heap.MadeExcOf h h' (h.objs.size + 1) (.ref C) rest → wpAny (model prog w) A (call (.ref fI) (.ref (h.objs.size + 1) :: rest)) (fun r s' => r = .none ∧ Q (.done (.ret (.ref (h.objs.size + 1)))) s') E ⟨h', g, d, t, os⟩) :
  wpAny (model prog w) A (Builtin.«type.__call__» ⟨.ref C :: rest, []⟩) Q E ⟨h, g, d, t, os⟩ := by
 have FV := PySem.F.excBase_ValueError
 repeat (first
  | with_reducible refine wpAny_loadPart_at hC ?_
  | with_reducible refine wpAny_madeBy_exc hC ?_
  | wp_step)
 refine codeAny_call_builtin_code (Code.quiet_builtin _ FV.quiet) (wpAny_check_new_subT FV T hC ?_)
 refine codeAny_exc_new_subT FV T hC ?_ hrest
 show wpAny _ _ _ _ _ _
 generalize hh1 : (h.push { cls := .type "tuple", data := .seq rest.toArray }) = h1
 generalize hh2 : (h1.push { cls := .ref C, data := .fields #[.ref h.objs.size, .none, .none, .none, .bool false, .none] }) = h2
 have kp : ∀ b o, h.get? b = some o → h2.get? b = some o := fun b o e => by
  rw [← hh2, ← hh1]
  exact Heap.get?_push_of_some _ (Heap.get?_push_of_some _ e)
 have hC2 := kp _ _ hC
 have X2 : K.In h2 := X.keeps kp
 have sz : h1.objs.size = h.objs.size + 1 := by rw [← hh1]; exact Heap.size_push ..
 have ge : h2.get? (h.objs.size + 1) = some { cls := .ref C, data := .fields #[.ref h.objs.size, .none, .none, .none, .bool false, .none] } := by
  rw [← hh2, ← sz]
  exact Heap.get?_push_size _ rfl
 have gt : h2.get? h.objs.size = some { cls := .type "tuple", data := .seq rest.toArray } := by
  rw [← hh2, ← hh1]
  exact Heap.get?_push_of_some _ (Heap.get?_push_size _ rfl)
 have cc : (Value.ref C :: bm).contains (.ref C) = true := by simp
 unfold isInstance
 repeat (first
  | with_reducible refine wpAny_loadPart_at ge ?_
  | (with_reducible refine wpAny_isSubtype_exc hC2 ?_; rw [cc])
  | wp_step)
 show wpAny _ _ (typeLookup (.ref C) _) _ _ _
 refine (PySem.W.looks_findIn X2 hi).at ?_
 refine wpAny_holding (wpAny_bind ((PySem.W.bind_fn X2 _ hf).at ?_))
 refine wpAny_bind (wpAny_mono (hq h2 ⟨kp, Heap.get?_none_of_le (Nat.le_succ _), h.objs.size, ge, Heap.get?_none_of_le (Nat.le_refl _), gt⟩) (fun r s' hr => ?_) fun _ _ x => x)
 obtain ⟨rfl, hQ⟩ := hr
 wp_walk
 exact hQ
theorem x_call1 {rest : List Value} {fI : Addr} {Q : Value → Shared → Prop} (X : K.In h) (hC : h.get? C = some (excClassObj nm q C N bs bm true sn sub ab col none k0 k1 k2 k3 k5 "ValueError.__new__")) (T : OwnTail h vmB bm)
  (hi : PySem.W.findIn K (.ref C) "__init__" = some (some (.ref fI))) (hf : PySem.W.typeIn K (.ref fI) = some (.type "function")) (hrest : rest.length ≤ sizeLine)
  (hq : ∀ h', Heap.MadeExcOf h h' (h.objs.size + 1) (.ref C) rest → wpAny (model prog w) (A.under (.builtin "type.__call__" ⟨.ref C :: rest, []⟩)) (call (.ref fI) (.ref (h.objs.size + 1) :: rest)) (fun r s' => r = .none ∧ Q (.ref (h.objs.size + 1)) s') E ⟨h', g, d, t, os⟩) :
  wpAny (model prog w) A (call (.ref C) rest) Q E ⟨h, g, d, t, os⟩ := by
 have u1 := tc_lookup
 have u2 := tc_bind (.ref C)
 have hT : (⟨h, g, d, t, os⟩ : Shared).TypeIs (.ref C) "type" := ⟨_, hC, rfl⟩
 refine wpAny_call (codeAny_of_tree ?_)
 show wpAny _ _ (callAny (.ref C) _) _ _ _
 repeat (any_goals (first
  | assumption
  | with_reducible refine wpAny_loadPart_at hC ?_
  | wp_step))
 refine ⟨rfl, ?_⟩
 refine codeAny_call_builtin_at (Code.quiet_builtin _ (by decide +kernel)) entry_typeCall ?_
 refine wpAny_check_type_call_sub hC (x_type_call X hC T hi hf hrest fun h' hm => ?_)
 exact hq h' hm
end
end L2
namespace L2
open PySem PySem.Spec PyProof.Rows
open PySem.Builtin PySem.Builtin.ObjectAttr
section
variable {prog : Program} {w : World} {A : Around} {E : Value → Shared → Prop} {K : PySem.W.Frag} {h : Heap} {g : Array GenState} {d : Drawn} {t : Nat} {os : OsState}
variable {nm q : Str} {C G N x : Addr} {bs : List Value} {sn : List Str} {sub : List Value} {ab : Bool} {col : Option Bool} {k0 k1 k2 k3 k5 : Option Value} {name : Str} {v : Value} {o : Obj} {vs : Array Value}
def XSet (h h' : Heap) (x : Addr) (o : Obj) (name : Str) (v : Value) (dx : Addr) : Prop :=
 h'.get? x = some { o with dict := some dx } ∧ h.objs.size ≤ dx ∧ dx ≠ x ∧ h'.Ns1 dx (fun y => if y = name then some v else none) ∧ ∀ b ob, b ≠ x → h.get? b = some ob → h'.get? b = some ob
theorem x_store_entry {tk : Tok} {Q : Fin → Shared → Prop} (X : K.In h) (hC : h.get? C = some (excClassObj nm q C N bs (.ref G :: vmB) true sn sub ab col none k0 k1 k2 k3 k5 "ValueError.__new__"))
  (hna : PySem.W.findIn K (.ref C) name = some none) (hx : h.get? x = some o) (hc : o.cls = .ref C) (hd : o.data = .fields vs) (hdn : o.dict = none)
  (hq : ∀ h' tk' dx, XSet h h' x o name v dx → Q (.done (.ret .none)) ⟨h', g, d, tk', os⟩) :
  wpAny (model prog w) A (Builtin.«object.__setattr__» ⟨[.ref x, .str name tk, v], []⟩) Q E ⟨h, g, d, t, os⟩ := by
 have hpass := PySem.F.store_ValueError.passes (.ref x)
 unfold Builtin.«object.__setattr__»
 repeat (first
  | rw [refuse_eq]
  | (rw [refuseLoop_ref, refuseLoop_ref, hpass])
  | (with_reducible refine wpAny_loadPart_at hx ?_; rw [hc])
  | with_reducible refine wpAny_mroOf_exc hC ?_
  | (with_reducible refine (PySem.W.looks_findIn X hna).at ?_)
  | wp_step)
 rw [hdn, if_neg (by simp [typeHasDict])]
 split
 ·rename_i hcd
  cases hcd
 split
 ·rename_i c hcd
  rw [hd] at hcd; cases hcd
 ·have hx1 : (h.push { cls := .type "dict", data := .dict #[] }).get? x = some o := Heap.get?_push_of_some _ hx
  have hxs : x ≠ h.objs.size := Nat.ne_of_lt (Heap.lt_size hx)
  refine wpAny_bind (wpAny_alloc' ?_)
  refine wpAny_bind (wpAny_update' hx1 ?_)
  refine wpAny_pure ?_
  generalize hg2 : ((h.push { cls := .type "dict", data := .dict #[] }).update x fun o => { cls := o.cls, dict := some h.objs.size, data := o.data, slots := o.slots }) = h2
  have gd : h2.get? h.objs.size = some { cls := .type "dict", data := .dict #[] } := by
   rw [← hg2]
   exact (Heap.get?_update_ne _ _ _ _ hxs.symm).trans (Heap.get?_push_at rfl rfl)
  have gx : h2.get? x = some { o with dict := some h.objs.size } := by
   rw [← hg2]
   refine Heap.get?_update_self _ hx1 ?_
   have hfr := (Heap.get?_some_iff.mp hx).2
   obtain ⟨oc, od, odt, osl⟩ := o
   cases odt <;> first | rfl | exact hfr
  have kp : ∀ b ob, b ≠ x → h.get? b = some ob → h2.get? b = some ob := fun b ob hb e => by
   rw [← hg2]
   exact (Heap.get?_update_ne _ _ _ _ hb).trans (Heap.get?_push_of_some _ e)
  have hnd : h2.Ns h.objs.size (fun _ => none) := ⟨_, #[], _, gd, rfl, fun e he => absurd he (by simp), fun _ => rfl⟩
  show wpAny _ _ (storeInDict h.objs.size (.str name tk) name v) _ _ _
  unfold storeInDict newKeyGuard
  refine wpAny_bind (wpAny_pure (wpAny_bind (wpAny_nsSet1 (Heap.Ns1.of_empty hnd) fun h' hn' hs => ?_)))
  obtain ⟨oD, esD, epD, hoD, hdD, hcD⟩ := hn'.count (Within.cons name v Within.nil)
  refine wpAny_bind (wpAny_lookBehind hoD (by
   rw [hdD]
   exact pastItsLine_dict (Nat.le_trans hcD (by rw [List.length_cons, List.length_nil, sizeLine_eq]; omega))) ?_)
  wp_walk
  exact hq h' _ h.objs.size ⟨(hs.2 x hxs).trans gx, Nat.le_refl _, hxs.symm, hn', fun b ob hb e => (hs.2 b (Nat.ne_of_lt (Heap.lt_size e))).trans (kp b ob hb e)⟩
theorem x_store {Q : Unit → Shared → Prop} (X : K.In h) (hC : h.get? C = some (excClassObj nm q C N bs (.ref G :: vmB) true sn sub ab col none k0 k1 k2 k3 k5 "ValueError.__new__"))
  (hsa : PySem.W.findIn K (.ref C) "__setattr__" = some (some (.builtin "object.__setattr__"))) (hna : PySem.W.findIn K (.ref C) name = some none)
  (hx : h.get? x = some o) (hc : o.cls = .ref C) (hd : o.data = .fields vs) (hdn : o.dict = none)
  (hq : ∀ h' tk' dx, XSet h h' x o name v dx → Q () ⟨h', g, d, tk', os⟩) :
  wpAny (model prog w) A (setAttr (.ref x) name v) Q E ⟨h, g, d, t, os⟩ := by
 have SF := PySem.F.store_ValueError
 have u3 := SF.slot.bind (.ref x)
 unfold setAttr callSpecial? specialOf
 refine wpAny_bind (wpAny_mkText (wpAny_bind (wpAny_bind (wpAny_bind (wpAny_typeOf_ref hx ?_)))))
 rw [hc]
 refine (PySem.W.looks_findIn X hsa).at ?_
 refine wpAny_holding (wpAny_bind (wpAny_of_eq u3 (wpAny_bind (wpAny_call ?_))))
 have own : (Value.ref C :: .ref G :: vmB).contains (.type "object") = true := by
  rw [List.contains_cons, List.contains_cons, SF.hasOwner, Bool.or_true, Bool.or_true]
 refine codeAny_call_builtin SF.slot.plain SF.entry ?_
 simp only [checkBuiltinCall, SF.kind, SF.split]
 have ha := SF.args (.ref x) (.str name t) v
 show wpAny _ _ (isInstance (.ref x) (.type "object") >>= _) _ _ _
 refine wpAny_bind ?_
 unfold isInstance
 refine wpAny_bind (wpAny_typeOf_ref hx ?_)
 rw [hc]
 refine wpAny_isSubtype_exc hC ?_
 rw [own]
 have step : ∀ {Q' : Fin → Shared → Prop}, (∀ s', Q () s' → Q' (.done (.ret .none)) s') → wpAny (model prog w) A.in1 (Builtin.«object.__setattr__» ⟨[.ref x, .str name t, v], []⟩) Q' E ⟨h, g, d, t + 1, os⟩ := fun k =>
  x_store_entry X hC hna hx hc hd hdn fun h' tk' dx z => k _ (hq h' tk' dx z)
 show wpAny _ _ (match Manifest.signature? "object.__setattr__" with | some sig => Bind.checkArgs "object.__setattr__" sig { pos := [Value.ref x] ++ [Value.str name t, v] } | x => pure ()) _ _ _
 cases hsig : Manifest.signature? "object.__setattr__" with
 | none => exact wpAny_pure (step fun s' z => wpAny_pure (wpAny_pure z))
 | some sig =>
  simp only [argsOk, hsig] at ha
  have h2 : Bind.checkArgs "object.__setattr__" sig ⟨[.ref x, .str name t, v], []⟩ = pure () := ha
  show wpAny _ _ (Bind.checkArgs "object.__setattr__" sig ⟨[.ref x, .str name t, v], []⟩) _ _ _
  rw [h2]
  exact wpAny_pure (step fun s' z => wpAny_pure (wpAny_pure z))
end
end L2
namespace L2
open PySem PySem.Spec PyProof.Rows
open PySem.Builtin PySem.Builtin.ObjectAttr
section
variable {prog : Program} {w : World} {A : Around} {E : Value → Shared → Prop} {K : PySem.W.Frag} {h : Heap} {g : Array GenState} {d : Drawn} {t : Nat} {os : OsState}
variable {nm q : Str} {C G N x dx : Addr} {bs : List Value} {sn : List Str} {sub : List Value} {ab : Bool} {col : Option Bool} {k0 k1 k2 k3 k5 : Option Value} {name : Str} {v : Value} {o : Obj} {vs : Array Value} {mA : Str → Option Value}
theorem x_load_entry {tk : Tok} {Q : Fin → Shared → Prop} (X : K.In h) (hC : h.get? C = some (excClassObj nm q C N bs (.ref G :: vmB) true sn sub ab col none k0 k1 k2 k3 k5 "ValueError.__new__"))
  (hna : PySem.W.findIn K (.ref C) name = some none) (hx : h.get? x = some o) (hc : o.cls = .ref C) (hd : o.data = .fields vs) (hdx : o.dict = some dx) (hns : h.Ns dx mA) (hv : mA name = some v)
  (hq : Q (.done (.ret v)) ⟨h, g, d, t, os⟩) : wpAny (model prog w) A (Builtin.«object.__getattribute__» ⟨[.ref x, .str name tk], []⟩) Q E ⟨h, g, d, t, os⟩ := by
 unfold Builtin.«object.__getattribute__»
 repeat (first
  | (with_reducible refine wpAny_loadPart_at hx ?_; rw [hc])
  | (with_reducible refine (PySem.W.looks_findIn X hna).at ?_)
  | wp_step)
 rw [hd]
 show wpAny _ _ (instanceDict x false) _ _ _
 unfold instanceDict
 repeat (first
  | (with_reducible refine wpAny_loadPart_at hx ?_; rw [hc])
  | with_reducible refine wpAny_loadPart_at hC ?_
  | wp_step)
 rw [hdx]
 repeat (first
  | (with_reducible refine wpAny_nsGet hns ?_; rw [hv])
  | wp_step)
 exact hq
end
end L2
namespace L2
open PySem PySem.Spec PyProof.Rows
open PySem.Builtin PySem.Builtin.ObjectAttr
section
variable {prog : Program} {w : World} {A : Around} {E : Value → Shared → Prop} {K : PySem.W.Frag} {h : Heap} {g : Array GenState} {d : Drawn} {t : Nat} {os : OsState}
variable {nm q : Str} {C G N x dx : Addr} {bs : List Value} {sn : List Str} {sub : List Value} {ab : Bool} {col : Option Bool} {k0 k1 k2 k3 k5 : Option Value} {name : Str} {v : Value} {o : Obj} {vs : Array Value} {mA : Str → Option Value}
theorem x_cls_get {R : Result → Shared → Prop} (hC : h.get? C = some (excClassObj nm q C N bs (.ref G :: vmB) true sn sub ab col none k0 k1 k2 k3 k5 "ValueError.__new__")) (hx : h.get? x = some o) (hc : o.cls = .ref C)
  (hq : R (.ok (.ret (.ref C))) ⟨h, g, d, t, os⟩) : codeAny (model prog w) A (.call (.builtin "getset_descriptor.__get__") ⟨[.builtin "object.__class__", .ref x, .ref C], []⟩) R ⟨h, g, d, t, os⟩ := by
 have hT5 : (⟨h, g, d, t, os⟩ : Shared).TypeIs (.builtin "object.__class__") "getset_descriptor" := PySem.F.typeOf_object_class
 have own : (Value.ref C :: .ref G :: vmB).contains (.type (".".intercalate ("object.__class__".cutAt '.').dropLast)) = true := by
  rw [PySem.F.owner_object_class]
  rfl
 refine codeAny_call_builtin PySem.F.slot_gs_get.plain PySem.F.entry_gs_get ?_
 refine PySem.F.slot_gs_get.check _ _ _ _ _ _ _ _ hT5 (PySem.F.args_gs_get _ _ _) ?_
 repeat (any_goals (first
  | assumption
  | (with_reducible refine wpAny_loadPart_at hx ?_; rw [hc])
  | (with_reducible refine wpAny_isSubtype_exc hC ?_; rw [own])
  | wp_step))
 refine ⟨Code.quiet_builtin _ (by decide +kernel), codeAny_builtin PySem.F.entry_object_class ?_⟩
 repeat (any_goals (first
  | assumption
  | (with_reducible refine wpAny_loadPart_at hx ?_; rw [hc])
  | wp_step))
theorem x_cls_entry {tk : Tok} {Q : Fin → Shared → Prop} (X : K.In h) (hC : h.get? C = some (excClassObj nm q C N bs (.ref G :: vmB) true sn sub ab col none k0 k1 k2 k3 k5 "ValueError.__new__")) (hx : h.get? x = some o) (hc : o.cls = .ref C)
  (hcl : PySem.W.findIn K (.ref C) "__class__" = some (some (.builtin "object.__class__"))) (hq : Q (.done (.ret (.ref C))) ⟨h, g, d, t, os⟩) :
  wpAny (model prog w) A (Builtin.«object.__getattribute__» ⟨[.ref x, .str "__class__" tk], []⟩) Q E ⟨h, g, d, t, os⟩ := by
 have u5 := PySem.F.typeOf_object_class
 have u6 := PySem.F.slot_gs_get.lookup
 have u7 := PySem.F.slot_gs_set.lookup
 unfold Builtin.«object.__getattribute__»
 repeat (any_goals (first
  | assumption
  | (with_reducible refine wpAny_loadPart_at hx ?_; rw [hc])
  | (with_reducible refine (PySem.W.looks_findIn X hcl).at ?_)
  | wp_step))
 refine x_cls_get hC hx hc ?_
 repeat (any_goals (first
  | assumption
  | wp_step))
end
end L2
namespace L2
open PySem PySem.Spec PyProof.Rows
open PySem.Builtin PySem.Builtin.ObjectAttr
section
variable {prog : Program} {w : World} {A : Around} {E : Value → Shared → Prop} {K : PySem.W.Frag} {h : Heap} {g : Array GenState} {d : Drawn} {t : Nat} {os : OsState}
variable {nm q : Str} {C G N x dx : Addr} {bs : List Value} {sn : List Str} {sub : List Value} {ab : Bool} {col : Option Bool} {k0 k1 k2 k3 k5 : Option Value} {name : Str} {v : Value} {o : Obj} {vs : Array Value} {mA : Str → Option Value}
theorem x_by {fill expr : Bool} {tk : Tok} {Q : Value → Shared → Prop} (X : K.In h) (hC : h.get? C = some (excClassObj nm q C N bs (.ref G :: vmB) true sn sub ab col none k0 k1 k2 k3 k5 "ValueError.__new__"))
  (hga : PySem.W.findIn K (.ref C) "__getattribute__" = some (some (.builtin "BaseException.__getattribute__"))) (hgh : PySem.W.findIn K (.ref C) "__getattr__" = some none)
  (hx : h.get? x = some o) (hc : o.cls = .ref C) (hh : handedOut v = pure v)
  (step : ∀ {Q' : Fin → Shared → Prop} {E' : Value → Shared → Prop}, Q' (.done (.ret v)) ⟨h, g, d, t, os⟩ → wpAny (model prog w) A.in1 (Builtin.«object.__getattribute__» ⟨[.ref x, .str name tk], []⟩) Q' E' ⟨h, g, d, t, os⟩)
  (hq : Q v ⟨h, g, d, t, os⟩) : wpAny (model prog w) A (getAttrBy (.ref x) (.str name tk) fill expr) Q E ⟨h, g, d, t, os⟩ := by
 unfold getAttrBy
 refine wpAny_holding (wpAny_bind (wpAny_typeOf_ref hx ?_))
 rw [hc]
 refine wpAny_bind ((PySem.W.looks_findIn X hga).at ?_)
 have hx2 : (Value.builtin "BaseException.__getattribute__" == Value.builtin "object.__getattribute__") = false := by decide +kernel
 show wpAny _ _ (if (onTheHeap (.ref C) && (Value.builtin "BaseException.__getattribute__" == Value.builtin "object.__getattribute__")) = true then _ else _) _ _ _
 rw [hx2, Bool.and_false, if_neg (by decide)]
 unfold getAttrByItsOwn
 refine wpAny_bind ((PySem.W.looks_hook X (r := none) (by rw [if_pos (by rfl)]; exact hgh)).at ?_)
 refine wpAny_bind (wpAny_attempt ?_)
 unfold callGetattribute
 refine wpAny_holding ?_
 rw [if_neg (by cases expr <;> decide)]
 unfold boundAndCalled
 have FB := PySem.F.attrBase_ValueError
 have own : (Value.ref C :: .ref G :: vmB).contains (.type "BaseException") = true := by
  rw [List.contains_cons, List.contains_cons, FB.hasBase, Bool.or_true, Bool.or_true]
 have ha := PySem.F.args_bexc_ga (.ref x) (.str name tk)
 have hk : builtinKind "BaseException.__getattribute__" = some .slot := by decide +kernel
 have hsp : splitId "BaseException.__getattribute__" = some ("BaseException", "__getattribute__") := by decide +kernel
 refine wpAny_bind (wpAny_of_eq (FB.ga.bind (.ref x)) ?_)
 refine wpAny_call (codeAny_call_builtin FB.ga.plain PySem.F.entry_bexc_ga ?_)
 simp only [checkBuiltinCall, hk, hsp]
 show wpAny _ _ (isInstance (.ref x) (.type "BaseException") >>= _) _ _ _
 refine wpAny_bind ?_
 unfold isInstance
 refine wpAny_bind (wpAny_typeOf_ref hx ?_)
 rw [hc]
 refine wpAny_isSubtype_exc hC ?_
 rw [own]
 have done : wpAny (model prog w) A (handedOut v) Q E ⟨h, g, d, t, os⟩ := by rw [hh]; exact wpAny_pure hq
 show wpAny _ _ (match Manifest.signature? "BaseException.__getattribute__" with | some sig => Bind.checkArgs "BaseException.__getattribute__" sig { pos := [Value.ref x] ++ [Value.str name tk] } | x => pure ()) _ _ _
 cases hsig : Manifest.signature? "BaseException.__getattribute__" with
 | none => exact wpAny_pure (step done)
 | some sig =>
  simp only [argsOk, hsig] at ha
  have h2 : Bind.checkArgs "BaseException.__getattribute__" sig ⟨[.ref x, .str name tk], []⟩ = pure () := ha
  show wpAny _ _ (Bind.checkArgs "BaseException.__getattribute__" sig ⟨[.ref x, .str name tk], []⟩) _ _ _
  rw [h2]
  exact wpAny_pure (step done)
theorem x_class {Q : Option Value → Shared → Prop} (X : K.In h) (hC : h.get? C = some (excClassObj nm q C N bs (.ref G :: vmB) true sn sub ab col none k0 k1 k2 k3 k5 "ValueError.__new__"))
  (hga : PySem.W.findIn K (.ref C) "__getattribute__" = some (some (.builtin "BaseException.__getattribute__"))) (hgh : PySem.W.findIn K (.ref C) "__getattr__" = some none)
  (hcl : PySem.W.findIn K (.ref C) "__class__" = some (some (.builtin "object.__class__"))) (hx : h.get? x = some o) (hc : o.cls = .ref C) (hq : Q (some (.ref C)) ⟨h, g, d, t + 1, os⟩) :
  wpAny (model prog w) A (getAttr? (.ref x) "__class__") Q E ⟨h, g, d, t, os⟩ := by
 unfold getAttr? getAttrBy?
 refine wpAny_bind (wpAny_mkText (wpAny_bind (wpAny_attempt ?_)))
 exact x_by X hC hga hgh hx hc rfl (fun k => x_cls_entry X hC hx hc hcl k) (wpAny_pure hq)
structure XC (K : PySem.W.Frag) (C G : Addr) : Prop where
 obj : ∃ nm q N bs sn sub ab col k0 k1 k2 k3 k5, K.lookup C = some (excClassObj nm q C N bs (.ref G :: vmB) true sn sub ab col none k0 k1 k2 k3 k5 "ValueError.__new__")
 ga : PySem.W.findIn K (.ref C) "__getattribute__" = some (some (.builtin "BaseException.__getattribute__"))
 gh : PySem.W.findIn K (.ref C) "__getattr__" = some none
 sa : PySem.W.findIn K (.ref C) "__setattr__" = some (some (.builtin "object.__setattr__"))
 cl : PySem.W.findIn K (.ref C) "__class__" = some (some (.builtin "object.__class__"))
theorem kitx_exc {dd : Option Addr} (c : XC K C G) : PySem.W.KitX K (.ref x) (.ref C) (XAt x C dd) where
 ty := fun M h X p => by
  obtain ⟨o, vs, h1, h2, _⟩ := p
  exact h2 ▸ (PySem.W.Looks.ld h1).andThen .now
 it := fun M h X p => by
  obtain ⟨nm, q, N, bs, sn, sub, ab, col, k0, k1, k2, k3, k5, e⟩ := c.obj
  intro A' Q' E' s' k q
  unfold isType loadHead
  exact wpAny_bind (wpAny_loadPart (k _ _ (X _ _ e)) (wpAny_pure q))
 ne := fun h tp dd its n sl X htp => by
  obtain ⟨nm, q, N, bs, sn, sub, ab, col, k0, k1, k2, k3, k5, e⟩ := c.obj
  refine Bool.eq_false_iff.mpr fun z => ?_
  have e2 : C = tp := Value.ref.inj (beq_iff_eq.mp z)
  subst e2
  have e3 := congrArg Obj.data (Option.some.inj ((X _ _ e).symm.trans htp))
  cases e3
 ca := fun {prog w A E Q s} X p k => by
  obtain ⟨h, g, d, t, os⟩ := s
  obtain ⟨o, vs, h1, h2, _⟩ := p
  obtain ⟨nm, q, N, bs, sn, sub, ab, col, k0, k1, k2, k3, k5, e⟩ := c.obj
  exact x_class X (X _ _ e) c.ga c.gh c.cl h1 h2 k
end
end L2
namespace L2
open PySem PySem.Spec PyProof.Rows
theorem handed_eq {v : V} {u : Value} (r : RelV v u) : handedOut u = pure u := by
 cases v with
 | non => cases (show u = Value.none from r); rfl
 | bl b => cases (show u = Value.bool b from r); rfl
 | int i => obtain ⟨t, e⟩ := (show ∃ t, u = Value.int i t from r); subst e; rfl
 | str x => obtain ⟨t, e⟩ := (show ∃ t, u = Value.str x t from r); subst e; rfl
 | flt x => obtain ⟨t, e⟩ := (show ∃ t, u = Value.float x t from r); subst e; rfl
 | ty n => cases (show u = Value.type n from r); rfl
 | byt b => obtain ⟨t, e⟩ := (show ∃ t, u = Value.bytes b t from r); subst e; rfl
 | ref a => cases (show u = Value.ref a from r); rfl
theorem XAt.ok {P : Program} {w : World} {H : Hp} {h : Heap} {x C : Addr} {dd : Option Addr} (p : XAt x C dd h) : ObjOk P w H h x (.ext (XAt x C dd)) := by
 obtain ⟨o, vs, h1, h2, h3, h4⟩ := id p
 exact ⟨p, ⟨o, h1⟩, fun g1 g2 ⟨o', vs', a1, a2⟩ k => ⟨o', vs', k _ a1, a2⟩⟩
section
variable {X : Cx} {pins : List (Addr × Obj)} {σ : St} {H : Hp} {s : Shared} {a dx C G : Addr} {f : Str} {v : V} {fs : List (Str × V)} {A : Around} {E : Value → Shared → Prop}
theorem getX {b : Bool} {Q : Value → Shared → Prop} (I : Inv X pins σ H s) (ea : H a = some (.ext (XAt a C (some dx)))) (ed : H dx = some (.xd fs)) (c : XC X.K C G) (n : PySem.W.findIn X.K (.ref C) f = some none) (l : fs.lookup f = some v)
  (h : ∀ u s', Inv X pins σ H s' → RelV v u → Q u s') : wpAny (model X.prog X.w) A (getAttr (.ref a) f b) Q E s := by
 obtain ⟨⟨o, vs, h1, h2, h3, h4⟩, _, _⟩ := (show ObjOk X.prog X.w H s.heap a (.ext (XAt a C (some dx))) from I.hok a _ ea)
 obtain ⟨mA, hns, r⟩ := (show ObjOk X.prog X.w H s.heap dx (.xd fs) from I.hok dx _ ed)
 obtain ⟨u, hu, ru⟩ := RelO.some_of (v := v) (o := mA f) (by rw [← l]; exact r f)
 obtain ⟨nm, q, N, bs, sn, sub, ab, col, k0, k1, k2, k3, k5, e⟩ := c.obj
 have I2 := I.tok (s.toks + 1)
 have X2 := I.kIn
 obtain ⟨hh, g, d, t, os⟩ := s
 unfold getAttr
 refine wpAny_bind (wpAny_mkText ?_)
 exact x_by X2 (X2 _ _ e) c.ga c.gh h1 h2 (handed_eq ru) (fun k => x_load_entry X2 (X2 _ _ e) n h1 h2 h4 h3 hns.ns hu k) (h u _ I2 ru)
theorem Un.setX {h h' : Heap} {fs ex : List Addr} {o : HO} {o2 : HO} (mu : Mut (H a)) (hx : H dx = none) (hd : h.get? dx = none) (k : ∀ b ob, b ≠ a → h.get? b = some ob → h'.get? b = some ob) (ha : ∃ o, h'.get? a = some o) : Un fs ex H (upd (upd H dx o) a o2) h h' := by
 have na : ∀ b, H b = none → b ≠ a := fun b n z => by subst z; rw [n] at mu; exact mu
 have nd : ∀ b ob, h.get? b = some ob → b ≠ dx := fun b ob e z => by rw [z, hd] at e; cases e
 have hm : ∀ b u, H b = some u → ¬ Mut (some u) → b ≠ a ∧ b ≠ dx := fun b u q nm => ⟨fun z => by subst z; rw [q] at mu; exact nm mu, fun z => by subst z; rw [hx] at q; cases q⟩
 refine ⟨fun b u q n _ _ => k b u (na b n) q, fun b u q n _ _ => ⟨u.slots, k b u (na b n) q⟩, fun b u q n _ => by rw [upd_ne (na b n), upd_ne (nd b u q)]; exact n, fun b u q _ => ?_,
  fun b xs q => by rw [upd_ne (hm b _ q fun z => z).1, upd_ne (hm b _ q fun z => z).2]; exact q, fun b u xs q => by rw [upd_ne (hm b _ q fun z => z).1, upd_ne (hm b _ q fun z => z).2]; exact q,
  fun b ps q => ⟨#[], by rw [upd_ne (hm b _ q fun z => z).1, upd_ne (hm b _ q fun z => z).2, q]; simp⟩⟩
 by_cases hb : b = a
 ·subst hb; exact ha
 ·exact ⟨u, k b u hb q⟩
theorem setX {y : V} {u : Value} {Q : Unit → Shared → Prop} (I : Inv X pins σ H s) (ea : H a = some (.ext (XAt a C none))) (c : XC X.K C G) (n : PySem.W.findIn X.K (.ref C) f = some none) (ry : RelV y u)
  (h : ∀ dx s', H dx = none → Inv X pins σ (upd (upd H dx (.xd [(f, y)])) a (.ext (XAt a C (some dx)))) s' → Q () s') : wpAny (model X.prog X.w) A (setAttr (.ref a) f u) Q E s := by
 obtain ⟨⟨o, vs, h1, h2, h3, h4⟩, _, _⟩ := (show ObjOk X.prog X.w H s.heap a (.ext (XAt a C none)) from I.hok a _ ea)
 obtain ⟨nm, q, N, bs, sn, sub, ab, col, k0, k1, k2, k3, k5, e⟩ := c.obj
 have X2 := I.kIn
 obtain ⟨hh, g, d, t, os⟩ := s
 refine x_store X2 (X2 _ _ e) c.sa n h1 h2 h4 h3 fun h' tk' dx z => ?_
 obtain ⟨z1, z2, z3, z4, z5⟩ := z
 have hdx : H dx = none := I.hok.fresh z2
 have hg0 : hh.get? dx = none := Heap.get?_none_of_le z2
 have hne : dx ≠ a := z3
 have mu : Mut (H a) := by rw [ea]; exact True.intro
 refine h dx _ hdx (I.un (t' := tk') (Un.setX mu hdx hg0 z5 ⟨_, z1⟩) fun b ob eb => ?_)
 by_cases hb : b = a
 ·subst hb
  rw [upd_same] at eb
  cases eb
  exact XAt.ok ⟨_, vs, z1, h2, rfl, h4⟩
 ·rw [upd_ne hb] at eb
  by_cases hb2 : b = dx
  ·subst hb2
   rw [upd_same] at eb
   cases eb
   refine ⟨_, z4, fun y' => ?_⟩
   show RelO (List.lookup y' [(f, y)]) _
   by_cases q : y' = f
   ·subst q
    rw [if_pos rfl]
    have e1 : List.lookup y' [(y', y)] = some y := by simp [List.lookup]
    rw [e1]; exact ry
   ·rw [if_neg q]
    have : (y' == f) = false := beq_eq_false_iff_ne.mpr q
    simp [List.lookup, this, RelO]
  ·rw [upd_ne hb2] at eb
   refine (I.hok b ob eb).stay (fun c w hc e => ?_) (fun c e => ?_) fun c xs e => ?_
   ·refine z5 c w ?_ e
    rintro rfl
    rcases hc with hc | hc
    ·exact hb hc.symm
    ·rw [ea] at hc; cases hc
   ·rw [upd_ne, upd_ne]
    ·exact e
    ·rintro rfl; rw [hdx] at e; cases e
    ·rintro rfl; rw [ea] at e; cases e
   ·rw [upd_ne, upd_ne]
    ·exact e
    ·rintro rfl; rw [hdx] at e; cases e
    ·rintro rfl; rw [ea] at e; cases e
end
section
variable {X : Cx} {o e value : Expr} {f : Str} {pos pos' : Pos} {ta tv : TE}
def tFldX (K : PySem.W.Frag) (ta : TE) (f : Str) : TE := fun σ H Q => ta σ H fun x H1 => ∃ a C G dx fs v, x = .ref a ∧ H1 a = some (.ext (XAt a C (some dx))) ∧ H1 dx = some (.xd fs) ∧ XC K C G ∧ PySem.W.findIn K (.ref C) f = some none ∧ fs.lookup f = some v ∧ Q v H1
theorem pe_fldX (he : PE X e ta) (hb : attributeBase e f X.env (eval e X.env) = eval e X.env) : PE X (.Attribute e f pos) (tFldX X.K ta f) := by
 intro pins s σ H Q I h
 refine attr_of hb (thn (he pins s σ H _ I h) fun u s1 ⟨x, H1, I1, rx, a, C, G, dx, fs, v, ex, ea, ed, c, n, l, q⟩ => ?_)
 subst ex
 obtain rfl : u = Value.ref a := rx
 exact getX I1 ea ed c n l fun u' s2 I2 ru => ⟨v, H1, I2, ru, q⟩
def sFldX (K : PySem.W.Frag) (ta tv : TE) (f : Str) : TS := fun D σ H => tv σ H fun y H1 => ta σ H1 fun x H2 => ∃ a C G, x = .ref a ∧ H2 a = some (.ext (XAt a C none)) ∧ XC K C G ∧ PySem.W.findIn K (.ref C) f = some none ∧
 ∀ dx, H2 dx = none → D.nx σ (upd (upd H2 dx (.xd [(f, y)])) a (.ext (XAt a C (some dx))))
theorem ps_fldX (ha : PE X o ta) (hv : PE X value tv) (hs : swapsWith value (some (.Attribute o f pos')) pos.line X.env = pure false) : PS X (.Assign [.Attribute o f pos'] value pos) (sFldX X.K ta tv f) := by
 intro pins s σ H D I h
 refine plainObj_wpAny_Assign_Attribute (thn (hv pins s σ H _ I h) fun u s1 ⟨y, H1, I1, ry, q⟩ => thn (ha pins s1 σ H1 _ I1 q) fun ov s2 ⟨x, H2, I2, rx, a, C, G, ex, ea, c, n, q2⟩ => ?_) hs
 subst ex
 obtain rfl : ov = Value.ref a := rx
 exact setX I2 ea c n ry fun dx s3 hdx I3 => ⟨σ, _, I3, q2 dx hdx⟩
end
end L2
namespace L2
open PySem PySem.Spec PyProof.Rows
theorem ObjOk.there {P : Program} {w : World} {H : Hp} {h : Heap} {a : Addr} {o : HO} (x : ObjOk P w H h a o) : ∃ ob, h.get? a = some ob := by
 cases o with
 | lst xs => obtain ⟨_, _, _, _, e⟩ := x; exact ⟨_, e⟩
 | tup xs => obtain ⟨_, _, _, ob, e, _⟩ := x; exact ⟨ob, e⟩
 | dK kvs => obtain ⟨_, _, _, _, o, _, _, e, _⟩ := x; exact ⟨o, e⟩
 | dT kvs => obtain ⟨_, _, _, _, o, _, _, e, _⟩ := x; exact ⟨o, e⟩
 | set S n => obtain ⟨o, _, _, _, e, _⟩ := x; exact ⟨o, e⟩
 | ins C dx fs => obtain ⟨_, _, _, e, _⟩ := x; exact ⟨_, e⟩
 | own y => exact x
 | xd fs => obtain ⟨_, ⟨o, _, _, e, _⟩, _⟩ := x; exact ⟨o, e⟩
 | rng lo hi => obtain ⟨_, _, _, e⟩ := x; exact ⟨_, e⟩
 | frz ob u => obtain ⟨e, _⟩ := x; exact ⟨ob, e⟩
 | tbl ps => exact ⟨_, (show h.get? a = some _ from x)⟩
 | met f y => exact ⟨_, (show h.get? a = some _ from x)⟩
 | ext φ => exact x.2.1
theorem HOk.not {P : Program} {w : World} {H : Hp} {h : Heap} {a : Addr} (x : HOk P w H h) (e : h.get? a = none) : H a = none := by
 cases q : H a with
 | none => rfl
 | some u => obtain ⟨ob, e2⟩ := (x a u q).there; rw [e] at e2; cases e2
section
variable {X : Cx} {pins : List (Addr × Obj)} {σ : St} {H : Hp} {s : Shared} {h' : Heap} {a : Addr} {o : HO}
theorem Inv.news {t' : Nat} (I : Inv X pins σ H s) (k : ∀ b u, s.heap.get? b = some u → h'.get? b = some u) (hn : s.heap.get? a = none) (new : ObjOk X.prog X.w (upd H a o) h' a o) : Inv X pins σ (upd H a o) { s with heap := h', toks := t' } := by
 have ha := I.hok.not hn
 refine I.un ⟨fun b u q _ _ _ => k b u q, fun b u q _ _ _ => ⟨u.slots, k b u q⟩, fun b u q n _ => ?_, fun b u q _ => ⟨u, k b u q⟩, fun b xs q => ?_, fun b u xs q => ?_, fun b ps q => ⟨#[], ?_⟩⟩ fun b u q => ?_
 ·rw [upd_ne (fun z => by rw [z, hn] at q; cases q)]; exact n
 ·rw [upd_ne (ne_of_none q ha)]; exact q
 ·rw [upd_ne (ne_of_none q ha)]; exact q
 ·rw [upd_ne (ne_of_none q ha), q]; simp
 ·by_cases hb : b = a
  ·subst hb; rw [upd_same] at q; cases q; exact new
  ·rw [upd_ne hb] at q
   exact (I.hok b u q).stay (fun c v _ e => k c v e) (fun c e => by rw [upd_ne (ne_of_none e ha)]; exact e) fun c xs e => by rw [upd_ne (ne_of_none e ha)]; exact e
end
structure XM (K : PySem.W.Frag) (C G fI : Addr) : Prop where
 c : XC K C G
 tail : ∀ h : Heap, K.In h → OwnTail h vmB (.ref G :: vmB)
 init : PySem.W.findIn K (.ref C) "__init__" = some (some (.ref fI))
 fn : PySem.W.typeIn K (.ref fI) = some (.type "function")
 kp : PySem.W.keepIn K (.ref C) = true
def spInit (K : PySem.W.Frag) (f : Str) : Sp := fun vs H Q _ => ∃ a C G v, vs = [.ref a, v] ∧ H a = some (.ext (XAt a C none)) ∧ XC K C G ∧ PySem.W.findIn K (.ref C) f = some none ∧ ∀ dx, H dx = none → Q .non (upd (upd H dx (.xd [(f, v)])) a (.ext (XAt a C (some dx))))
structure CalX (P : Program) (w : World) (K : PySem.W.Frag) (mg : Str → Option Value) (base : Heap) (k : Nat) (C : Addr) (x f : Str) : Prop where
 ex : ∃ (G fI : Addr) (fd : FuncData) (ps : List Str), FnOk P w K mg base CX0 k fI fd ps (spInit K f) ∧ Binds K fd ps [] ∧ XM K C G fI ∧ PySem.W.findIn K (.ref C) f = some none ∧ mg x = some (.ref C)
def tExc1 (C : Addr) (f : Str) (t : TA) : TE := fun σ H Q => t σ H fun vs H1 => ∃ v, vs = [v] ∧ ∀ e dx, H1 e = none → H1 dx = none → dx ≠ e → Q (.ref e) (upd (upd H1 dx (.xd [(f, v)])) e (.ext (XAt e C (some dx))))
section
variable {X : Cx} {k : Nat} {C : Addr} {x f : Str} {p pos : Pos} {e : Expr} {es : List Expr} {t : TA}
theorem run_exc1 {pins : List (Addr × Obj)} {σ : St} {H : Hp} {s : Shared} {Q : VK} {u : Value} {v : V} (M : CalX X.prog X.w X.K X.mg X.base k C x f) (hr : Room (k + 1) X.A) (I : Inv X pins σ H s) (r : RelV v u)
  (h : ∀ e dx, H e = none → H dx = none → dx ≠ e → Q (.ref e) (upd (upd H dx (.xd [(f, v)])) e (.ext (XAt e C (some dx))))) : wpAny (model X.prog X.w) X.A (call (.ref C) [u]) (EP X pins σ Q) X.xe s := by
 obtain ⟨G, fI, fd, ps, F, hb, m, na, hm⟩ := M.ex
 obtain ⟨nm, q, N, bs, sn, sub, ab, col, k0, k1, k2, k3, k5, ob⟩ := m.c.obj
 have X2 := I.kIn
 have I0 := I
 have hz : s.heap.get? (s.heap.objs.size + 1) = none := Heap.get?_none_of_le (Nat.le_succ _)
 have he0 := I.hok.not hz
 obtain ⟨hh, g, d, tk, os⟩ := s
 refine x_call1 X2 (X2 _ _ ob) (m.tail hh X2) m.init m.fn (by show 1 ≤ sizeLine; decide) fun h' made => ?_
 obtain ⟨tt, m1, m2, m3⟩ := made.there
 have new : XAt (hh.objs.size + 1) C none h' := ⟨_, _, m1, rfl, rfl, rfl⟩
 have I2 : Inv X pins σ (upd H (hh.objs.size + 1) (.ext (XAt (hh.objs.size + 1) C none))) { heap := h', gens := g, drawn := d, toks := tk, os := os } := I0.news (t' := tk) made.keeps hz new.ok
 have hsp : spInit X.K f [V.ref (hh.objs.size + 1), v] (upd H (hh.objs.size + 1) (.ext (XAt (hh.objs.size + 1) C none))) (fun y H2 => y = .non ∧ Q (.ref (hh.objs.size + 1)) H2) E0 := by
  refine ⟨_, C, G, v, rfl, upd_same, m.c, na, fun dx hdx => ⟨rfl, ?_⟩⟩
  have hne : dx ≠ hh.objs.size + 1 := fun z => by rw [z, upd_same] at hdx; cases hdx
  rw [upd_ne hne] at hdx
  have e1 : upd (upd (upd H (hh.objs.size + 1) (.ext (XAt (hh.objs.size + 1) C none))) dx (.xd [(f, v)])) (hh.objs.size + 1) (.ext (XAt (hh.objs.size + 1) C (some dx))) = upd (upd H dx (.xd [(f, v)])) (hh.objs.size + 1) (.ext (XAt (hh.objs.size + 1) C (some dx))) := by
   funext b
   unfold upd
   by_cases z : b = hh.objs.size + 1
   ·rw [if_pos z, if_pos z]
   ·rw [if_neg z, if_neg z, if_neg z]
  rw [e1]
  exact h _ dx he0 hdx hne
 have hl : [Value.ref (hh.objs.size + 1), u].length = ps.length := (F.len _ _ _ E0 hsp).symm ▸ rfl
 refine wpAny_call (codeAny_mono (F.run _ X.stack _ _ ⟨[Value.ref (hh.objs.size + 1), u], []⟩ [Value.ref (hh.objs.size + 1), u] [V.ref (hh.objs.size + 1), v] _ E0 (hr.make C [u] []) (I2.env0.make C [u] []) (hb _ [Value.ref (hh.objs.size + 1), u] I2.kIn (by rw [List.append_nil]; exact hl)) (.cons rfl (.cons r .nil)) hsp) fun r s' hq => ?_)
 cases r with
 | error e => exact hq.elim
 | ok fl =>
  cases fl with
  | ret w =>
   obtain ⟨y, H', I3, rv, ev, q3⟩ := I2.after hq
   subst ev
   exact ⟨rv, V.ref (hh.objs.size + 1), H', I3, rfl, q3⟩
  | next => exact False.elim hq
  | brk => exact False.elim hq
  | cont => exact False.elim hq
theorem pe_exc1 (M : CalX X.prog X.w X.K X.mg X.base k C x f) (hr : Room (k + 1) X.A) (ha : PA X (e :: es) t) (hg : Gl X x := by rfl) (hdb : (x == ("__debug__" : Str)) = false := by decide) (hn : nSt e = true := by rfl) (hp : es.all nSt = true := by rfl) :
  PE X (.Call (.Name x p) (e :: es) [] pos) (tExc1 C f t) := by
 intro pins s σ H Q I h
 obtain ⟨G, fI, fd, ps, F, hb, m, na, hm⟩ := id M.ex
 refine wpAny_Call_Name_kw (ld_glob I hg hm ?_ hdb)
 refine PySem.W.callWith_K (h₀ := X.base) I.ok.mod.kin m.kp (thn (ha pos pins s σ H _ I h) fun us s1 ⟨vs, H1, I1, r, q⟩ => ⟨I1.kIn, ?_⟩) (star_of hn) (plain_of hp)
 obtain ⟨v, rfl, q⟩ := q
 cases r with
 | cons r rr =>
  cases rr
  exact run_exc1 M hr I1 r q
end
end L2
namespace L2
open PySem PySem.Spec PyProof.Rows
def X0 (K : PySem.W.Frag) (C : Addr) : Prop := ∀ h : Heap, K.In h → ∃ bm N nm q bs hd sn sub ab col dd k0 k1 k2 k3 k5 mN,
 h.get? C = some (excClassObj nm q C N bs bm hd sn sub ab col dd k0 k1 k2 k3 k5 "ValueError.__new__") ∧ h.Ns N mN ∧ mN "__init__" = none ∧ OwnTail h vmB bm
theorem x0_of {K : PySem.W.Frag} {C : Addr} (q : PySem.W.excIn K C vmB "ValueError.__new__" = true) : X0 K C := fun h X => by
 unfold PySem.W.excIn at q
 split at q
 case h_2 => cases q
 case h_1 dd cd sl ho =>
  split at q
  case h_2 => cases q
  case h_1 C' bm k0 k1 k2 k3 n k5 hm hs =>
   simp only [Bool.and_eq_true, beq_iff_eq, Bool.not_eq_true'] at q
   obtain ⟨⟨⟨⟨⟨e1, e2⟩, hdel⟩, ht⟩, hok⟩, hni⟩ := q
   subst e1 e2
   cases cd with
   | mk nm bs mro ns qn hd sn sub ab col del =>
    cases sl with
    | mk l =>
     have hs : l = [k0, k1, k2, k3, some (.builtin "ValueError.__new__"), k5] := hs
     have hm : mro = .ref C' :: bm := hm
     have hdel : del = false := hdel
     subst hs hm hdel
     refine ⟨bm, ns, nm, qn, bs, hd, sn, sub, ab, col, dd, k0, k1, k2, k3, k5, _, X _ _ ho, .of_isNs (PySem.W.isNs_of_in X hok), PySem.W.nsMap_none_of_in X hok hni, PySem.W.tail_of_in X ht⟩
theorem tail_of {K : PySem.W.Frag} {G : Addr} (q : PySem.W.excIn K G vmB "ValueError.__new__" = true) (hg : ∃ nm q N bs sn sub ab col k0 k1 k2 k3 k5, K.lookup G = some (excClassObj nm q G N bs vmB true sn sub ab col none k0 k1 k2 k3 k5 "ValueError.__new__")) :
  ∀ h : Heap, K.In h → OwnTail h vmB (.ref G :: vmB) := fun h X => by
 obtain ⟨bm, N, nm, qn, bs, hd, sn, sub, ab, col, dd, k0, k1, k2, k3, k5, mN, h1, h2, h3, _⟩ := x0_of q h X
 exact .own h1 h2 h3 .base
def tExc0 (C : Addr) : TE := fun σ H Q => ∀ e, H e = none → Q (.ref e) (upd H e (.ext (XAt e C none)))
section
variable {X : Cx} {C : Addr} {x : Str} {p pos : Pos}
theorem pe_exc0 (z : X0 X.K C) (kp : PySem.W.keepIn X.K (.ref C) = true) (hm : X.mg x = some (.ref C)) (hg : Gl X x := by rfl) (hdb : (x == ("__debug__" : Str)) = false := by decide) : PE X (.Call (.Name x p) [] [] pos) (tExc0 C) := by
 intro pins s σ H Q I h
 refine wpAny_Call_Name_kw (ld_glob I hg hm ?_ hdb)
 refine PySem.W.callWith_K0 I.kIn kp ?_
 obtain ⟨bm, N, nm, qn, bs, hd, sn, sub, ab, col, dd, k0, k1, k2, k3, k5, mN, h1, h2, h3, h4⟩ := z s.heap I.kIn
 have I0 := I
 obtain ⟨hh, g, d, tk, os⟩ := s
 refine wpAny_call_exc_subT PySem.F.excBase_ValueError h4 h1 h2 h3 (fun h' e made => ?_) (by show 0 ≤ sizeLine; exact Nat.zero_le _)
 obtain ⟨tt, m1, m2, m3⟩ := made.there
 have new : XAt e C none h' := ⟨_, _, m1, rfl, rfl, rfl⟩
 exact ⟨V.ref e, _, I0.news (t' := tk) made.keeps made.new new.ok, rfl, h e (I0.hok.not made.new)⟩
def rIsX (K : PySem.W.Frag) (D : Addr) : List V → Hp → VK → Prop := fun xs H Q => ∃ a C G dd b, xs = [.ref a, .ref D] ∧ H a = some (.ext (XAt a C dd)) ∧ XC K C G ∧ PySem.W.kitOne K (.ref C) (.ref D) = some b ∧ Q (.bl b) H
theorem call_isX {D : Addr} : CallR X (.builtin "isinstance") (rIsX X.K D) := by
 intro pins s σ H xs us Q I r h
 obtain ⟨a, C, G, dd, b, rfl, ea, c, e, q⟩ := h
 obtain ⟨u, w', rfl, rx, ry⟩ := vals2 r
 cases (show u = Value.ref a from rx)
 cases (show w' = Value.ref D from ry)
 have ok := (show ObjOk X.prog X.w H s.heap a (.ext (XAt a C dd)) from I.hok a _ ea)
 exact PySem.W.kia_one (kitx_exc c) I.kIn ok.1 e (fun z => nomatch z) fun tk => ⟨.bl b, H, I.tok _, rfl, q⟩
def rIsXT (K : PySem.W.Frag) : List V → Hp → VK → Prop := fun xs H Q => ∃ a C G dd n b, xs = [.ref a, .ty n] ∧ H a = some (.ext (XAt a C dd)) ∧ XC K C G ∧ PySem.W.kitOne K (.ref C) (.type n) = some b ∧ Q (.bl b) H
theorem call_isXT : CallR X (.builtin "isinstance") (rIsXT X.K) := by
 intro pins s σ H xs us Q I r h
 obtain ⟨a, C, G, dd, n, b, rfl, ea, c, e, q⟩ := h
 obtain ⟨u, w', rfl, rx, ry⟩ := vals2 r
 cases (show u = Value.ref a from rx)
 cases (show w' = Value.type n from ry)
 have ok := (show ObjOk X.prog X.w H s.heap a (.ext (XAt a C dd)) from I.hok a _ ea)
 exact PySem.W.kia_one (kitx_exc c) I.kIn ok.1 e (fun z => nomatch z) fun tk => ⟨.bl b, H, I.tok _, rfl, q⟩
end
end L2
namespace L2
open PySem PySem.Spec PyProof.Rows
def XCl (K : PySem.W.Frag) (c : Str) : Prop := ∃ dd cd sl, K.lookup (clsOf K c) = some ⟨.type "type", dd, .cls cd, sl⟩ ∧ cd.name = c
structure XAll (K : PySem.W.Frag) (cs : List Str) : Prop where
 g : XCl K "GlueError"
 n : ∀ c ∈ cs, XCl K c
 c : ∀ c ∈ cs, XC K (clsOf K c) (clsOf K "GlueError")
section
variable {K : PySem.W.Frag} {C G D : Addr} {c d : Str}
theorem XCl.ne (h1 : XCl K c) (h2 : XCl K d) (n : c ≠ d) : clsOf K c ≠ clsOf K d := fun e => by
 obtain ⟨_, cd, _, l1, n1⟩ := h1
 obtain ⟨_, cd2, _, l2, n2⟩ := h2
 rw [e, l2] at l1
 cases l1
 exact n (n1.symm.trans n2)
theorem kit_sub (x : XC K C G) (base : Value) : PySem.W.subIn K (.ref C) base = some ((Value.ref C :: .ref G :: vmB).contains base) := by
 obtain ⟨nm, q, N, bs, sn, sub, ab, col, k0, k1, k2, k3, k5, e⟩ := x.obj
 show PySem.W.mroIn K C base = _
 unfold PySem.W.mroIn PySem.W.clsIn
 rw [e]
 rfl
theorem kit_own (x : XC K C G) (y : ∃ dd cd sl, K.lookup D = some ⟨.type "type", dd, .cls cd, sl⟩) : PySem.W.kitOne K (.ref C) (.ref D) = some (decide (C = D) || decide (D = G)) := by
 obtain ⟨dd, cd, sl, e⟩ := y
 unfold PySem.W.kitOne
 by_cases h : C = D
 ·subst h; simp
 ·rw [if_neg (fun z => h (Value.ref.inj (beq_iff_eq.mp z)))]
  unfold PySem.W.kitCls
  have e1 : ((PySem.W.clsIn K D).isSome && PySem.W.typeIn K (.ref D) == some (.type "type")) = true := by
   have e2 : PySem.W.clsIn K D = some cd := by unfold PySem.W.clsIn; rw [e]
   have e3 : PySem.W.typeIn K (.ref D) = some (.type "type") := by show (K.lookup D).map (·.cls) = _; rw [e]; rfl
   rw [e2, e3]
   rfl
  show (if ((PySem.W.clsIn K D).isSome && PySem.W.typeIn K (.ref D) == some (.type "type")) = true then PySem.W.subIn K (.ref C) (.ref D) else none) = _
  rw [if_pos e1, kit_sub x, decide_eq_false h, Bool.false_or]
  congr 1
  rw [List.contains_cons, List.contains_cons]
  have t1 : (Value.ref D == Value.ref C) = false := beq_eq_false_iff_ne.mpr fun z => h (Value.ref.inj z).symm
  have t2 : vmB.contains (Value.ref D) = false := rfl
  rw [t1, t2, Bool.false_or, Bool.or_false]
  by_cases g : D = G
  ·subst g; simp
  ·rw [decide_eq_false g]; exact beq_eq_false_iff_ne.mpr fun z => g (Value.ref.inj z)
theorem kit_val (x : XC K C G) : PySem.W.kitOne K (.ref C) (.type "ValueError") = some true := by
 unfold PySem.W.kitOne
 rw [if_neg (by intro z; cases beq_iff_eq.mp z)]
 unfold PySem.W.kitCls
 show (if PySem.W.kitMeta "ValueError" = true then PySem.W.subIn K (.ref C) (.type "ValueError") else none) = _
 rw [if_pos (by decide +kernel), kit_sub x]
 rfl
end
def isaX (c d : Str) : Bool := decide (c = d) || decide (d = "GlueError")
theorem kit_isa {K : PySem.W.Frag} {cs : List Str} (X : XAll K cs) {c d : Str} (hc : c ∈ cs) (hd : d ∈ cs ∨ d = "GlueError") : PySem.W.kitOne K (.ref (clsOf K c)) (.ref (clsOf K d)) = some (isaX c d) := by
 have yd : XCl K d := hd.elim (X.n d) fun e => by rw [e]; exact X.g
 obtain ⟨dd, cd, sl, e1, e2⟩ := id yd
 rw [kit_own (X.c c hc) ⟨dd, cd, sl, e1⟩]
 unfold isaX
 congr 2
 ·by_cases h : c = d
  ·subst h; rw [decide_eq_true rfl, decide_eq_true rfl]
  ·rw [decide_eq_false h, decide_eq_false ((X.n c hc).ne yd h)]
 ·by_cases h : d = "GlueError"
  ·subst h; rw [decide_eq_true rfl, decide_eq_true rfl]
  ·rw [decide_eq_false h, decide_eq_false (yd.ne X.g h)]
section
variable {K : PySem.W.Frag} {ta : TA} {te : TE} {pa : PTA} {pe : PA1} {cs : List Str}
theorem FVc.exc {O : Addr → Prop} {H : Hp} {v : V} {c : Str} {ns : List Str} {ds : List D} (h : FVc K O H v (.exc c ns ds)) : FV K O H v (.exc c ns ds) := h.fv nofun nofun
def pExc1 (c f : Str) (pa : PTA) : PTE := fun ρ Q => pa ρ fun as ρ1 => match avD as with
 | some [d] => Q (.dat (.exc c [f] [d])) ρ1
 | _ => False
theorem le_exc1 {c f : Str} (h : LAs K ta pa) : LE K (tExc1 (clsOf K c) f ta) (pExc1 c f pa) := fun A ρ σ H Q Q' R q k =>
 h A ρ σ H _ _ R q fun vs H1 as ρ1 q1 f1 R1 o1 => by
  split at q1
  ·rename_i d e1
   have fs := o1.avD e1
   cases fs with
   | @cons v _ _ _ fv fr =>
    cases fr
    refine ⟨_, rfl, fun e dx he hdx hne => ?_⟩
    have he2 : upd H1 dx (.xd [(f, v)]) e = none := by rw [upd_ne (fun z => hne z.symm)]; exact he
    have g1 : Gr H1 (upd H1 dx (.xd [(f, v)])) := Gr.new hdx
    have g2 := Gr.new (o := .ext (XAt e (clsOf K c) (some dx))) he2
    have g : Gr H1 (upd (upd H1 dx (.xd [(f, v)])) e (.ext (XAt e (clsOf K c) (some dx)))) := fun b o z => g2 b o (g1 b o z)
    refine k _ _ _ ρ1 q1 (f1.trans g.fr) ⟨R1.gr g, .exc1 (fs := [(f, v)]) (fun z => R1.dom2 e z he) (fun z => R1.dom2 dx z hdx) upd_same (by rw [upd_ne hne]; exact upd_same) rfl (.cons (fv.keeps fun b o n z => ⟨n, g b o z⟩) .nil)⟩
  ·exact q1.elim
def pExc0 (c : Str) : PTE := fun ρ Q => Q (.dat (.exc c [] [])) ρ
theorem le_exc0 {c : Str} : LE K (tExc0 (clsOf K c)) (pExc0 c) := fun A ρ σ H Q Q' R q k e he =>
 have g : Gr H (upd H e (.ext (XAt e (clsOf K c) none))) := Gr.new he
 k _ _ _ ρ q g.fr ⟨R.gr g, .exc0 (fun z => R.dom2 e z he) upd_same⟩
def pFldX (cs : List Str) (ats : List (Str × Str)) (f : Str) (pa : PA1) : PTE := fun ρ Q => pa ρ fun x ρ1 => match cont ρ1 x with
 | some (.exc c ns ds) => (cs.contains c = true ∧ ats.contains (c, f) = true) ∧ ∃ i, nameIx f ns = some i ∧ ∃ d, ds[i]? = some d ∧ Q (.dat d) ρ1
 | _ => False
theorem le_fldX {ats : List (Str × Str)} {f : Str} (X : XAll K cs) (hat : ∀ c g, (c, g) ∈ ats → PySem.W.findIn K (.ref (clsOf K c)) g = some none) (h : LA1 K te pe) : LE K (tFldX K te f) (pFldX cs ats f pe) := fun A ρ σ H Q Q' R q k => h A ρ σ H _ _ R q fun v H1 a ρ1 q1 f1 R1 o1 => by
 split at q1
 ·rename_i c ns ds e
  obtain ⟨⟨hc, ha⟩, i, hi, d, hd, q1⟩ := q1
  have hc : c ∈ cs := List.contains_iff_mem.mp hc
  cases (R1.cont o1 e).exc with
  | exc0 n1 e1 => cases hd
  | exc1 n1 n2 e1 e2 m f =>
   obtain ⟨v, hv, fv⟩ := f.getD hd
   exact ⟨_, _, _, _, _, v, rfl, e1, e2, X.c c hc, hat c _ (List.contains_iff_mem.mp ha), by rw [lookup_ix (k := i) (by rw [m]; exact hi)]; exact hv, k v H1 _ ρ1 q1 f1 ⟨R1, fv⟩⟩
 ·exact q1.elim
def pIsX (cs : List Str) (d : Str) (pa : PA1) : PTE := fun ρ Q => pa ρ fun x ρ1 => match cont ρ1 x with
 | some (.exc c ns ds) => cs.contains c = true ∧ Q (.dat (.bl (isaX c d))) ρ1
 | _ => False
theorem le_isX {d : Str} (X : XAll K cs) (hd : d ∈ cs ∨ d = "GlueError") (h : LA1 K te pe) : LE K (tCB (rIsX K (clsOf K d)) (tCons te (tCons (tC (.ref (clsOf K d))) tNil))) (pIsX cs d pe) := fun A ρ σ H Q Q' R q k => h A ρ σ H _ _ R q fun v H1 a ρ1 q1 f1 R1 o1 => by
 split at q1
 ·rename_i c ns ds e
  obtain ⟨hc, q1⟩ := q1
  have hc : c ∈ cs := List.contains_iff_mem.mp hc
  have ek := kit_isa X hc hd
  cases (R1.cont o1 e).exc with
  | exc0 n1 e1 => exact ⟨_, _, _, _, _, rfl, e1, X.c c hc, ek, k _ H1 _ ρ1 q1 f1 ⟨R1, .bl _⟩⟩
  | exc1 n1 n2 e1 e2 m f => exact ⟨_, _, _, _, _, rfl, e1, X.c c hc, ek, k _ H1 _ ρ1 q1 f1 ⟨R1, .bl _⟩⟩
 ·exact q1.elim
def pIsV (cs : List Str) (pa : PA1) : PTE := fun ρ Q => pa ρ fun x ρ1 => match cont ρ1 x with
 | some (.exc c ns ds) => cs.contains c = true ∧ Q (.dat (.bl true)) ρ1
 | _ => False
theorem le_isV (X : XAll K cs) (h : LA1 K te pe) : LE K (tCB (rIsXT K) (tCons te (tCons (tC (.ty "ValueError")) tNil))) (pIsV cs pe) := fun A ρ σ H Q Q' R q k => h A ρ σ H _ _ R q fun v H1 a ρ1 q1 f1 R1 o1 => by
 split at q1
 ·rename_i c ns ds e
  obtain ⟨hc, q1⟩ := q1
  have hc : c ∈ cs := List.contains_iff_mem.mp hc
  have ek := kit_val (X.c c hc)
  cases (R1.cont o1 e).exc with
  | exc0 n1 e1 => exact ⟨_, _, _, _, _, _, rfl, e1, X.c c hc, ek, k _ H1 _ ρ1 q1 f1 ⟨R1, .bl _⟩⟩
  | exc1 n1 n2 e1 e2 m f => exact ⟨_, _, _, _, _, _, rfl, e1, X.c c hc, ek, k _ H1 _ ρ1 q1 f1 ⟨R1, .bl _⟩⟩
 ·exact q1.elim
end
section
variable {X : Cx}
theorem u_isX (K : PySem.W.Frag) (e : X.K = K) {D : Addr} : CallR X (.builtin "isinstance") (rIsX K D) := by subst e; exact call_isX
theorem u_isV (K : PySem.W.Frag) (e : X.K = K) : CallR X (.builtin "isinstance") (rIsXT K) := by subst e; exact call_isXT
theorem pe_clsN {x : Str} {C : Addr} {p : Pos} (hm : X.mg x = some (.ref C)) (hg : Gl X x := by rfl) (hdb : (x == ("__debug__" : Str)) = false := by decide) : PE X (.Name x p) (tC (.ref C)) := by
 intro pins s σ H Q I h
 exact ld_glob I hg hm ⟨.ref C, H, I, rfl, h⟩ hdb
end
end L2
namespace L2
open PySem PySem.Spec PyProof.Rows
section
variable {P : Program} {w : World} {K : PySem.W.Frag} {mg : Str → Option Value} {base : Heap} {x qual nm : Str} {C G fI : Addr} {st : Stmt} {fd : FuncData} {N ps : List Str}
theorem calX_of (F : Fun K "__init__" qual st fI fd) (S : FnScope N ps (defScope st)) (hl : ps.length = 2)
  (hb : ∀ (kV doc pm : Value) (an : Option Addr) (cdv ct : Value) (us : List Value), us.length = ps.length → bindArgs (PySem.W.fnOf "__init__" qual (defArgs st) (defBody st) (defScope st) .none kV doc pm an cdv ct) ⟨us, []⟩ = pure (ps.zip us))
  (hp : ∀ (cdv : Value) (A : Around) (outer : List Env) (s : Shared) (H : Hp) (E : XK), PSs (cxOf CX0 P w K mg base N qual (defScope st) fI cdv A outer s H E).nox (defBody st) (sFldX K (tVar 0) (tVar 1) nm))
  (m : XM K C G fI) (na : PySem.W.findIn K (.ref C) nm = some none) (hm : mg x = some (.ref C)) : CalX P w K mg base 1 C x nm := by
 refine ⟨G, fI, fd, ps, F.ok (k := 0) S (fun vs H Q E h => ?_) (fun cdv A outer s H vs Q E hr h => ⟨_, hp cdv A outer s H E, ?_⟩), F.binds hb, m, na, hm⟩
 ·obtain ⟨a, C, G, v, rfl, _⟩ := h
  exact hl.symm
 ·obtain ⟨a, C, G, v, rfl, ea, c, n, q⟩ := h
  exact ⟨v, rfl, .ref a, rfl, a, C, G, rfl, ea, c, n, fun dx hdx => q dx hdx⟩
end
section
variable {X : Cx} {e : Expr} {f : Str} {pos : Pos} {ta : TE}
theorem pe_fldXK (K : PySem.W.Frag) (ek : X.K = K) (he : PE X e ta) (hb : attributeBase e f X.env (eval e X.env) = eval e X.env) : PE X (.Attribute e f pos) (tFldX K ta f) := by subst ek; exact pe_fldX he hb
theorem ps_fldXK (K : PySem.W.Frag) (ek : X.K = K) {o value : Expr} {pos' : Pos} {tv : TE} (ha : PE X o ta) (hv : PE X value tv) (hs : swapsWith value (some (.Attribute o f pos')) pos.line X.env = pure false) : PS X (.Assign [.Attribute o f pos'] value pos) (sFldX K ta tv f) := by subst ek; exact ps_fldX ha hv hs
end
end L2
namespace K76
open PySem PySem.Spec PyProof.Rows L2
def top (i : Nat) : Stmt := PySem.Challenge.pw_shortglue_k76_errors.main.body.getD i (.Pass ⟨0, 0, 0, 0⟩)
abbrev s_law_number : Stmt := top 18
abbrev s_law_made : Stmt := top 19
abbrev s_law_kinds : Stmt := top 20
abbrev s_law_fields : Stmt := top 21
abbrev s_law : Stmt := top 22
theorem sc_law_number : FnScope ["_law_script", "_law_k", "_law_cell"] ["_law_script", "_law_k"] (defScope s_law_number) := ⟨rfl, rfl, rfl, by decide +kernel, rfl, by decide +kernel, by decide +kernel⟩
theorem sc_law_made : FnScope ["_law_numbers", "_law_found"] ["_law_numbers"] (defScope s_law_made) := ⟨rfl, rfl, rfl, by decide +kernel, rfl, by decide +kernel, by decide +kernel⟩
theorem sc_law_kinds : FnScope ["_law_one", "_law_found"] ["_law_one"] (defScope s_law_kinds) := ⟨rfl, rfl, rfl, by decide +kernel, rfl, by decide +kernel, by decide +kernel⟩
theorem sc_law_fields : FnScope ["_law_made_here", "_law_found"] ["_law_made_here"] (defScope s_law_fields) := ⟨rfl, rfl, rfl, by decide +kernel, rfl, by decide +kernel, by decide +kernel⟩
theorem sc_law : FnScope ["_law_script", "_law_numbers", "_law_others", "_law_made_here", "_law_later", "_law_k", "_law_one"] ["_law_script"] (defScope s_law) := ⟨rfl, rfl, rfl, by decide +kernel, rfl, by decide +kernel, by decide +kernel⟩
structure Txt (mg : Str → Option Value) : Prop where
 b_ValueError : mg "ValueError" = none
 b_enumerate : mg "enumerate" = none
 b_isinstance : mg "isinstance" = none
 b_len : mg "len" = none
 b_range : mg "range" = none
abbrev s_TooMany_init : Stmt := inClass (top 2) 0
theorem sc_TooMany_init : FnScope ["self", "most"] ["self", "most"] (defScope s_TooMany_init) := ⟨rfl, rfl, rfl, by decide +kernel, rfl, by decide +kernel, by decide +kernel⟩
abbrev s_NoPiece_init : Stmt := inClass (top 3) 0
theorem sc_NoPiece_init : FnScope ["self", "at"] ["self", "at"] (defScope s_NoPiece_init) := ⟨rfl, rfl, rfl, by decide +kernel, rfl, by decide +kernel, by decide +kernel⟩
abbrev s_NoLap_init : Stmt := inClass (top 4) 0
theorem sc_NoLap_init : FnScope ["self", "k"] ["self", "k"] (defScope s_NoLap_init) := ⟨rfl, rfl, rfl, by decide +kernel, rfl, by decide +kernel, by decide +kernel⟩
abbrev s_NotHeld_init : Stmt := inClass (top 6) 0
theorem sc_NotHeld_init : FnScope ["self", "at"] ["self", "at"] (defScope s_NotHeld_init) := ⟨rfl, rfl, rfl, by decide +kernel, rfl, by decide +kernel, by decide +kernel⟩
abbrev s_TooGreat_init : Stmt := inClass (top 9) 0
theorem sc_TooGreat_init : FnScope ["self", "most"] ["self", "most"] (defScope s_TooGreat_init) := ⟨rfl, rfl, rfl, by decide +kernel, rfl, by decide +kernel, by decide +kernel⟩
abbrev s_NotApart_init : Stmt := inClass (top 11) 0
theorem sc_NotApart_init : FnScope ["self", "at"] ["self", "at"] (defScope s_NotApart_init) := ⟨rfl, rfl, rfl, by decide +kernel, rfl, by decide +kernel, by decide +kernel⟩
abbrev s_NoCounts_init : Stmt := inClass (top 12) 0
theorem sc_NoCounts_init : FnScope ["self", "at"] ["self", "at"] (defScope s_NoCounts_init) := ⟨rfl, rfl, rfl, by decide +kernel, rfl, by decide +kernel, by decide +kernel⟩
abbrev s_NotCovered_init : Stmt := inClass (top 13) 0
theorem sc_NotCovered_init : FnScope ["self", "at"] ["self", "at"] (defScope s_NotCovered_init) := ⟨rfl, rfl, rfl, by decide +kernel, rfl, by decide +kernel, by decide +kernel⟩
abbrev s_NoLine_init : Stmt := inClass (top 14) 0
theorem sc_NoLine_init : FnScope ["self", "at"] ["self", "at"] (defScope s_NoLine_init) := ⟨rfl, rfl, rfl, by decide +kernel, rfl, by decide +kernel, by decide +kernel⟩
abbrev xcs : List Str := ["TooMany", "NoPiece", "NoLap", "NoOrder", "NotHeld", "NoTable", "NoRing", "TooGreat", "NoWords", "NotApart", "NoCounts", "NotCovered", "NoLine", "NoPaper", "NotTold"]
abbrev xats : List (Str × Str) := [("TooMany", "most"), ("NoPiece", "at"), ("NoLap", "k"), ("NotHeld", "at"), ("TooGreat", "most"), ("NotApart", "at"), ("NoCounts", "at"), ("NotCovered", "at"), ("NoLine", "at")]
structure TxX (K : PySem.W.Frag) (mg : Str → Option Value) : Prop where
 all : XAll K xcs
 at_ : ∀ c g, (c, g) ∈ xats → PySem.W.findIn K (.ref (clsOf K c)) g = some none
 m_TooMany : mg "TooMany" = some (.ref (clsOf K "TooMany"))
 m_NoPiece : mg "NoPiece" = some (.ref (clsOf K "NoPiece"))
 m_NoLap : mg "NoLap" = some (.ref (clsOf K "NoLap"))
 m_NoOrder : mg "NoOrder" = some (.ref (clsOf K "NoOrder"))
 m_NotHeld : mg "NotHeld" = some (.ref (clsOf K "NotHeld"))
 m_NoTable : mg "NoTable" = some (.ref (clsOf K "NoTable"))
 m_NoRing : mg "NoRing" = some (.ref (clsOf K "NoRing"))
 m_TooGreat : mg "TooGreat" = some (.ref (clsOf K "TooGreat"))
 m_NoWords : mg "NoWords" = some (.ref (clsOf K "NoWords"))
 m_NotApart : mg "NotApart" = some (.ref (clsOf K "NotApart"))
 m_NoCounts : mg "NoCounts" = some (.ref (clsOf K "NoCounts"))
 m_NotCovered : mg "NotCovered" = some (.ref (clsOf K "NotCovered"))
 m_NoLine : mg "NoLine" = some (.ref (clsOf K "NoLine"))
 m_NoPaper : mg "NoPaper" = some (.ref (clsOf K "NoPaper"))
 m_NotTold : mg "NotTold" = some (.ref (clsOf K "NotTold"))
 m_GlueError : mg "GlueError" = some (.ref (clsOf K "GlueError"))
 z_NoOrder : X0 K (clsOf K "NoOrder")
 kp_NoOrder : PySem.W.keepIn K (.ref (clsOf K "NoOrder")) = true
 z_NoTable : X0 K (clsOf K "NoTable")
 kp_NoTable : PySem.W.keepIn K (.ref (clsOf K "NoTable")) = true
 z_NoRing : X0 K (clsOf K "NoRing")
 kp_NoRing : PySem.W.keepIn K (.ref (clsOf K "NoRing")) = true
 z_NoWords : X0 K (clsOf K "NoWords")
 kp_NoWords : PySem.W.keepIn K (.ref (clsOf K "NoWords")) = true
 z_NoPaper : X0 K (clsOf K "NoPaper")
 kp_NoPaper : PySem.W.keepIn K (.ref (clsOf K "NoPaper")) = true
 z_NotTold : X0 K (clsOf K "NotTold")
 kp_NotTold : PySem.W.keepIn K (.ref (clsOf K "NotTold")) = true
local macro_rules | `(tactic| walk_at "s") => `(tactic| first | omega | rfl | assumption | exact Nat.le_of_ble_eq_true rfl | (simp only [List.length_cons, List.length_nil, List.length_append, List.length_map]; omega) | (refine ⟨?_, ?_⟩ <;> first | omega | rfl | assumption | exact Nat.le_of_ble_eq_true rfl | (refine ⟨?_, ?_⟩ <;> first | omega | rfl | assumption | exact Nat.le_of_ble_eq_true rfl | (refine ⟨?_, ?_⟩ <;> first | omega | rfl | assumption | exact Nat.le_of_ble_eq_true rfl | fail) | fail) | fail) | fail)
local macro_rules | `(tactic| walk_at "r") => `(tactic| ((conv => whnf); repeat (first | (refine And.intro (by walk_at "s") ?_; (conv => whnf)) | (refine ⟨_, rfl, ?_⟩; (conv => whnf)) | (refine pitT (by assumption) ?_; (conv => whnf)) | (refine pitF (by assumption) ?_; (conv => whnf)) | (refine pitNT (by assumption) ?_; (conv => whnf)) | (refine pitNF (by assumption) ?_; (conv => whnf)) | (refine piteT (by first | rfl | assumption | omega) ?_; (conv => whnf)) | (refine piteF (by first | assumption | omega) ?_; (conv => whnf)) | (refine piteNT (by first | assumption | omega) ?_; (conv => whnf)) | (refine piteNF (by first | rfl | assumption | omega) ?_; (conv => whnf)))))
def madeD (a0 a1 a2 a3 a4 a5 a6 a7 a8 : Int) : List D := [.exc "TooMany" ["most"] [.int a0], .exc "NoPiece" ["at"] [.int a1], .exc "NoLap" ["k"] [.int a2], .exc "NoOrder" [] [], .exc "NotHeld" ["at"] [.int a3], .exc "NoTable" [] [], .exc "NoRing" [] [], .exc "TooGreat" ["most"] [.int a4], .exc "NoWords" [] [], .exc "NotApart" ["at"] [.int a5], .exc "NoCounts" ["at"] [.int a6], .exc "NotCovered" ["at"] [.int a7], .exc "NoLine" ["at"] [.int a8], .exc "NoPaper" [] [], .exc "NotTold" [] []]
def kindsD (c : Str) : List D := [.bl (isaX c "TooMany"), .bl (isaX c "NoPiece"), .bl (isaX c "NoLap"), .bl (isaX c "NoOrder"), .bl (isaX c "NotHeld"), .bl (isaX c "NoTable"), .bl (isaX c "NoRing"), .bl (isaX c "TooGreat"), .bl (isaX c "NoWords"), .bl (isaX c "NotApart"), .bl (isaX c "NoCounts"), .bl (isaX c "NotCovered"), .bl (isaX c "NoLine"), .bl (isaX c "NoPaper"), .bl (isaX c "NotTold")]
def nn_law_number : Nat := 3
def pc_law_number : FN
 | [.scr ns, .int k], Q => 0 ≤ k ∧ ∀ z : Int, Q (.dat (.int z))
 | _, _ => False
def nn_law_made : Nat := 2
def pc_law_made : FN
 | [.lst [.int a0, .int a1, .int a2, .int a3, .int a4, .int a5, .int a6, .int a7, .int a8]], Q => Q (.own (madeD a0 a1 a2 a3 a4 a5 a6 a7 a8))
 | _, _ => False
def nn_law_kinds : Nat := 2
def pc_law_kinds : FN
 | [.exc c ns ds], Q => xcs.contains c = true ∧ Q (.own (kindsD c))
 | _, _ => False
def nn_law_fields : Nat := 2
def pc_law_fields : FN
 | [.lst ds], Q => ∃ a0 a1 a2 a3 a4 a5 a6 a7 a8 : Int, ds = madeD a0 a1 a2 a3 a4 a5 a6 a7 a8 ∧ Q (.own [.int a0, .int a1, .int a2, .int a3, .int a4, .int a5, .int a6, .int a7, .int a8])
 | _, _ => False
def nn_law : Nat := 7
abbrev pc_law : FN := cLaw
def pp_law_number : PTS := (psSeq (psAsg (pOp fMul (pFz (pC (.int 7))) (pSl 1)) (pgName 2)) (psSeq (psJoin (psIf (pB (pOp fGt (pFz (pCB fLen (paCons (pSl 0) paNil))) (pFz (pC (.int 0))))) (psAsg (pOp fAdd (pFz (pOp fIx (pSl 0) (pFz (pOp fMod (pSl 1) (pFz (pCB fLen (paCons (pSl 0) paNil))))))) (pSl 1)) (pgName 2)) psNext)) (psRet (pOp fSub (pFz (pOp fMod (pSl 2) (pFz (pOp fAdd (pFz (pOp fPow (pFz (pC (.int 10))) (pFz (pC (.int 18))))) (pFz (pC (.int 50))))))) (pFz (pC (.int 50)))))))
set_option maxHeartbeats 4000000 in
theorem rd_law_number_ (ns : List Int) (k : Int) (Q : PV → Prop) (h : pc_law_number ([.scr ns, .int k]) Q) : RunP pp_law_number nn_law_number ([.scr ns, .int k]) Q := by
 obtain ⟨hk, q⟩ := h
 walk_at "r"
 refine ⟨fun ρ => ∃ c : Int, ρ = [some (.dat (.scr ns)), some (.dat (.int k)), some (.dat (.int c))], ?_, ?_⟩
 ·walk_at "r"
  refine piteD (fun c => ?_) (fun c => ⟨_, rfl⟩)
  have h0 : 0 ≤ k % (ns.length : Int) := Int.emod_nonneg _ (by omega)
  have h1 : k % (ns.length : Int) < (ns.length : Int) := Int.emod_lt_of_pos _ (by omega)
  walk_at "r"
  refine ⟨_, atI_of (j := (k % (ns.length : Int)).toNat) (List.getElem?_eq_getElem (by omega)) (by omega), ?_⟩
  exact ⟨_, rfl⟩
 ·rintro ρ ⟨c, rfl⟩
  walk_at "r"
  refine ⟨by show (0 : Int) < 10 ^ 18 + 50; decide, ?_⟩
  walk_at "r"
  exact q _
theorem rd_law_number : ∀ ds Q, pc_law_number ds Q → RunP pp_law_number nn_law_number ds Q := fun ds Q h => by
 unfold pc_law_number at h
 split at h
 ·exact rd_law_number_ _ _ _ h
 ·exact h.elim
def pp_law_made : PTS := (psSeq (psAsg (pLst (paCons (pFz (pExc1 "TooMany" "most" (paCons (pFz (pOp fIx (pSl 0) (pFz (pC (.int 0))))) paNil))) (paCons (pFz (pExc1 "NoPiece" "at" (paCons (pFz (pOp fIx (pSl 0) (pFz (pC (.int 1))))) paNil))) (paCons (pFz (pExc1 "NoLap" "k" (paCons (pFz (pOp fIx (pSl 0) (pFz (pC (.int 2))))) paNil))) (paCons (pFz (pExc0 "NoOrder")) (paCons (pFz (pExc1 "NotHeld" "at" (paCons (pFz (pOp fIx (pSl 0) (pFz (pC (.int 3))))) paNil))) (paCons (pFz (pExc0 "NoTable")) paNil))))))) (pgName 1)) (psSeq (psAsg (pOp fAdd (pSl 1) (pFz (pLst (paCons (pFz (pExc0 "NoRing")) (paCons (pFz (pExc1 "TooGreat" "most" (paCons (pFz (pOp fIx (pSl 0) (pFz (pC (.int 4))))) paNil))) (paCons (pFz (pExc0 "NoWords")) (paCons (pFz (pExc1 "NotApart" "at" (paCons (pFz (pOp fIx (pSl 0) (pFz (pC (.int 5))))) paNil))) (paCons (pFz (pExc1 "NoCounts" "at" (paCons (pFz (pOp fIx (pSl 0) (pFz (pC (.int 6))))) paNil))) paNil)))))))) (pgName 1)) (psRet (pOp fAdd (pSl 1) (pFz (pLst (paCons (pFz (pExc1 "NotCovered" "at" (paCons (pFz (pOp fIx (pSl 0) (pFz (pC (.int 7))))) paNil))) (paCons (pFz (pExc1 "NoLine" "at" (paCons (pFz (pOp fIx (pSl 0) (pFz (pC (.int 8))))) paNil))) (paCons (pFz (pExc0 "NoPaper")) (paCons (pFz (pExc0 "NotTold")) paNil))))))))))
set_option maxHeartbeats 4000000 in
theorem rd_law_made_ (a0 a1 a2 a3 a4 a5 a6 a7 a8 : Int) (Q : PV → Prop) (h : pc_law_made ([.lst [.int a0, .int a1, .int a2, .int a3, .int a4, .int a5, .int a6, .int a7, .int a8]]) Q) : RunP pp_law_made nn_law_made ([.lst [.int a0, .int a1, .int a2, .int a3, .int a4, .int a5, .int a6, .int a7, .int a8]]) Q := by
 walk_at "r"
 exact h
theorem rd_law_made : ∀ ds Q, pc_law_made ds Q → RunP pp_law_made nn_law_made ds Q := fun ds Q h => by
 unfold pc_law_made at h
 split at h
 ·exact rd_law_made_ _ _ _ _ _ _ _ _ _ _ h
 ·exact h.elim
def pp_law_kinds : PTS := (psSeq (psAsg (pLst (paCons (pFz (pIsX xcs "TooMany" (pSl 0))) (paCons (pFz (pIsX xcs "NoPiece" (pSl 0))) (paCons (pFz (pIsX xcs "NoLap" (pSl 0))) (paCons (pFz (pIsX xcs "NoOrder" (pSl 0))) paNil))))) (pgName 1)) (psSeq (psAsg (pOp fAdd (pSl 1) (pFz (pLst (paCons (pFz (pIsX xcs "NotHeld" (pSl 0))) (paCons (pFz (pIsX xcs "NoTable" (pSl 0))) (paCons (pFz (pIsX xcs "NoRing" (pSl 0))) paNil)))))) (pgName 1)) (psSeq (psAsg (pOp fAdd (pSl 1) (pFz (pLst (paCons (pFz (pIsX xcs "TooGreat" (pSl 0))) (paCons (pFz (pIsX xcs "NoWords" (pSl 0))) (paCons (pFz (pIsX xcs "NotApart" (pSl 0))) paNil)))))) (pgName 1)) (psSeq (psAsg (pOp fAdd (pSl 1) (pFz (pLst (paCons (pFz (pIsX xcs "NoCounts" (pSl 0))) (paCons (pFz (pIsX xcs "NotCovered" (pSl 0))) (paCons (pFz (pIsX xcs "NoLine" (pSl 0))) paNil)))))) (pgName 1)) (psRet (pOp fAdd (pSl 1) (pFz (pLst (paCons (pFz (pIsX xcs "NoPaper" (pSl 0))) (paCons (pFz (pIsX xcs "NotTold" (pSl 0))) paNil))))))))))
set_option maxHeartbeats 4000000 in
theorem rd_law_kinds_ (c : Str) (ns : List Str) (ds : List D) (Q : PV → Prop) (h : pc_law_kinds ([.exc c ns ds]) Q) : RunP pp_law_kinds nn_law_kinds ([.exc c ns ds]) Q := by
 obtain ⟨hc, q⟩ := h
 walk_at "r"
 exact q
theorem rd_law_kinds : ∀ ds Q, pc_law_kinds ds Q → RunP pp_law_kinds nn_law_kinds ds Q := fun ds Q h => by
 unfold pc_law_kinds at h
 split at h
 ·exact rd_law_kinds_ _ _ _ _ h
 ·exact h.elim
def pp_law_fields : PTS := (psSeq (psAsg (pLst (paCons (pFz (pFldX xcs xats "most" (pFz (pOp fIx (pSl 0) (pFz (pC (.int 0))))))) (paCons (pFz (pFldX xcs xats "at" (pFz (pOp fIx (pSl 0) (pFz (pC (.int 1))))))) (paCons (pFz (pFldX xcs xats "k" (pFz (pOp fIx (pSl 0) (pFz (pC (.int 2))))))) (paCons (pFz (pFldX xcs xats "at" (pFz (pOp fIx (pSl 0) (pFz (pC (.int 4))))))) (paCons (pFz (pFldX xcs xats "most" (pFz (pOp fIx (pSl 0) (pFz (pC (.int 7))))))) (paCons (pFz (pFldX xcs xats "at" (pFz (pOp fIx (pSl 0) (pFz (pC (.int 9))))))) paNil))))))) (pgName 1)) (psRet (pOp fAdd (pSl 1) (pFz (pLst (paCons (pFz (pFldX xcs xats "at" (pFz (pOp fIx (pSl 0) (pFz (pC (.int 10))))))) (paCons (pFz (pFldX xcs xats "at" (pFz (pOp fIx (pSl 0) (pFz (pC (.int 11))))))) (paCons (pFz (pFldX xcs xats "at" (pFz (pOp fIx (pSl 0) (pFz (pC (.int 12))))))) paNil))))))))
set_option maxHeartbeats 4000000 in
theorem rd_law_fields_ (ds : List D) (Q : PV → Prop) (h : pc_law_fields ([.lst ds]) Q) : RunP pp_law_fields nn_law_fields ([.lst ds]) Q := by
 obtain ⟨a0, a1, a2, a3, a4, a5, a6, a7, a8, rfl, q⟩ := h
 walk_at "r"
 exact q
theorem rd_law_fields : ∀ ds Q, pc_law_fields ds Q → RunP pp_law_fields nn_law_fields ds Q := fun ds Q h => by
 unfold pc_law_fields at h
 split at h
 ·exact rd_law_fields_ _ _ h
 ·exact h.elim
def pp_law : PTS := (psSeq (psAsg (pComp [none, some 0] (piR1 (paCons (pFz (pC (.int 9))) paNil)) (pgName 0) pYes (pCallP pc_law_number (paCons (pFz (pVar 1)) (paCons (pFz (pVar 0)) paNil)))) (pgName 1)) (psSeq (psAsg (pComp [none] (piAny (pVar 1)) (pgName 0) pYes (pOp fAdd (pSl 0) (pFz (pC (.int 1))))) (pgName 2)) (psSeq (psAsg (pCallP pc_law_made (paCons (pFz (pVar 1)) paNil)) (pgName 3)) (psSeq (psAsg (pCallP pc_law_made (paCons (pFz (pVar 2)) paNil)) (pgName 4)) (psSeq (psFor (piEnum (paCons (pFz (pVar 3)) paNil)) (pgRow 2 (pgCons (pgName 5) (pgCons (pgName 6) pgNil))) (psSeq (psIf (pOr (pNot (pB (pIsX xcs "GlueError" (pSl 6)))) (pNot (pB (pIsV xcs (pSl 6))))) (psRet (pC (.bl false))) psNext) (psIf (pB (pOp fNe2 (pFz (pCallP pc_law_kinds (paCons (pFz (pVar 6)) paNil))) (pFz (pComp [none, some 5] (piR1 (paCons (pFz (pC (.int 15))) paNil)) (pgName 0) pYes (pOp fEq2 (pSl 0) (pSl 1)))))) (psRet (pC (.bl false))) psNext))) (psRet (pAndV (pOp fEq2 (pFz (pCallP pc_law_fields (paCons (pFz (pVar 3)) paNil))) (pSl 1)) (pOp fEq2 (pFz (pCallP pc_law_fields (paCons (pFz (pVar 4)) paNil))) (pSl 2)))))))))
set_option maxHeartbeats 4000000 in
theorem rd_law_ (ns : List Int) (h63 : ns.length ≤ 63) (Q : PV → Prop) (q : Q (.dat (.bl true))) : RunP pp_law nn_law [.scr ns] Q := by
 walk_at "r"
 refine ⟨fun k ys τ => ∃ (v : Option PV) (zs : List Int), τ = [v, some (.dat (.scr ns))] ∧ ys = zs.map .int ∧ zs.length = k, ⟨none, [], rfl, rfl, rfl⟩, ?_, ?_⟩
 ·rintro k ys τ _ hk rfl ⟨v, zs, rfl, rfl, hl⟩
  walk_at "r"
  intro z
  exact ⟨_, zs ++ [z], rfl, by rw [List.map_append]; rfl, by rw [List.length_append, hl]; rfl⟩
 ·rintro ys τ ⟨v, zs, rfl, rfl, hl⟩
  obtain ⟨a0, a1, a2, a3, a4, a5, a6, a7, a8, rfl⟩ : ∃ a0 a1 a2 a3 a4 a5 a6 a7 a8 : Int, zs = [a0, a1, a2, a3, a4, a5, a6, a7, a8] := by
   match zs, hl with
   | [a0, a1, a2, a3, a4, a5, a6, a7, a8], _ => exact ⟨a0, a1, a2, a3, a4, a5, a6, a7, a8, rfl⟩
  walk_at "r"
  refine cmap (fun τ => ∃ v, τ = [v]) (fun k => .int ([a0, a1, a2, a3, a4, a5, a6, a7, a8].getD k 0 + 1)) ?_ ?_ ?_
  ·exact ⟨_, rfl⟩
  ·rintro k τ d hk ed ⟨v, rfl⟩ K1 k1
   rw [itD_int hk] at ed
   subst ed
   walk_at "r"
   exact k1 _ ⟨_, rfl⟩
  ·rintro τ ⟨v, rfl⟩
   have e1 : (List.range ([a0, a1, a2, a3, a4, a5, a6, a7, a8].map D.int).length).map (fun k => D.int ([a0, a1, a2, a3, a4, a5, a6, a7, a8].getD k 0 + 1)) = [.int (a0 + 1), .int (a1 + 1), .int (a2 + 1), .int (a3 + 1), .int (a4 + 1), .int (a5 + 1), .int (a6 + 1), .int (a7 + 1), .int (a8 + 1)] := rfl
   rw [e1]
   walk_at "r"
   refine ⟨fun k ρ => ∃ v5 v6 : Option PV, ρ = [some (.dat (.scr ns)), some (.dat (.lst [.int a0, .int a1, .int a2, .int a3, .int a4, .int a5, .int a6, .int a7, .int a8])), some (.dat (.lst [.int (a0 + 1), .int (a1 + 1), .int (a2 + 1), .int (a3 + 1), .int (a4 + 1), .int (a5 + 1), .int (a6 + 1), .int (a7 + 1), .int (a8 + 1)])), some (.dat (.lst (madeD a0 a1 a2 a3 a4 a5 a6 a7 a8))), some (.own (madeD (a0 + 1) (a1 + 1) (a2 + 1) (a3 + 1) (a4 + 1) (a5 + 1) (a6 + 1) (a7 + 1) (a8 + 1))), v5, v6], ⟨_, _, rfl⟩, ?_, ?_⟩
   ·rintro k ρ d hk ed ⟨v5, v6, rfl⟩
    have hk15 : k < 15 := hk
    obtain ⟨c, ns', ds, he, hc, hkd⟩ : ∃ (c : Str) (ns' : List Str) (ds : List D), itD (madeD a0 a1 a2 a3 a4 a5 a6 a7 a8) k = .exc c ns' ds ∧ xcs.contains c = true ∧ kindsD c = (List.range (Int.toNat 15)).map (fun p => D.bl (decide (((p : Nat) : Int) = (k : Int)))) := by
     have hh : k = 0 ∨ k = 1 ∨ k = 2 ∨ k = 3 ∨ k = 4 ∨ k = 5 ∨ k = 6 ∨ k = 7 ∨ k = 8 ∨ k = 9 ∨ k = 10 ∨ k = 11 ∨ k = 12 ∨ k = 13 ∨ k = 14 := by omega
     rcases hh with rfl | rfl | rfl | rfl | rfl | rfl | rfl | rfl | rfl | rfl | rfl | rfl | rfl | rfl | rfl <;> exact ⟨_, _, _, rfl, by decide +kernel, by rfl⟩
    have hg : isaX c "GlueError" = true := by unfold isaX; rw [decide_eq_true (show ("GlueError" : Str) = "GlueError" from rfl), Bool.or_true]
    have ed : d = .tup [.int (k : Int), itD (madeD a0 a1 a2 a3 a4 a5 a6 a7 a8) k] := ed
    rw [he] at ed
    subst ed
    have hsh : Sh (.lst ((List.range (Int.toNat 15)).map fun p => D.bl (decide (((p : Nat) : Int) = (k : Int))))) := (Fl.lst (n := 0) (fun d hd => by
     obtain ⟨p, _, rfl⟩ := List.mem_map.mp hd
     exact Fl.bl _)).sh (by decide)
    have hE : EqOk (.lst (kindsD c)) (.lst ((List.range (Int.toNat 15)).map fun p => D.bl (decide (((p : Nat) : Int) = (k : Int))))) := by rw [hkd]; exact EqOk.of hsh hsh
    have hD : deq (.lst (kindsD c)) (.lst ((List.range (Int.toNat 15)).map fun p => D.bl (decide (((p : Nat) : Int) = (k : Int))))) = true := by rw [hkd]; exact deq_self hsh
    walk_at "r"
    refine cmap (fun τ => ∃ v, τ = [v, some (.dat (.int (k : Int)))]) (fun p => .bl (decide (((p : Nat) : Int) = (k : Int)))) ?_ ?_ ?_
    ·exact ⟨_, rfl⟩
    ·rintro p τ _ hp rfl ⟨v, rfl⟩ K1 k1
     walk_at "r"
     exact k1 _ ⟨_, rfl⟩
    ·rintro τ ⟨v, rfl⟩
     walk_at "r"
     exact ⟨_, _, rfl⟩
   ·rintro ρ ⟨v5, v6, rfl⟩
    have h1 : Sh (.lst ([a0, a1, a2, a3, a4, a5, a6, a7, a8].map D.int)) := Sh.lstI _
    have h2 : Sh (.lst ([a0 + 1, a1 + 1, a2 + 1, a3 + 1, a4 + 1, a5 + 1, a6 + 1, a7 + 1, a8 + 1].map D.int)) := Sh.lstI _
    have q1 := EqOk.of h1 h1
    have d1 := deq_self h1
    have q2 := EqOk.of h2 h2
    have d2 := deq_self h2
    walk_at "r"
    refine ⟨_, _, _, _, _, _, _, _, _, rfl, ?_⟩
    walk_at "r"
    refine ⟨_, _, _, _, _, _, _, _, _, rfl, ?_⟩
    walk_at "r"
    rw [← d2] at q
    exact q
theorem rd_law : ∀ ds Q, pc_law ds Q → RunP pp_law nn_law ds Q := fun ds Q h => by
 obtain ⟨ns, rfl, h63, q⟩ := h
 exact rd_law_ ns h63 Q q
section
variable {P : Program} {w : World} {K : PySem.W.Frag} {mg : Str → Option Value} {base : Heap}
theorem ln_law_number : ∀ ds Q, pc_law_number ds Q → ds.length = 2 := fun ds Q h => by unfold pc_law_number at h; split at h; (first | rfl | exact h.elim); (first | rfl | exact h.elim)
set_option maxHeartbeats 4000000 in
theorem ok_law_number (D : DefAt K mg "_law_number" s_law_number) (T : Txt mg) (TX : TxX K mg) : Cal P w K mg base 1 "_law_number" ["_law_script", "_law_k"] (spP K pc_law_number) := by
 refine D.ok sc_law_number (fun _ _ _ _ _ _ us hl => match us, hl with | [_, _], _ => rfl) (fun vs H Q E h => ?_) (fun f cdv A outer s H vs Q E hr h => ?_)
 ·exact lenP ln_law_number h
 ·have hu := hr.units
  exact ⟨_, (pss_cons (ps_set (i := 2) sc_law_number.nd rfl (by first | exact Or.inl rfl | exact Or.inr rfl) (pe_op u_mul pe_int (pv 1))) (pss_cons (ps_join (ps_if (pt_cmpR u_gt (pe_callB2 (u_len K rfl) rfl T.b_len PySem.boot_len (paC (pv 0) pa_nil)) pe_int (nomark _)) (pss_one (ps_set (i := 2) sc_law_number.nd rfl (by first | exact Or.inl rfl | exact Or.inr rfl) (pe_op (u_add K rfl) (pe_ix (u_ix K rfl) (pv 0) (pe_op u_mod (pv 1) (pe_callB2 (u_len K rfl) rfl T.b_len PySem.boot_len (paC (pv 0) pa_nil))) (fun _ _ => rfl)) (pv 1)))) pss_nil)) (pss_one (ps_ret (pe_op u_sub (pe_op u_mod (pv 2) (pe_op (u_add K rfl) (pe_op u_pow pe_int pe_int) pe_int)) pe_int))))), fnP (K := K) (c := pc_law_number) (ps := pp_law_number) (N := ["_law_script", "_law_k", "_law_cell"]) (ls_seq (ls_asg (le_op lo_mul (la_fz le_int) (la_sl (i := 1))) (lg_name (i := 2) rfl)) (ls_seq (ls_join (ls_if (lt_T (le_op lo_gt (la_fz (le_cb lc_len (las_cons (la_sl (i := 0)) las_nil))) (la_fz le_int))) (ls_asg (le_op lo_add (la_fz (le_op lo_ix (la_sl (i := 0)) (la_fz (le_op lo_mod (la_sl (i := 1)) (la_fz (le_cb lc_len (las_cons (la_sl (i := 0)) las_nil))))))) (la_sl (i := 1))) (lg_name (i := 2) rfl)) ls_next)) (ls_ret (le_op lo_sub (la_fz (le_op lo_mod (la_sl (i := 2)) (la_fz (le_op lo_add (la_fz (le_op lo_pow (la_fz le_int) (la_fz le_int))) (la_fz le_int))))) (la_fz le_int))))) (fun ds Q h => Nat.le_trans (Nat.le_of_eq (ln_law_number ds Q h)) (by decide)) rd_law_number h⟩
theorem ln_law_made : ∀ ds Q, pc_law_made ds Q → ds.length = 1 := fun ds Q h => by unfold pc_law_made at h; split at h; (first | rfl | exact h.elim); (first | rfl | exact h.elim)
set_option maxHeartbeats 4000000 in
theorem ok_law_made (D : DefAt K mg "_law_made" s_law_made) (T : Txt mg) (TX : TxX K mg) (C_NoCounts_init : CalX P w K mg base 1 (clsOf K "NoCounts") "NoCounts" "at") (C_NoLap_init : CalX P w K mg base 1 (clsOf K "NoLap") "NoLap" "k") (C_NoLine_init : CalX P w K mg base 1 (clsOf K "NoLine") "NoLine" "at") (C_NoPiece_init : CalX P w K mg base 1 (clsOf K "NoPiece") "NoPiece" "at") (C_NotApart_init : CalX P w K mg base 1 (clsOf K "NotApart") "NotApart" "at") (C_NotCovered_init : CalX P w K mg base 1 (clsOf K "NotCovered") "NotCovered" "at") (C_NotHeld_init : CalX P w K mg base 1 (clsOf K "NotHeld") "NotHeld" "at") (C_TooGreat_init : CalX P w K mg base 1 (clsOf K "TooGreat") "TooGreat" "most") (C_TooMany_init : CalX P w K mg base 1 (clsOf K "TooMany") "TooMany" "most") : Cal P w K mg base 3 "_law_made" ["_law_numbers"] (spP K pc_law_made) := by
 refine D.ok sc_law_made (fun _ _ _ _ _ _ us hl => match us, hl with | [_], _ => rfl) (fun vs H Q E h => ?_) (fun f cdv A outer s H vs Q E hr h => ?_)
 ·exact lenP ln_law_made h
 ·have hu := hr.units
  exact ⟨_, (pss_cons (ps_set (i := 1) sc_law_made.nd rfl (by first | exact Or.inl rfl | exact Or.inr rfl) (pe_lst (paC (pe_exc1 C_TooMany_init (hr.mono (by decide)) (paC (pe_ix (u_ix K rfl) (pv 0) pe_int (fun _ _ => rfl)) pa_nil)) (paC (pe_exc1 C_NoPiece_init (hr.mono (by decide)) (paC (pe_ix (u_ix K rfl) (pv 0) pe_int (fun _ _ => rfl)) pa_nil)) (paC (pe_exc1 C_NoLap_init (hr.mono (by decide)) (paC (pe_ix (u_ix K rfl) (pv 0) pe_int (fun _ _ => rfl)) pa_nil)) (paC (pe_exc0 TX.z_NoOrder TX.kp_NoOrder TX.m_NoOrder) (paC (pe_exc1 C_NotHeld_init (hr.mono (by decide)) (paC (pe_ix (u_ix K rfl) (pv 0) pe_int (fun _ _ => rfl)) pa_nil)) (paC (pe_exc0 TX.z_NoTable TX.kp_NoTable TX.m_NoTable) pa_nil)))))))) (pss_cons (ps_set (i := 1) sc_law_made.nd rfl (by first | exact Or.inl rfl | exact Or.inr rfl) (pe_op (u_add K rfl) (pv 1) (pe_lst (paC (pe_exc0 TX.z_NoRing TX.kp_NoRing TX.m_NoRing) (paC (pe_exc1 C_TooGreat_init (hr.mono (by decide)) (paC (pe_ix (u_ix K rfl) (pv 0) pe_int (fun _ _ => rfl)) pa_nil)) (paC (pe_exc0 TX.z_NoWords TX.kp_NoWords TX.m_NoWords) (paC (pe_exc1 C_NotApart_init (hr.mono (by decide)) (paC (pe_ix (u_ix K rfl) (pv 0) pe_int (fun _ _ => rfl)) pa_nil)) (paC (pe_exc1 C_NoCounts_init (hr.mono (by decide)) (paC (pe_ix (u_ix K rfl) (pv 0) pe_int (fun _ _ => rfl)) pa_nil)) pa_nil)))))))) (pss_one (ps_ret (pe_op (u_add K rfl) (pv 1) (pe_lst (paC (pe_exc1 C_NotCovered_init (hr.mono (by decide)) (paC (pe_ix (u_ix K rfl) (pv 0) pe_int (fun _ _ => rfl)) pa_nil)) (paC (pe_exc1 C_NoLine_init (hr.mono (by decide)) (paC (pe_ix (u_ix K rfl) (pv 0) pe_int (fun _ _ => rfl)) pa_nil)) (paC (pe_exc0 TX.z_NoPaper TX.kp_NoPaper TX.m_NoPaper) (paC (pe_exc0 TX.z_NotTold TX.kp_NotTold TX.m_NotTold) pa_nil)))))))))), fnP (K := K) (c := pc_law_made) (ps := pp_law_made) (N := ["_law_numbers", "_law_found"]) (ls_seq (ls_asg (le_lst (las_cons (la_fz (le_exc1 (las_cons (la_fz (le_op lo_ix (la_sl (i := 0)) (la_fz le_int))) las_nil))) (las_cons (la_fz (le_exc1 (las_cons (la_fz (le_op lo_ix (la_sl (i := 0)) (la_fz le_int))) las_nil))) (las_cons (la_fz (le_exc1 (las_cons (la_fz (le_op lo_ix (la_sl (i := 0)) (la_fz le_int))) las_nil))) (las_cons (la_fz (le_exc0 (c := "NoOrder"))) (las_cons (la_fz (le_exc1 (las_cons (la_fz (le_op lo_ix (la_sl (i := 0)) (la_fz le_int))) las_nil))) (las_cons (la_fz (le_exc0 (c := "NoTable"))) las_nil))))))) (lg_name (i := 1) rfl)) (ls_seq (ls_asg (le_op lo_add (la_sl (i := 1)) (la_fz (le_lst (las_cons (la_fz (le_exc0 (c := "NoRing"))) (las_cons (la_fz (le_exc1 (las_cons (la_fz (le_op lo_ix (la_sl (i := 0)) (la_fz le_int))) las_nil))) (las_cons (la_fz (le_exc0 (c := "NoWords"))) (las_cons (la_fz (le_exc1 (las_cons (la_fz (le_op lo_ix (la_sl (i := 0)) (la_fz le_int))) las_nil))) (las_cons (la_fz (le_exc1 (las_cons (la_fz (le_op lo_ix (la_sl (i := 0)) (la_fz le_int))) las_nil))) las_nil)))))))) (lg_name (i := 1) rfl)) (ls_ret (le_op lo_add (la_sl (i := 1)) (la_fz (le_lst (las_cons (la_fz (le_exc1 (las_cons (la_fz (le_op lo_ix (la_sl (i := 0)) (la_fz le_int))) las_nil))) (las_cons (la_fz (le_exc1 (las_cons (la_fz (le_op lo_ix (la_sl (i := 0)) (la_fz le_int))) las_nil))) (las_cons (la_fz (le_exc0 (c := "NoPaper"))) (las_cons (la_fz (le_exc0 (c := "NotTold"))) las_nil)))))))))) (fun ds Q h => Nat.le_trans (Nat.le_of_eq (ln_law_made ds Q h)) (by decide)) rd_law_made h⟩
theorem ln_law_kinds : ∀ ds Q, pc_law_kinds ds Q → ds.length = 1 := fun ds Q h => by unfold pc_law_kinds at h; split at h; (first | rfl | exact h.elim); (first | rfl | exact h.elim)
set_option maxHeartbeats 4000000 in
theorem ok_law_kinds (D : DefAt K mg "_law_kinds" s_law_kinds) (T : Txt mg) (TX : TxX K mg) : Cal P w K mg base 1 "_law_kinds" ["_law_one"] (spP K pc_law_kinds) := by
 refine D.ok sc_law_kinds (fun _ _ _ _ _ _ us hl => match us, hl with | [_], _ => rfl) (fun vs H Q E h => ?_) (fun f cdv A outer s H vs Q E hr h => ?_)
 ·exact lenP ln_law_kinds h
 ·have hu := hr.units
  exact ⟨_, (pss_cons (ps_set (i := 1) sc_law_kinds.nd rfl (by first | exact Or.inl rfl | exact Or.inr rfl) (pe_lst (paC (pe_callB2 (u_isX K rfl) rfl T.b_isinstance boot_isinstance (paC (pv 0) (paC (pe_clsN TX.m_TooMany) pa_nil))) (paC (pe_callB2 (u_isX K rfl) rfl T.b_isinstance boot_isinstance (paC (pv 0) (paC (pe_clsN TX.m_NoPiece) pa_nil))) (paC (pe_callB2 (u_isX K rfl) rfl T.b_isinstance boot_isinstance (paC (pv 0) (paC (pe_clsN TX.m_NoLap) pa_nil))) (paC (pe_callB2 (u_isX K rfl) rfl T.b_isinstance boot_isinstance (paC (pv 0) (paC (pe_clsN TX.m_NoOrder) pa_nil))) pa_nil)))))) (pss_cons (ps_set (i := 1) sc_law_kinds.nd rfl (by first | exact Or.inl rfl | exact Or.inr rfl) (pe_op (u_add K rfl) (pv 1) (pe_lst (paC (pe_callB2 (u_isX K rfl) rfl T.b_isinstance boot_isinstance (paC (pv 0) (paC (pe_clsN TX.m_NotHeld) pa_nil))) (paC (pe_callB2 (u_isX K rfl) rfl T.b_isinstance boot_isinstance (paC (pv 0) (paC (pe_clsN TX.m_NoTable) pa_nil))) (paC (pe_callB2 (u_isX K rfl) rfl T.b_isinstance boot_isinstance (paC (pv 0) (paC (pe_clsN TX.m_NoRing) pa_nil))) pa_nil)))))) (pss_cons (ps_set (i := 1) sc_law_kinds.nd rfl (by first | exact Or.inl rfl | exact Or.inr rfl) (pe_op (u_add K rfl) (pv 1) (pe_lst (paC (pe_callB2 (u_isX K rfl) rfl T.b_isinstance boot_isinstance (paC (pv 0) (paC (pe_clsN TX.m_TooGreat) pa_nil))) (paC (pe_callB2 (u_isX K rfl) rfl T.b_isinstance boot_isinstance (paC (pv 0) (paC (pe_clsN TX.m_NoWords) pa_nil))) (paC (pe_callB2 (u_isX K rfl) rfl T.b_isinstance boot_isinstance (paC (pv 0) (paC (pe_clsN TX.m_NotApart) pa_nil))) pa_nil)))))) (pss_cons (ps_set (i := 1) sc_law_kinds.nd rfl (by first | exact Or.inl rfl | exact Or.inr rfl) (pe_op (u_add K rfl) (pv 1) (pe_lst (paC (pe_callB2 (u_isX K rfl) rfl T.b_isinstance boot_isinstance (paC (pv 0) (paC (pe_clsN TX.m_NoCounts) pa_nil))) (paC (pe_callB2 (u_isX K rfl) rfl T.b_isinstance boot_isinstance (paC (pv 0) (paC (pe_clsN TX.m_NotCovered) pa_nil))) (paC (pe_callB2 (u_isX K rfl) rfl T.b_isinstance boot_isinstance (paC (pv 0) (paC (pe_clsN TX.m_NoLine) pa_nil))) pa_nil)))))) (pss_one (ps_ret (pe_op (u_add K rfl) (pv 1) (pe_lst (paC (pe_callB2 (u_isX K rfl) rfl T.b_isinstance boot_isinstance (paC (pv 0) (paC (pe_clsN TX.m_NoPaper) pa_nil))) (paC (pe_callB2 (u_isX K rfl) rfl T.b_isinstance boot_isinstance (paC (pv 0) (paC (pe_clsN TX.m_NotTold) pa_nil))) pa_nil)))))))))), fnP (K := K) (c := pc_law_kinds) (ps := pp_law_kinds) (N := ["_law_one", "_law_found"]) (ls_seq (ls_asg (le_lst (las_cons (la_fz (le_isX (d := "TooMany") TX.all (by first | exact Or.inr rfl | exact Or.inl (List.contains_iff_mem.mp (by decide +kernel))) (la_sl (i := 0)))) (las_cons (la_fz (le_isX (d := "NoPiece") TX.all (by first | exact Or.inr rfl | exact Or.inl (List.contains_iff_mem.mp (by decide +kernel))) (la_sl (i := 0)))) (las_cons (la_fz (le_isX (d := "NoLap") TX.all (by first | exact Or.inr rfl | exact Or.inl (List.contains_iff_mem.mp (by decide +kernel))) (la_sl (i := 0)))) (las_cons (la_fz (le_isX (d := "NoOrder") TX.all (by first | exact Or.inr rfl | exact Or.inl (List.contains_iff_mem.mp (by decide +kernel))) (la_sl (i := 0)))) las_nil))))) (lg_name (i := 1) rfl)) (ls_seq (ls_asg (le_op lo_add (la_sl (i := 1)) (la_fz (le_lst (las_cons (la_fz (le_isX (d := "NotHeld") TX.all (by first | exact Or.inr rfl | exact Or.inl (List.contains_iff_mem.mp (by decide +kernel))) (la_sl (i := 0)))) (las_cons (la_fz (le_isX (d := "NoTable") TX.all (by first | exact Or.inr rfl | exact Or.inl (List.contains_iff_mem.mp (by decide +kernel))) (la_sl (i := 0)))) (las_cons (la_fz (le_isX (d := "NoRing") TX.all (by first | exact Or.inr rfl | exact Or.inl (List.contains_iff_mem.mp (by decide +kernel))) (la_sl (i := 0)))) las_nil)))))) (lg_name (i := 1) rfl)) (ls_seq (ls_asg (le_op lo_add (la_sl (i := 1)) (la_fz (le_lst (las_cons (la_fz (le_isX (d := "TooGreat") TX.all (by first | exact Or.inr rfl | exact Or.inl (List.contains_iff_mem.mp (by decide +kernel))) (la_sl (i := 0)))) (las_cons (la_fz (le_isX (d := "NoWords") TX.all (by first | exact Or.inr rfl | exact Or.inl (List.contains_iff_mem.mp (by decide +kernel))) (la_sl (i := 0)))) (las_cons (la_fz (le_isX (d := "NotApart") TX.all (by first | exact Or.inr rfl | exact Or.inl (List.contains_iff_mem.mp (by decide +kernel))) (la_sl (i := 0)))) las_nil)))))) (lg_name (i := 1) rfl)) (ls_seq (ls_asg (le_op lo_add (la_sl (i := 1)) (la_fz (le_lst (las_cons (la_fz (le_isX (d := "NoCounts") TX.all (by first | exact Or.inr rfl | exact Or.inl (List.contains_iff_mem.mp (by decide +kernel))) (la_sl (i := 0)))) (las_cons (la_fz (le_isX (d := "NotCovered") TX.all (by first | exact Or.inr rfl | exact Or.inl (List.contains_iff_mem.mp (by decide +kernel))) (la_sl (i := 0)))) (las_cons (la_fz (le_isX (d := "NoLine") TX.all (by first | exact Or.inr rfl | exact Or.inl (List.contains_iff_mem.mp (by decide +kernel))) (la_sl (i := 0)))) las_nil)))))) (lg_name (i := 1) rfl)) (ls_ret (le_op lo_add (la_sl (i := 1)) (la_fz (le_lst (las_cons (la_fz (le_isX (d := "NoPaper") TX.all (by first | exact Or.inr rfl | exact Or.inl (List.contains_iff_mem.mp (by decide +kernel))) (la_sl (i := 0)))) (las_cons (la_fz (le_isX (d := "NotTold") TX.all (by first | exact Or.inr rfl | exact Or.inl (List.contains_iff_mem.mp (by decide +kernel))) (la_sl (i := 0)))) las_nil)))))))))) (fun ds Q h => Nat.le_trans (Nat.le_of_eq (ln_law_kinds ds Q h)) (by decide)) rd_law_kinds h⟩
theorem ln_law_fields : ∀ ds Q, pc_law_fields ds Q → ds.length = 1 := fun ds Q h => by unfold pc_law_fields at h; split at h; (first | rfl | exact h.elim); (first | rfl | exact h.elim)
set_option maxHeartbeats 4000000 in
theorem ok_law_fields (D : DefAt K mg "_law_fields" s_law_fields) (T : Txt mg) (TX : TxX K mg) : Cal P w K mg base 1 "_law_fields" ["_law_made_here"] (spP K pc_law_fields) := by
 refine D.ok sc_law_fields (fun _ _ _ _ _ _ us hl => match us, hl with | [_], _ => rfl) (fun vs H Q E h => ?_) (fun f cdv A outer s H vs Q E hr h => ?_)
 ·exact lenP ln_law_fields h
 ·have hu := hr.units
  exact ⟨_, (pss_cons (ps_set (i := 1) sc_law_fields.nd rfl (by first | exact Or.inl rfl | exact Or.inr rfl) (pe_lst (paC (pe_fldXK K rfl (pe_ix (u_ix K rfl) (pv 0) pe_int (fun _ _ => rfl)) rfl) (paC (pe_fldXK K rfl (pe_ix (u_ix K rfl) (pv 0) pe_int (fun _ _ => rfl)) rfl) (paC (pe_fldXK K rfl (pe_ix (u_ix K rfl) (pv 0) pe_int (fun _ _ => rfl)) rfl) (paC (pe_fldXK K rfl (pe_ix (u_ix K rfl) (pv 0) pe_int (fun _ _ => rfl)) rfl) (paC (pe_fldXK K rfl (pe_ix (u_ix K rfl) (pv 0) pe_int (fun _ _ => rfl)) rfl) (paC (pe_fldXK K rfl (pe_ix (u_ix K rfl) (pv 0) pe_int (fun _ _ => rfl)) rfl) pa_nil)))))))) (pss_one (ps_ret (pe_op (u_add K rfl) (pv 1) (pe_lst (paC (pe_fldXK K rfl (pe_ix (u_ix K rfl) (pv 0) pe_int (fun _ _ => rfl)) rfl) (paC (pe_fldXK K rfl (pe_ix (u_ix K rfl) (pv 0) pe_int (fun _ _ => rfl)) rfl) (paC (pe_fldXK K rfl (pe_ix (u_ix K rfl) (pv 0) pe_int (fun _ _ => rfl)) rfl) pa_nil)))))))), fnP (K := K) (c := pc_law_fields) (ps := pp_law_fields) (N := ["_law_made_here", "_law_found"]) (ls_seq (ls_asg (le_lst (las_cons (la_fz (le_fldX TX.all TX.at_ (la_fz (le_op lo_ix (la_sl (i := 0)) (la_fz le_int))))) (las_cons (la_fz (le_fldX TX.all TX.at_ (la_fz (le_op lo_ix (la_sl (i := 0)) (la_fz le_int))))) (las_cons (la_fz (le_fldX TX.all TX.at_ (la_fz (le_op lo_ix (la_sl (i := 0)) (la_fz le_int))))) (las_cons (la_fz (le_fldX TX.all TX.at_ (la_fz (le_op lo_ix (la_sl (i := 0)) (la_fz le_int))))) (las_cons (la_fz (le_fldX TX.all TX.at_ (la_fz (le_op lo_ix (la_sl (i := 0)) (la_fz le_int))))) (las_cons (la_fz (le_fldX TX.all TX.at_ (la_fz (le_op lo_ix (la_sl (i := 0)) (la_fz le_int))))) las_nil))))))) (lg_name (i := 1) rfl)) (ls_ret (le_op lo_add (la_sl (i := 1)) (la_fz (le_lst (las_cons (la_fz (le_fldX TX.all TX.at_ (la_fz (le_op lo_ix (la_sl (i := 0)) (la_fz le_int))))) (las_cons (la_fz (le_fldX TX.all TX.at_ (la_fz (le_op lo_ix (la_sl (i := 0)) (la_fz le_int))))) (las_cons (la_fz (le_fldX TX.all TX.at_ (la_fz (le_op lo_ix (la_sl (i := 0)) (la_fz le_int))))) las_nil)))))))) (fun ds Q h => Nat.le_trans (Nat.le_of_eq (ln_law_fields ds Q h)) (by decide)) rd_law_fields h⟩
theorem ln_law : ∀ ds Q, pc_law ds Q → ds.length = 1 := fun ds Q h => by obtain ⟨_, rfl, _⟩ := h; rfl
set_option maxHeartbeats 4000000 in
theorem ok_law (D : DefAt K mg "law" s_law) (T : Txt mg) (TX : TxX K mg) (C_law_fields : Cal P w K mg base 1 "_law_fields" ["_law_made_here"] (spP K pc_law_fields)) (C_law_kinds : Cal P w K mg base 1 "_law_kinds" ["_law_one"] (spP K pc_law_kinds)) (C_law_made : Cal P w K mg base 3 "_law_made" ["_law_numbers"] (spP K pc_law_made)) (C_law_number : Cal P w K mg base 1 "_law_number" ["_law_script", "_law_k"] (spP K pc_law_number)) : Cal P w K mg base 4 "law" ["_law_script"] (spP K pc_law) := by
 refine D.ok sc_law (fun _ _ _ _ _ _ us hl => match us, hl with | [_], _ => rfl) (fun vs H Q E h => ?_) (fun f cdv A outer s H vs Q E hr h => ?_)
 ·exact lenP ln_law h
 ·have hu := hr.units
  exact ⟨_, (pss_cons (ps_setC (wi := (iRng1 (tCons (tC (V.int 9)) tNil))) (g := (gName 0)) (tts := tYes) (te := (tCall (spP K pc_law_number) [] E0 (tCons (tVar 1) (tCons (tVar 0) tNil)))) (i := 1) ["_law_k", "_law_script"] [none, some 0] sc_law.nd rfl (Or.inl rfl) rfl (pi_range1 rfl T.b_range (paC pe_int pa_nil)) (fun _ _ _ _ => ⟨(pg_name (i := 0) (by show List.Nodup (["_law_k", "_law_script"] : List Str); decide +kernel) rfl (by first | exact Or.inl rfl | exact Or.inr rfl)), pif_nil, (pe_cal2 C_law_number (hr.mono (by decide)) (paC (pv 1) (paC (pv 0) pa_nil)))⟩) (by kernel_rfl)) (pss_cons (ps_setC (wi := (iAny K (tVar 1))) (g := (gName 0)) (tts := tYes) (te := (tOp (rAddU K) (tVar 0) (tC (V.int 1)))) (i := 2) ["_law_number_here"] [none] sc_law.nd rfl (Or.inl rfl) rfl (pi_any K rfl (pv 1)) (fun _ _ _ _ => ⟨(pg_name (i := 0) (by show List.Nodup (["_law_number_here"] : List Str); decide +kernel) rfl (by first | exact Or.inl rfl | exact Or.inr rfl)), pif_nil, (pe_op (u_add K rfl) (pv 0) pe_int)⟩) (by kernel_rfl)) (pss_cons (ps_set (i := 3) sc_law.nd rfl (by first | exact Or.inl rfl | exact Or.inr rfl) (pe_cal2 C_law_made (hr.mono (by decide)) (paC (pv 1) pa_nil))) (pss_cons (ps_set (i := 4) sc_law.nd rfl (by first | exact Or.inl rfl | exact Or.inr rfl) (pe_cal2 C_law_made (hr.mono (by decide)) (paC (pv 2) pa_nil))) (pss_cons (ps_for PassesOwn.never rfl (pi_enumK K rfl rfl T.b_enumerate (paC (pv 3) pa_nil)) (pg_row K rfl (n := 2) rfl (pgs_cons (pg_name (i := 5) sc_law.nd rfl (by first | exact Or.inl rfl | exact Or.inr rfl)) (pgs_cons (pg_name (i := 6) sc_law.nd rfl (by first | exact Or.inl rfl | exact Or.inr rfl)) pgs_nil))) (pss_cons (ps_if (PW.pt (pw_or (pt_not (pt_val2 (pe_callB2 (u_isX K rfl) rfl T.b_isinstance boot_isinstance (paC (pv 6) (paC (pe_clsN TX.m_GlueError) pa_nil))))) (pw_or1 (pt_not (pt_val2 (pe_callB2 (u_isV K rfl) rfl T.b_isinstance boot_isinstance (paC (pv 6) (paC (pe_bltn (v := .ty "ValueError") rfl T.b_ValueError PyProof.Rows.Boot.«ValueError» rfl) pa_nil)))))))) (pss_one (ps_ret pe_bl)) pss_nil) (pss_one (ps_if (pt_cmpR (u_ne2 K rfl hu) (pe_cal2 C_law_kinds (hr.mono (by decide)) (paC (pv 6) pa_nil)) (pe_comp (wi := (iRng1 (tCons (tC (V.int 15)) tNil))) (g := (gName 0)) (tts := tYes) (te := (tOp (rEqU2 K false) (tVar 0) (tVar 1))) ["_law_place", "_law_k"] [none, some 5] rfl (pi_range1 rfl T.b_range (paC pe_int pa_nil)) (fun _ _ _ _ => ⟨(pg_name (i := 0) (by show List.Nodup (["_law_place", "_law_k"] : List Str); decide +kernel) rfl (by first | exact Or.inl rfl | exact Or.inr rfl)), pif_nil, (pe_cmpR (u_eq2 K rfl hu) (pv 0) (pv 1) (nomark _))⟩) (by kernel_rfl)) (nomark _)) (pss_one (ps_ret pe_bl)) pss_nil)))) (pss_one (ps_ret (pe_and (pe_cmpR (u_eq2 K rfl hu) (pe_cal2 C_law_fields (hr.mono (by decide)) (paC (pv 3) pa_nil)) (pv 1) (nomark _)) (pe_one (pe_cmpR (u_eq2 K rfl hu) (pe_cal2 C_law_fields (hr.mono (by decide)) (paC (pv 4) pa_nil)) (pv 2) (nomark _))))))))))), fnP (K := K) (c := pc_law) (ps := pp_law) (N := ["_law_script", "_law_numbers", "_law_others", "_law_made_here", "_law_later", "_law_k", "_law_one"]) (ls_seq (ls_asg (le_comp (ix := [none, some 0]) rfl (li_r1 (las_cons (la_fz le_int) las_nil)) (fun fs hc => (lgd_name (i := 0) (ncap hc (by decide)))) lt_yes (le_callP (c := pc_law_number) (las_cons (la_fz (le_var (i := 1))) (las_cons (la_fz (le_var (i := 0))) las_nil)))) (lg_name (i := 1) rfl)) (ls_seq (ls_asg (le_comp (ix := [none]) rfl (li_any (le_var (i := 1))) (fun fs hc => (lgd_name (i := 0) (ncap hc (by decide)))) lt_yes (le_op lo_add (la_sl (i := 0)) (la_fz le_int))) (lg_name (i := 2) rfl)) (ls_seq (ls_asg (le_callP (c := pc_law_made) (las_cons (la_fz (le_var (i := 1))) las_nil)) (lg_name (i := 3) rfl)) (ls_seq (ls_asg (le_callP (c := pc_law_made) (las_cons (la_fz (le_var (i := 2))) las_nil)) (lg_name (i := 4) rfl)) (ls_seq (ls_for (li_enum (las_cons (la_fz (le_var (i := 3))) las_nil)) (lgd_row (lgs_cons (lgd_name (i := 5) rfl) (lgs_cons (lgd_name (i := 6) rfl) lgs_nil))) (ls_seq (ls_if (lt_or (lt_not (lt_B (le_isX (d := "GlueError") TX.all (by first | exact Or.inr rfl | exact Or.inl (List.contains_iff_mem.mp (by decide +kernel))) (la_sl (i := 6))))) (lt_not (lt_B (le_isV TX.all (la_sl (i := 6)))))) (ls_ret le_bl) ls_next) (ls_if (lt_T (le_op lo_ne2 (la_fz (le_callP (c := pc_law_kinds) (las_cons (la_fz (le_var (i := 6))) las_nil))) (la_fz (le_comp (ix := [none, some 5]) rfl (li_r1 (las_cons (la_fz le_int) las_nil)) (fun fs hc => (lgd_name (i := 0) (ncap hc (by decide)))) lt_yes (le_op lo_eq2 (la_sl (i := 0)) (la_sl (i := 1))))))) (ls_ret le_bl) ls_next))) (ls_ret (le_and (le_op lo_eq2 (la_fz (le_callP (c := pc_law_fields) (las_cons (la_fz (le_var (i := 3))) las_nil))) (la_sl (i := 1))) (le_op lo_eq2 (la_fz (le_callP (c := pc_law_fields) (las_cons (la_fz (le_var (i := 4))) las_nil))) (la_sl (i := 2)))))))))) (fun ds Q h => Nat.le_trans (Nat.le_of_eq (ln_law ds Q h)) (by decide)) rd_law h⟩
end
theorem all_mk {l : PySem.W.OpenLaw} {w : World} {K : PySem.W.Frag} {h : Heap} {mg : Str → Option Value} {fa : Addr} (X : K.In h) (G : h.Ns mainGlobals mg) (hfa : mg "law" = some (.ref fa))
  {C_GlueError : Addr} (aC_GlueError : PySem.W.nsIn K mainGlobals "GlueError" = some (some (.ref C_GlueError))) {q_GlueError : Str} {N_GlueError : Addr} {bs_GlueError sub_GlueError : List Value} {sn_GlueError : List Str} {ab_GlueError : Bool} {col_GlueError : Option Bool} {k0_GlueError k1_GlueError k2_GlueError k3_GlueError k5_GlueError : Option Value} (lC_GlueError : K.lookup C_GlueError = some (excClassObj "GlueError" q_GlueError C_GlueError N_GlueError bs_GlueError [.type "ValueError", .type "Exception", .type "BaseException", .type "object"] true sn_GlueError sub_GlueError ab_GlueError col_GlueError none k0_GlueError k1_GlueError k2_GlueError k3_GlueError k5_GlueError "ValueError.__new__")) (xq_GlueError : PySem.W.excIn K C_GlueError [.type "ValueError", .type "Exception", .type "BaseException", .type "object"] "ValueError.__new__" = true)
  {C_TooMany : Addr} (aC_TooMany : PySem.W.nsIn K mainGlobals "TooMany" = some (some (.ref C_TooMany))) {q_TooMany : Str} {N_TooMany : Addr} {bs_TooMany sub_TooMany : List Value} {sn_TooMany : List Str} {ab_TooMany : Bool} {col_TooMany : Option Bool} {k0_TooMany k1_TooMany k2_TooMany k3_TooMany k5_TooMany : Option Value} (lC_TooMany : K.lookup C_TooMany = some (excClassObj "TooMany" q_TooMany C_TooMany N_TooMany bs_TooMany (.ref C_GlueError :: [.type "ValueError", .type "Exception", .type "BaseException", .type "object"]) true sn_TooMany sub_TooMany ab_TooMany col_TooMany none k0_TooMany k1_TooMany k2_TooMany k3_TooMany k5_TooMany "ValueError.__new__")) (ga_TooMany : PySem.W.findIn K (.ref C_TooMany) "__getattribute__" = some (some (.builtin "BaseException.__getattribute__"))) (gh_TooMany : PySem.W.findIn K (.ref C_TooMany) "__getattr__" = some none) (sa_TooMany : PySem.W.findIn K (.ref C_TooMany) "__setattr__" = some (some (.builtin "object.__setattr__"))) (cl_TooMany : PySem.W.findIn K (.ref C_TooMany) "__class__" = some (some (.builtin "object.__class__"))) (kc_TooMany : PySem.W.keepIn K (.ref C_TooMany) = true)
  {fx_TooMany : Addr} {xoc_TooMany xkV_TooMany xdc_TooMany xpm_TooMany xcd_TooMany xct_TooMany : Value} {xod_TooMany xan_TooMany : Option Addr} {xsl_TooMany : Array (Option Value)} (xi_TooMany : PySem.W.findIn K (.ref C_TooMany) "__init__" = some (some (.ref fx_TooMany))) (xt_TooMany : PySem.W.typeIn K (.ref fx_TooMany) = some (.type "function")) (xl_TooMany : K.lookup fx_TooMany = some ⟨xoc_TooMany, xod_TooMany, .func (PySem.W.fnOf "__init__" "TooMany.__init__" (defArgs s_TooMany_init) (defBody s_TooMany_init) (defScope s_TooMany_init) .none xkV_TooMany xdc_TooMany xpm_TooMany xan_TooMany xcd_TooMany xct_TooMany), xsl_TooMany⟩) (xc0_TooMany : PySem.W.codeIn K xcd_TooMany "TooMany.__init__" = true) (xk_TooMany : PySem.W.keepIn K (.ref fx_TooMany) = true) (xn_TooMany : PySem.W.findIn K (.ref C_TooMany) "most" = some none)
  {C_NoPiece : Addr} (aC_NoPiece : PySem.W.nsIn K mainGlobals "NoPiece" = some (some (.ref C_NoPiece))) {q_NoPiece : Str} {N_NoPiece : Addr} {bs_NoPiece sub_NoPiece : List Value} {sn_NoPiece : List Str} {ab_NoPiece : Bool} {col_NoPiece : Option Bool} {k0_NoPiece k1_NoPiece k2_NoPiece k3_NoPiece k5_NoPiece : Option Value} (lC_NoPiece : K.lookup C_NoPiece = some (excClassObj "NoPiece" q_NoPiece C_NoPiece N_NoPiece bs_NoPiece (.ref C_GlueError :: [.type "ValueError", .type "Exception", .type "BaseException", .type "object"]) true sn_NoPiece sub_NoPiece ab_NoPiece col_NoPiece none k0_NoPiece k1_NoPiece k2_NoPiece k3_NoPiece k5_NoPiece "ValueError.__new__")) (ga_NoPiece : PySem.W.findIn K (.ref C_NoPiece) "__getattribute__" = some (some (.builtin "BaseException.__getattribute__"))) (gh_NoPiece : PySem.W.findIn K (.ref C_NoPiece) "__getattr__" = some none) (sa_NoPiece : PySem.W.findIn K (.ref C_NoPiece) "__setattr__" = some (some (.builtin "object.__setattr__"))) (cl_NoPiece : PySem.W.findIn K (.ref C_NoPiece) "__class__" = some (some (.builtin "object.__class__"))) (kc_NoPiece : PySem.W.keepIn K (.ref C_NoPiece) = true)
  {fx_NoPiece : Addr} {xoc_NoPiece xkV_NoPiece xdc_NoPiece xpm_NoPiece xcd_NoPiece xct_NoPiece : Value} {xod_NoPiece xan_NoPiece : Option Addr} {xsl_NoPiece : Array (Option Value)} (xi_NoPiece : PySem.W.findIn K (.ref C_NoPiece) "__init__" = some (some (.ref fx_NoPiece))) (xt_NoPiece : PySem.W.typeIn K (.ref fx_NoPiece) = some (.type "function")) (xl_NoPiece : K.lookup fx_NoPiece = some ⟨xoc_NoPiece, xod_NoPiece, .func (PySem.W.fnOf "__init__" "NoPiece.__init__" (defArgs s_NoPiece_init) (defBody s_NoPiece_init) (defScope s_NoPiece_init) .none xkV_NoPiece xdc_NoPiece xpm_NoPiece xan_NoPiece xcd_NoPiece xct_NoPiece), xsl_NoPiece⟩) (xc0_NoPiece : PySem.W.codeIn K xcd_NoPiece "NoPiece.__init__" = true) (xk_NoPiece : PySem.W.keepIn K (.ref fx_NoPiece) = true) (xn_NoPiece : PySem.W.findIn K (.ref C_NoPiece) "at" = some none)
  {C_NoLap : Addr} (aC_NoLap : PySem.W.nsIn K mainGlobals "NoLap" = some (some (.ref C_NoLap))) {q_NoLap : Str} {N_NoLap : Addr} {bs_NoLap sub_NoLap : List Value} {sn_NoLap : List Str} {ab_NoLap : Bool} {col_NoLap : Option Bool} {k0_NoLap k1_NoLap k2_NoLap k3_NoLap k5_NoLap : Option Value} (lC_NoLap : K.lookup C_NoLap = some (excClassObj "NoLap" q_NoLap C_NoLap N_NoLap bs_NoLap (.ref C_GlueError :: [.type "ValueError", .type "Exception", .type "BaseException", .type "object"]) true sn_NoLap sub_NoLap ab_NoLap col_NoLap none k0_NoLap k1_NoLap k2_NoLap k3_NoLap k5_NoLap "ValueError.__new__")) (ga_NoLap : PySem.W.findIn K (.ref C_NoLap) "__getattribute__" = some (some (.builtin "BaseException.__getattribute__"))) (gh_NoLap : PySem.W.findIn K (.ref C_NoLap) "__getattr__" = some none) (sa_NoLap : PySem.W.findIn K (.ref C_NoLap) "__setattr__" = some (some (.builtin "object.__setattr__"))) (cl_NoLap : PySem.W.findIn K (.ref C_NoLap) "__class__" = some (some (.builtin "object.__class__"))) (kc_NoLap : PySem.W.keepIn K (.ref C_NoLap) = true)
  {fx_NoLap : Addr} {xoc_NoLap xkV_NoLap xdc_NoLap xpm_NoLap xcd_NoLap xct_NoLap : Value} {xod_NoLap xan_NoLap : Option Addr} {xsl_NoLap : Array (Option Value)} (xi_NoLap : PySem.W.findIn K (.ref C_NoLap) "__init__" = some (some (.ref fx_NoLap))) (xt_NoLap : PySem.W.typeIn K (.ref fx_NoLap) = some (.type "function")) (xl_NoLap : K.lookup fx_NoLap = some ⟨xoc_NoLap, xod_NoLap, .func (PySem.W.fnOf "__init__" "NoLap.__init__" (defArgs s_NoLap_init) (defBody s_NoLap_init) (defScope s_NoLap_init) .none xkV_NoLap xdc_NoLap xpm_NoLap xan_NoLap xcd_NoLap xct_NoLap), xsl_NoLap⟩) (xc0_NoLap : PySem.W.codeIn K xcd_NoLap "NoLap.__init__" = true) (xk_NoLap : PySem.W.keepIn K (.ref fx_NoLap) = true) (xn_NoLap : PySem.W.findIn K (.ref C_NoLap) "k" = some none)
  {C_NoOrder : Addr} (aC_NoOrder : PySem.W.nsIn K mainGlobals "NoOrder" = some (some (.ref C_NoOrder))) {q_NoOrder : Str} {N_NoOrder : Addr} {bs_NoOrder sub_NoOrder : List Value} {sn_NoOrder : List Str} {ab_NoOrder : Bool} {col_NoOrder : Option Bool} {k0_NoOrder k1_NoOrder k2_NoOrder k3_NoOrder k5_NoOrder : Option Value} (lC_NoOrder : K.lookup C_NoOrder = some (excClassObj "NoOrder" q_NoOrder C_NoOrder N_NoOrder bs_NoOrder (.ref C_GlueError :: [.type "ValueError", .type "Exception", .type "BaseException", .type "object"]) true sn_NoOrder sub_NoOrder ab_NoOrder col_NoOrder none k0_NoOrder k1_NoOrder k2_NoOrder k3_NoOrder k5_NoOrder "ValueError.__new__")) (ga_NoOrder : PySem.W.findIn K (.ref C_NoOrder) "__getattribute__" = some (some (.builtin "BaseException.__getattribute__"))) (gh_NoOrder : PySem.W.findIn K (.ref C_NoOrder) "__getattr__" = some none) (sa_NoOrder : PySem.W.findIn K (.ref C_NoOrder) "__setattr__" = some (some (.builtin "object.__setattr__"))) (cl_NoOrder : PySem.W.findIn K (.ref C_NoOrder) "__class__" = some (some (.builtin "object.__class__"))) (kc_NoOrder : PySem.W.keepIn K (.ref C_NoOrder) = true)
  (xq_NoOrder : PySem.W.excIn K C_NoOrder [.type "ValueError", .type "Exception", .type "BaseException", .type "object"] "ValueError.__new__" = true)
  {C_NotHeld : Addr} (aC_NotHeld : PySem.W.nsIn K mainGlobals "NotHeld" = some (some (.ref C_NotHeld))) {q_NotHeld : Str} {N_NotHeld : Addr} {bs_NotHeld sub_NotHeld : List Value} {sn_NotHeld : List Str} {ab_NotHeld : Bool} {col_NotHeld : Option Bool} {k0_NotHeld k1_NotHeld k2_NotHeld k3_NotHeld k5_NotHeld : Option Value} (lC_NotHeld : K.lookup C_NotHeld = some (excClassObj "NotHeld" q_NotHeld C_NotHeld N_NotHeld bs_NotHeld (.ref C_GlueError :: [.type "ValueError", .type "Exception", .type "BaseException", .type "object"]) true sn_NotHeld sub_NotHeld ab_NotHeld col_NotHeld none k0_NotHeld k1_NotHeld k2_NotHeld k3_NotHeld k5_NotHeld "ValueError.__new__")) (ga_NotHeld : PySem.W.findIn K (.ref C_NotHeld) "__getattribute__" = some (some (.builtin "BaseException.__getattribute__"))) (gh_NotHeld : PySem.W.findIn K (.ref C_NotHeld) "__getattr__" = some none) (sa_NotHeld : PySem.W.findIn K (.ref C_NotHeld) "__setattr__" = some (some (.builtin "object.__setattr__"))) (cl_NotHeld : PySem.W.findIn K (.ref C_NotHeld) "__class__" = some (some (.builtin "object.__class__"))) (kc_NotHeld : PySem.W.keepIn K (.ref C_NotHeld) = true)
  {fx_NotHeld : Addr} {xoc_NotHeld xkV_NotHeld xdc_NotHeld xpm_NotHeld xcd_NotHeld xct_NotHeld : Value} {xod_NotHeld xan_NotHeld : Option Addr} {xsl_NotHeld : Array (Option Value)} (xi_NotHeld : PySem.W.findIn K (.ref C_NotHeld) "__init__" = some (some (.ref fx_NotHeld))) (xt_NotHeld : PySem.W.typeIn K (.ref fx_NotHeld) = some (.type "function")) (xl_NotHeld : K.lookup fx_NotHeld = some ⟨xoc_NotHeld, xod_NotHeld, .func (PySem.W.fnOf "__init__" "NotHeld.__init__" (defArgs s_NotHeld_init) (defBody s_NotHeld_init) (defScope s_NotHeld_init) .none xkV_NotHeld xdc_NotHeld xpm_NotHeld xan_NotHeld xcd_NotHeld xct_NotHeld), xsl_NotHeld⟩) (xc0_NotHeld : PySem.W.codeIn K xcd_NotHeld "NotHeld.__init__" = true) (xk_NotHeld : PySem.W.keepIn K (.ref fx_NotHeld) = true) (xn_NotHeld : PySem.W.findIn K (.ref C_NotHeld) "at" = some none)
  {C_NoTable : Addr} (aC_NoTable : PySem.W.nsIn K mainGlobals "NoTable" = some (some (.ref C_NoTable))) {q_NoTable : Str} {N_NoTable : Addr} {bs_NoTable sub_NoTable : List Value} {sn_NoTable : List Str} {ab_NoTable : Bool} {col_NoTable : Option Bool} {k0_NoTable k1_NoTable k2_NoTable k3_NoTable k5_NoTable : Option Value} (lC_NoTable : K.lookup C_NoTable = some (excClassObj "NoTable" q_NoTable C_NoTable N_NoTable bs_NoTable (.ref C_GlueError :: [.type "ValueError", .type "Exception", .type "BaseException", .type "object"]) true sn_NoTable sub_NoTable ab_NoTable col_NoTable none k0_NoTable k1_NoTable k2_NoTable k3_NoTable k5_NoTable "ValueError.__new__")) (ga_NoTable : PySem.W.findIn K (.ref C_NoTable) "__getattribute__" = some (some (.builtin "BaseException.__getattribute__"))) (gh_NoTable : PySem.W.findIn K (.ref C_NoTable) "__getattr__" = some none) (sa_NoTable : PySem.W.findIn K (.ref C_NoTable) "__setattr__" = some (some (.builtin "object.__setattr__"))) (cl_NoTable : PySem.W.findIn K (.ref C_NoTable) "__class__" = some (some (.builtin "object.__class__"))) (kc_NoTable : PySem.W.keepIn K (.ref C_NoTable) = true)
  (xq_NoTable : PySem.W.excIn K C_NoTable [.type "ValueError", .type "Exception", .type "BaseException", .type "object"] "ValueError.__new__" = true)
  {C_NoRing : Addr} (aC_NoRing : PySem.W.nsIn K mainGlobals "NoRing" = some (some (.ref C_NoRing))) {q_NoRing : Str} {N_NoRing : Addr} {bs_NoRing sub_NoRing : List Value} {sn_NoRing : List Str} {ab_NoRing : Bool} {col_NoRing : Option Bool} {k0_NoRing k1_NoRing k2_NoRing k3_NoRing k5_NoRing : Option Value} (lC_NoRing : K.lookup C_NoRing = some (excClassObj "NoRing" q_NoRing C_NoRing N_NoRing bs_NoRing (.ref C_GlueError :: [.type "ValueError", .type "Exception", .type "BaseException", .type "object"]) true sn_NoRing sub_NoRing ab_NoRing col_NoRing none k0_NoRing k1_NoRing k2_NoRing k3_NoRing k5_NoRing "ValueError.__new__")) (ga_NoRing : PySem.W.findIn K (.ref C_NoRing) "__getattribute__" = some (some (.builtin "BaseException.__getattribute__"))) (gh_NoRing : PySem.W.findIn K (.ref C_NoRing) "__getattr__" = some none) (sa_NoRing : PySem.W.findIn K (.ref C_NoRing) "__setattr__" = some (some (.builtin "object.__setattr__"))) (cl_NoRing : PySem.W.findIn K (.ref C_NoRing) "__class__" = some (some (.builtin "object.__class__"))) (kc_NoRing : PySem.W.keepIn K (.ref C_NoRing) = true)
  (xq_NoRing : PySem.W.excIn K C_NoRing [.type "ValueError", .type "Exception", .type "BaseException", .type "object"] "ValueError.__new__" = true)
  {C_TooGreat : Addr} (aC_TooGreat : PySem.W.nsIn K mainGlobals "TooGreat" = some (some (.ref C_TooGreat))) {q_TooGreat : Str} {N_TooGreat : Addr} {bs_TooGreat sub_TooGreat : List Value} {sn_TooGreat : List Str} {ab_TooGreat : Bool} {col_TooGreat : Option Bool} {k0_TooGreat k1_TooGreat k2_TooGreat k3_TooGreat k5_TooGreat : Option Value} (lC_TooGreat : K.lookup C_TooGreat = some (excClassObj "TooGreat" q_TooGreat C_TooGreat N_TooGreat bs_TooGreat (.ref C_GlueError :: [.type "ValueError", .type "Exception", .type "BaseException", .type "object"]) true sn_TooGreat sub_TooGreat ab_TooGreat col_TooGreat none k0_TooGreat k1_TooGreat k2_TooGreat k3_TooGreat k5_TooGreat "ValueError.__new__")) (ga_TooGreat : PySem.W.findIn K (.ref C_TooGreat) "__getattribute__" = some (some (.builtin "BaseException.__getattribute__"))) (gh_TooGreat : PySem.W.findIn K (.ref C_TooGreat) "__getattr__" = some none) (sa_TooGreat : PySem.W.findIn K (.ref C_TooGreat) "__setattr__" = some (some (.builtin "object.__setattr__"))) (cl_TooGreat : PySem.W.findIn K (.ref C_TooGreat) "__class__" = some (some (.builtin "object.__class__"))) (kc_TooGreat : PySem.W.keepIn K (.ref C_TooGreat) = true)
  {fx_TooGreat : Addr} {xoc_TooGreat xkV_TooGreat xdc_TooGreat xpm_TooGreat xcd_TooGreat xct_TooGreat : Value} {xod_TooGreat xan_TooGreat : Option Addr} {xsl_TooGreat : Array (Option Value)} (xi_TooGreat : PySem.W.findIn K (.ref C_TooGreat) "__init__" = some (some (.ref fx_TooGreat))) (xt_TooGreat : PySem.W.typeIn K (.ref fx_TooGreat) = some (.type "function")) (xl_TooGreat : K.lookup fx_TooGreat = some ⟨xoc_TooGreat, xod_TooGreat, .func (PySem.W.fnOf "__init__" "TooGreat.__init__" (defArgs s_TooGreat_init) (defBody s_TooGreat_init) (defScope s_TooGreat_init) .none xkV_TooGreat xdc_TooGreat xpm_TooGreat xan_TooGreat xcd_TooGreat xct_TooGreat), xsl_TooGreat⟩) (xc0_TooGreat : PySem.W.codeIn K xcd_TooGreat "TooGreat.__init__" = true) (xk_TooGreat : PySem.W.keepIn K (.ref fx_TooGreat) = true) (xn_TooGreat : PySem.W.findIn K (.ref C_TooGreat) "most" = some none)
  {C_NoWords : Addr} (aC_NoWords : PySem.W.nsIn K mainGlobals "NoWords" = some (some (.ref C_NoWords))) {q_NoWords : Str} {N_NoWords : Addr} {bs_NoWords sub_NoWords : List Value} {sn_NoWords : List Str} {ab_NoWords : Bool} {col_NoWords : Option Bool} {k0_NoWords k1_NoWords k2_NoWords k3_NoWords k5_NoWords : Option Value} (lC_NoWords : K.lookup C_NoWords = some (excClassObj "NoWords" q_NoWords C_NoWords N_NoWords bs_NoWords (.ref C_GlueError :: [.type "ValueError", .type "Exception", .type "BaseException", .type "object"]) true sn_NoWords sub_NoWords ab_NoWords col_NoWords none k0_NoWords k1_NoWords k2_NoWords k3_NoWords k5_NoWords "ValueError.__new__")) (ga_NoWords : PySem.W.findIn K (.ref C_NoWords) "__getattribute__" = some (some (.builtin "BaseException.__getattribute__"))) (gh_NoWords : PySem.W.findIn K (.ref C_NoWords) "__getattr__" = some none) (sa_NoWords : PySem.W.findIn K (.ref C_NoWords) "__setattr__" = some (some (.builtin "object.__setattr__"))) (cl_NoWords : PySem.W.findIn K (.ref C_NoWords) "__class__" = some (some (.builtin "object.__class__"))) (kc_NoWords : PySem.W.keepIn K (.ref C_NoWords) = true)
  (xq_NoWords : PySem.W.excIn K C_NoWords [.type "ValueError", .type "Exception", .type "BaseException", .type "object"] "ValueError.__new__" = true)
  {C_NotApart : Addr} (aC_NotApart : PySem.W.nsIn K mainGlobals "NotApart" = some (some (.ref C_NotApart))) {q_NotApart : Str} {N_NotApart : Addr} {bs_NotApart sub_NotApart : List Value} {sn_NotApart : List Str} {ab_NotApart : Bool} {col_NotApart : Option Bool} {k0_NotApart k1_NotApart k2_NotApart k3_NotApart k5_NotApart : Option Value} (lC_NotApart : K.lookup C_NotApart = some (excClassObj "NotApart" q_NotApart C_NotApart N_NotApart bs_NotApart (.ref C_GlueError :: [.type "ValueError", .type "Exception", .type "BaseException", .type "object"]) true sn_NotApart sub_NotApart ab_NotApart col_NotApart none k0_NotApart k1_NotApart k2_NotApart k3_NotApart k5_NotApart "ValueError.__new__")) (ga_NotApart : PySem.W.findIn K (.ref C_NotApart) "__getattribute__" = some (some (.builtin "BaseException.__getattribute__"))) (gh_NotApart : PySem.W.findIn K (.ref C_NotApart) "__getattr__" = some none) (sa_NotApart : PySem.W.findIn K (.ref C_NotApart) "__setattr__" = some (some (.builtin "object.__setattr__"))) (cl_NotApart : PySem.W.findIn K (.ref C_NotApart) "__class__" = some (some (.builtin "object.__class__"))) (kc_NotApart : PySem.W.keepIn K (.ref C_NotApart) = true)
  {fx_NotApart : Addr} {xoc_NotApart xkV_NotApart xdc_NotApart xpm_NotApart xcd_NotApart xct_NotApart : Value} {xod_NotApart xan_NotApart : Option Addr} {xsl_NotApart : Array (Option Value)} (xi_NotApart : PySem.W.findIn K (.ref C_NotApart) "__init__" = some (some (.ref fx_NotApart))) (xt_NotApart : PySem.W.typeIn K (.ref fx_NotApart) = some (.type "function")) (xl_NotApart : K.lookup fx_NotApart = some ⟨xoc_NotApart, xod_NotApart, .func (PySem.W.fnOf "__init__" "NotApart.__init__" (defArgs s_NotApart_init) (defBody s_NotApart_init) (defScope s_NotApart_init) .none xkV_NotApart xdc_NotApart xpm_NotApart xan_NotApart xcd_NotApart xct_NotApart), xsl_NotApart⟩) (xc0_NotApart : PySem.W.codeIn K xcd_NotApart "NotApart.__init__" = true) (xk_NotApart : PySem.W.keepIn K (.ref fx_NotApart) = true) (xn_NotApart : PySem.W.findIn K (.ref C_NotApart) "at" = some none)
  {C_NoCounts : Addr} (aC_NoCounts : PySem.W.nsIn K mainGlobals "NoCounts" = some (some (.ref C_NoCounts))) {q_NoCounts : Str} {N_NoCounts : Addr} {bs_NoCounts sub_NoCounts : List Value} {sn_NoCounts : List Str} {ab_NoCounts : Bool} {col_NoCounts : Option Bool} {k0_NoCounts k1_NoCounts k2_NoCounts k3_NoCounts k5_NoCounts : Option Value} (lC_NoCounts : K.lookup C_NoCounts = some (excClassObj "NoCounts" q_NoCounts C_NoCounts N_NoCounts bs_NoCounts (.ref C_GlueError :: [.type "ValueError", .type "Exception", .type "BaseException", .type "object"]) true sn_NoCounts sub_NoCounts ab_NoCounts col_NoCounts none k0_NoCounts k1_NoCounts k2_NoCounts k3_NoCounts k5_NoCounts "ValueError.__new__")) (ga_NoCounts : PySem.W.findIn K (.ref C_NoCounts) "__getattribute__" = some (some (.builtin "BaseException.__getattribute__"))) (gh_NoCounts : PySem.W.findIn K (.ref C_NoCounts) "__getattr__" = some none) (sa_NoCounts : PySem.W.findIn K (.ref C_NoCounts) "__setattr__" = some (some (.builtin "object.__setattr__"))) (cl_NoCounts : PySem.W.findIn K (.ref C_NoCounts) "__class__" = some (some (.builtin "object.__class__"))) (kc_NoCounts : PySem.W.keepIn K (.ref C_NoCounts) = true)
  {fx_NoCounts : Addr} {xoc_NoCounts xkV_NoCounts xdc_NoCounts xpm_NoCounts xcd_NoCounts xct_NoCounts : Value} {xod_NoCounts xan_NoCounts : Option Addr} {xsl_NoCounts : Array (Option Value)} (xi_NoCounts : PySem.W.findIn K (.ref C_NoCounts) "__init__" = some (some (.ref fx_NoCounts))) (xt_NoCounts : PySem.W.typeIn K (.ref fx_NoCounts) = some (.type "function")) (xl_NoCounts : K.lookup fx_NoCounts = some ⟨xoc_NoCounts, xod_NoCounts, .func (PySem.W.fnOf "__init__" "NoCounts.__init__" (defArgs s_NoCounts_init) (defBody s_NoCounts_init) (defScope s_NoCounts_init) .none xkV_NoCounts xdc_NoCounts xpm_NoCounts xan_NoCounts xcd_NoCounts xct_NoCounts), xsl_NoCounts⟩) (xc0_NoCounts : PySem.W.codeIn K xcd_NoCounts "NoCounts.__init__" = true) (xk_NoCounts : PySem.W.keepIn K (.ref fx_NoCounts) = true) (xn_NoCounts : PySem.W.findIn K (.ref C_NoCounts) "at" = some none)
  {C_NotCovered : Addr} (aC_NotCovered : PySem.W.nsIn K mainGlobals "NotCovered" = some (some (.ref C_NotCovered))) {q_NotCovered : Str} {N_NotCovered : Addr} {bs_NotCovered sub_NotCovered : List Value} {sn_NotCovered : List Str} {ab_NotCovered : Bool} {col_NotCovered : Option Bool} {k0_NotCovered k1_NotCovered k2_NotCovered k3_NotCovered k5_NotCovered : Option Value} (lC_NotCovered : K.lookup C_NotCovered = some (excClassObj "NotCovered" q_NotCovered C_NotCovered N_NotCovered bs_NotCovered (.ref C_GlueError :: [.type "ValueError", .type "Exception", .type "BaseException", .type "object"]) true sn_NotCovered sub_NotCovered ab_NotCovered col_NotCovered none k0_NotCovered k1_NotCovered k2_NotCovered k3_NotCovered k5_NotCovered "ValueError.__new__")) (ga_NotCovered : PySem.W.findIn K (.ref C_NotCovered) "__getattribute__" = some (some (.builtin "BaseException.__getattribute__"))) (gh_NotCovered : PySem.W.findIn K (.ref C_NotCovered) "__getattr__" = some none) (sa_NotCovered : PySem.W.findIn K (.ref C_NotCovered) "__setattr__" = some (some (.builtin "object.__setattr__"))) (cl_NotCovered : PySem.W.findIn K (.ref C_NotCovered) "__class__" = some (some (.builtin "object.__class__"))) (kc_NotCovered : PySem.W.keepIn K (.ref C_NotCovered) = true)
  {fx_NotCovered : Addr} {xoc_NotCovered xkV_NotCovered xdc_NotCovered xpm_NotCovered xcd_NotCovered xct_NotCovered : Value} {xod_NotCovered xan_NotCovered : Option Addr} {xsl_NotCovered : Array (Option Value)} (xi_NotCovered : PySem.W.findIn K (.ref C_NotCovered) "__init__" = some (some (.ref fx_NotCovered))) (xt_NotCovered : PySem.W.typeIn K (.ref fx_NotCovered) = some (.type "function")) (xl_NotCovered : K.lookup fx_NotCovered = some ⟨xoc_NotCovered, xod_NotCovered, .func (PySem.W.fnOf "__init__" "NotCovered.__init__" (defArgs s_NotCovered_init) (defBody s_NotCovered_init) (defScope s_NotCovered_init) .none xkV_NotCovered xdc_NotCovered xpm_NotCovered xan_NotCovered xcd_NotCovered xct_NotCovered), xsl_NotCovered⟩) (xc0_NotCovered : PySem.W.codeIn K xcd_NotCovered "NotCovered.__init__" = true) (xk_NotCovered : PySem.W.keepIn K (.ref fx_NotCovered) = true) (xn_NotCovered : PySem.W.findIn K (.ref C_NotCovered) "at" = some none)
  {C_NoLine : Addr} (aC_NoLine : PySem.W.nsIn K mainGlobals "NoLine" = some (some (.ref C_NoLine))) {q_NoLine : Str} {N_NoLine : Addr} {bs_NoLine sub_NoLine : List Value} {sn_NoLine : List Str} {ab_NoLine : Bool} {col_NoLine : Option Bool} {k0_NoLine k1_NoLine k2_NoLine k3_NoLine k5_NoLine : Option Value} (lC_NoLine : K.lookup C_NoLine = some (excClassObj "NoLine" q_NoLine C_NoLine N_NoLine bs_NoLine (.ref C_GlueError :: [.type "ValueError", .type "Exception", .type "BaseException", .type "object"]) true sn_NoLine sub_NoLine ab_NoLine col_NoLine none k0_NoLine k1_NoLine k2_NoLine k3_NoLine k5_NoLine "ValueError.__new__")) (ga_NoLine : PySem.W.findIn K (.ref C_NoLine) "__getattribute__" = some (some (.builtin "BaseException.__getattribute__"))) (gh_NoLine : PySem.W.findIn K (.ref C_NoLine) "__getattr__" = some none) (sa_NoLine : PySem.W.findIn K (.ref C_NoLine) "__setattr__" = some (some (.builtin "object.__setattr__"))) (cl_NoLine : PySem.W.findIn K (.ref C_NoLine) "__class__" = some (some (.builtin "object.__class__"))) (kc_NoLine : PySem.W.keepIn K (.ref C_NoLine) = true)
  {fx_NoLine : Addr} {xoc_NoLine xkV_NoLine xdc_NoLine xpm_NoLine xcd_NoLine xct_NoLine : Value} {xod_NoLine xan_NoLine : Option Addr} {xsl_NoLine : Array (Option Value)} (xi_NoLine : PySem.W.findIn K (.ref C_NoLine) "__init__" = some (some (.ref fx_NoLine))) (xt_NoLine : PySem.W.typeIn K (.ref fx_NoLine) = some (.type "function")) (xl_NoLine : K.lookup fx_NoLine = some ⟨xoc_NoLine, xod_NoLine, .func (PySem.W.fnOf "__init__" "NoLine.__init__" (defArgs s_NoLine_init) (defBody s_NoLine_init) (defScope s_NoLine_init) .none xkV_NoLine xdc_NoLine xpm_NoLine xan_NoLine xcd_NoLine xct_NoLine), xsl_NoLine⟩) (xc0_NoLine : PySem.W.codeIn K xcd_NoLine "NoLine.__init__" = true) (xk_NoLine : PySem.W.keepIn K (.ref fx_NoLine) = true) (xn_NoLine : PySem.W.findIn K (.ref C_NoLine) "at" = some none)
  {C_NoPaper : Addr} (aC_NoPaper : PySem.W.nsIn K mainGlobals "NoPaper" = some (some (.ref C_NoPaper))) {q_NoPaper : Str} {N_NoPaper : Addr} {bs_NoPaper sub_NoPaper : List Value} {sn_NoPaper : List Str} {ab_NoPaper : Bool} {col_NoPaper : Option Bool} {k0_NoPaper k1_NoPaper k2_NoPaper k3_NoPaper k5_NoPaper : Option Value} (lC_NoPaper : K.lookup C_NoPaper = some (excClassObj "NoPaper" q_NoPaper C_NoPaper N_NoPaper bs_NoPaper (.ref C_GlueError :: [.type "ValueError", .type "Exception", .type "BaseException", .type "object"]) true sn_NoPaper sub_NoPaper ab_NoPaper col_NoPaper none k0_NoPaper k1_NoPaper k2_NoPaper k3_NoPaper k5_NoPaper "ValueError.__new__")) (ga_NoPaper : PySem.W.findIn K (.ref C_NoPaper) "__getattribute__" = some (some (.builtin "BaseException.__getattribute__"))) (gh_NoPaper : PySem.W.findIn K (.ref C_NoPaper) "__getattr__" = some none) (sa_NoPaper : PySem.W.findIn K (.ref C_NoPaper) "__setattr__" = some (some (.builtin "object.__setattr__"))) (cl_NoPaper : PySem.W.findIn K (.ref C_NoPaper) "__class__" = some (some (.builtin "object.__class__"))) (kc_NoPaper : PySem.W.keepIn K (.ref C_NoPaper) = true)
  (xq_NoPaper : PySem.W.excIn K C_NoPaper [.type "ValueError", .type "Exception", .type "BaseException", .type "object"] "ValueError.__new__" = true)
  {C_NotTold : Addr} (aC_NotTold : PySem.W.nsIn K mainGlobals "NotTold" = some (some (.ref C_NotTold))) {q_NotTold : Str} {N_NotTold : Addr} {bs_NotTold sub_NotTold : List Value} {sn_NotTold : List Str} {ab_NotTold : Bool} {col_NotTold : Option Bool} {k0_NotTold k1_NotTold k2_NotTold k3_NotTold k5_NotTold : Option Value} (lC_NotTold : K.lookup C_NotTold = some (excClassObj "NotTold" q_NotTold C_NotTold N_NotTold bs_NotTold (.ref C_GlueError :: [.type "ValueError", .type "Exception", .type "BaseException", .type "object"]) true sn_NotTold sub_NotTold ab_NotTold col_NotTold none k0_NotTold k1_NotTold k2_NotTold k3_NotTold k5_NotTold "ValueError.__new__")) (ga_NotTold : PySem.W.findIn K (.ref C_NotTold) "__getattribute__" = some (some (.builtin "BaseException.__getattribute__"))) (gh_NotTold : PySem.W.findIn K (.ref C_NotTold) "__getattr__" = some none) (sa_NotTold : PySem.W.findIn K (.ref C_NotTold) "__setattr__" = some (some (.builtin "object.__setattr__"))) (cl_NotTold : PySem.W.findIn K (.ref C_NotTold) "__class__" = some (some (.builtin "object.__class__"))) (kc_NotTold : PySem.W.keepIn K (.ref C_NotTold) = true)
  (xq_NotTold : PySem.W.excIn K C_NotTold [.type "ValueError", .type "Exception", .type "BaseException", .type "object"] "ValueError.__new__" = true)
  {f1 : Addr} {oc1 kV1 dc1 pm1 cd1 ct1 : Value} {od1 an1 : Option Addr} {sl1 : Array (Option Value)} (a1 : PySem.W.nsIn K mainGlobals "_law_number" = some (some (.ref f1))) (l1 : K.lookup f1 = some ⟨oc1, od1, .func (PySem.W.fnOf "_law_number" "_law_number" (defArgs s_law_number) (defBody s_law_number) (defScope s_law_number) .none kV1 dc1 pm1 an1 cd1 ct1), sl1⟩) (c1 : PySem.W.codeIn K cd1 "_law_number" = true) (k1 : PySem.W.keepIn K (.ref f1) = true)
  {f2 : Addr} {oc2 kV2 dc2 pm2 cd2 ct2 : Value} {od2 an2 : Option Addr} {sl2 : Array (Option Value)} (a2 : PySem.W.nsIn K mainGlobals "_law_made" = some (some (.ref f2))) (l2 : K.lookup f2 = some ⟨oc2, od2, .func (PySem.W.fnOf "_law_made" "_law_made" (defArgs s_law_made) (defBody s_law_made) (defScope s_law_made) .none kV2 dc2 pm2 an2 cd2 ct2), sl2⟩) (c2 : PySem.W.codeIn K cd2 "_law_made" = true) (k2 : PySem.W.keepIn K (.ref f2) = true)
  {f3 : Addr} {oc3 kV3 dc3 pm3 cd3 ct3 : Value} {od3 an3 : Option Addr} {sl3 : Array (Option Value)} (a3 : PySem.W.nsIn K mainGlobals "_law_kinds" = some (some (.ref f3))) (l3 : K.lookup f3 = some ⟨oc3, od3, .func (PySem.W.fnOf "_law_kinds" "_law_kinds" (defArgs s_law_kinds) (defBody s_law_kinds) (defScope s_law_kinds) .none kV3 dc3 pm3 an3 cd3 ct3), sl3⟩) (c3 : PySem.W.codeIn K cd3 "_law_kinds" = true) (k3 : PySem.W.keepIn K (.ref f3) = true)
  {f4 : Addr} {oc4 kV4 dc4 pm4 cd4 ct4 : Value} {od4 an4 : Option Addr} {sl4 : Array (Option Value)} (a4 : PySem.W.nsIn K mainGlobals "_law_fields" = some (some (.ref f4))) (l4 : K.lookup f4 = some ⟨oc4, od4, .func (PySem.W.fnOf "_law_fields" "_law_fields" (defArgs s_law_fields) (defBody s_law_fields) (defScope s_law_fields) .none kV4 dc4 pm4 an4 cd4 ct4), sl4⟩) (c4 : PySem.W.codeIn K cd4 "_law_fields" = true) (k4 : PySem.W.keepIn K (.ref f4) = true)
  {f5 : Addr} {oc5 kV5 dc5 pm5 cd5 ct5 : Value} {od5 an5 : Option Addr} {sl5 : Array (Option Value)} (a5 : PySem.W.nsIn K mainGlobals "law" = some (some (.ref f5))) (l5 : K.lookup f5 = some ⟨oc5, od5, .func (PySem.W.fnOf "law" "law" (defArgs s_law) (defBody s_law) (defScope s_law) .none kV5 dc5 pm5 an5 cd5 ct5), sl5⟩) (c5 : PySem.W.codeIn K cd5 "law" = true) (k5 : PySem.W.keepIn K (.ref f5) = true)
  (z1 : PySem.W.nsIn K mainGlobals "ValueError" = some none)
  (z2 : PySem.W.nsIn K mainGlobals "enumerate" = some none)
  (z3 : PySem.W.nsIn K mainGlobals "isinstance" = some none)
  (z4 : PySem.W.nsIn K mainGlobals "len" = some none)
  (z5 : PySem.W.nsIn K mainGlobals "range" = some none) :
  ∃ fd : FuncData, (∀ (s : Shared) (v : Value), BindsTo s fd ⟨[v], []⟩ [("_law_script", v)]) ∧ ∀ base : Heap, K.In base → base.Ns mainGlobals mg → FnOk l.prog w K mg base CX0 4 fa fd ["_law_script"] (spLaw K) := by
 have eC_GlueError := clsOf_is aC_GlueError
 have tl_ := tail_of xq_GlueError ⟨_, _, _, _, _, _, _, _, _, _, _, _, _, lC_GlueError⟩
 have eC_TooMany := clsOf_is aC_TooMany
 have xc_TooMany : XC K C_TooMany C_GlueError := ⟨⟨_, _, _, _, _, _, _, _, _, _, _, _, _, lC_TooMany⟩, ga_TooMany, gh_TooMany, sa_TooMany, cl_TooMany⟩
 have eC_NoPiece := clsOf_is aC_NoPiece
 have xc_NoPiece : XC K C_NoPiece C_GlueError := ⟨⟨_, _, _, _, _, _, _, _, _, _, _, _, _, lC_NoPiece⟩, ga_NoPiece, gh_NoPiece, sa_NoPiece, cl_NoPiece⟩
 have eC_NoLap := clsOf_is aC_NoLap
 have xc_NoLap : XC K C_NoLap C_GlueError := ⟨⟨_, _, _, _, _, _, _, _, _, _, _, _, _, lC_NoLap⟩, ga_NoLap, gh_NoLap, sa_NoLap, cl_NoLap⟩
 have eC_NoOrder := clsOf_is aC_NoOrder
 have xc_NoOrder : XC K C_NoOrder C_GlueError := ⟨⟨_, _, _, _, _, _, _, _, _, _, _, _, _, lC_NoOrder⟩, ga_NoOrder, gh_NoOrder, sa_NoOrder, cl_NoOrder⟩
 have eC_NotHeld := clsOf_is aC_NotHeld
 have xc_NotHeld : XC K C_NotHeld C_GlueError := ⟨⟨_, _, _, _, _, _, _, _, _, _, _, _, _, lC_NotHeld⟩, ga_NotHeld, gh_NotHeld, sa_NotHeld, cl_NotHeld⟩
 have eC_NoTable := clsOf_is aC_NoTable
 have xc_NoTable : XC K C_NoTable C_GlueError := ⟨⟨_, _, _, _, _, _, _, _, _, _, _, _, _, lC_NoTable⟩, ga_NoTable, gh_NoTable, sa_NoTable, cl_NoTable⟩
 have eC_NoRing := clsOf_is aC_NoRing
 have xc_NoRing : XC K C_NoRing C_GlueError := ⟨⟨_, _, _, _, _, _, _, _, _, _, _, _, _, lC_NoRing⟩, ga_NoRing, gh_NoRing, sa_NoRing, cl_NoRing⟩
 have eC_TooGreat := clsOf_is aC_TooGreat
 have xc_TooGreat : XC K C_TooGreat C_GlueError := ⟨⟨_, _, _, _, _, _, _, _, _, _, _, _, _, lC_TooGreat⟩, ga_TooGreat, gh_TooGreat, sa_TooGreat, cl_TooGreat⟩
 have eC_NoWords := clsOf_is aC_NoWords
 have xc_NoWords : XC K C_NoWords C_GlueError := ⟨⟨_, _, _, _, _, _, _, _, _, _, _, _, _, lC_NoWords⟩, ga_NoWords, gh_NoWords, sa_NoWords, cl_NoWords⟩
 have eC_NotApart := clsOf_is aC_NotApart
 have xc_NotApart : XC K C_NotApart C_GlueError := ⟨⟨_, _, _, _, _, _, _, _, _, _, _, _, _, lC_NotApart⟩, ga_NotApart, gh_NotApart, sa_NotApart, cl_NotApart⟩
 have eC_NoCounts := clsOf_is aC_NoCounts
 have xc_NoCounts : XC K C_NoCounts C_GlueError := ⟨⟨_, _, _, _, _, _, _, _, _, _, _, _, _, lC_NoCounts⟩, ga_NoCounts, gh_NoCounts, sa_NoCounts, cl_NoCounts⟩
 have eC_NotCovered := clsOf_is aC_NotCovered
 have xc_NotCovered : XC K C_NotCovered C_GlueError := ⟨⟨_, _, _, _, _, _, _, _, _, _, _, _, _, lC_NotCovered⟩, ga_NotCovered, gh_NotCovered, sa_NotCovered, cl_NotCovered⟩
 have eC_NoLine := clsOf_is aC_NoLine
 have xc_NoLine : XC K C_NoLine C_GlueError := ⟨⟨_, _, _, _, _, _, _, _, _, _, _, _, _, lC_NoLine⟩, ga_NoLine, gh_NoLine, sa_NoLine, cl_NoLine⟩
 have eC_NoPaper := clsOf_is aC_NoPaper
 have xc_NoPaper : XC K C_NoPaper C_GlueError := ⟨⟨_, _, _, _, _, _, _, _, _, _, _, _, _, lC_NoPaper⟩, ga_NoPaper, gh_NoPaper, sa_NoPaper, cl_NoPaper⟩
 have eC_NotTold := clsOf_is aC_NotTold
 have xc_NotTold : XC K C_NotTold C_GlueError := ⟨⟨_, _, _, _, _, _, _, _, _, _, _, _, _, lC_NotTold⟩, ga_NotTold, gh_NotTold, sa_NotTold, cl_NotTold⟩
 have TX : TxX K mg := ⟨⟨by rw [XCl, eC_GlueError]; exact ⟨_, _, _, lC_GlueError, rfl⟩, fun c hc => by
  simp only [xcs, List.mem_cons, List.not_mem_nil, or_false] at hc
  rcases hc with rfl | rfl | rfl | rfl | rfl | rfl | rfl | rfl | rfl | rfl | rfl | rfl | rfl | rfl | rfl
  ·rw [XCl, eC_TooMany]; exact ⟨_, _, _, lC_TooMany, rfl⟩
  ·rw [XCl, eC_NoPiece]; exact ⟨_, _, _, lC_NoPiece, rfl⟩
  ·rw [XCl, eC_NoLap]; exact ⟨_, _, _, lC_NoLap, rfl⟩
  ·rw [XCl, eC_NoOrder]; exact ⟨_, _, _, lC_NoOrder, rfl⟩
  ·rw [XCl, eC_NotHeld]; exact ⟨_, _, _, lC_NotHeld, rfl⟩
  ·rw [XCl, eC_NoTable]; exact ⟨_, _, _, lC_NoTable, rfl⟩
  ·rw [XCl, eC_NoRing]; exact ⟨_, _, _, lC_NoRing, rfl⟩
  ·rw [XCl, eC_TooGreat]; exact ⟨_, _, _, lC_TooGreat, rfl⟩
  ·rw [XCl, eC_NoWords]; exact ⟨_, _, _, lC_NoWords, rfl⟩
  ·rw [XCl, eC_NotApart]; exact ⟨_, _, _, lC_NotApart, rfl⟩
  ·rw [XCl, eC_NoCounts]; exact ⟨_, _, _, lC_NoCounts, rfl⟩
  ·rw [XCl, eC_NotCovered]; exact ⟨_, _, _, lC_NotCovered, rfl⟩
  ·rw [XCl, eC_NoLine]; exact ⟨_, _, _, lC_NoLine, rfl⟩
  ·rw [XCl, eC_NoPaper]; exact ⟨_, _, _, lC_NoPaper, rfl⟩
  ·rw [XCl, eC_NotTold]; exact ⟨_, _, _, lC_NotTold, rfl⟩, fun c hc => by
  simp only [xcs, List.mem_cons, List.not_mem_nil, or_false] at hc
  rcases hc with rfl | rfl | rfl | rfl | rfl | rfl | rfl | rfl | rfl | rfl | rfl | rfl | rfl | rfl | rfl
  ·rw [eC_TooMany, eC_GlueError]; exact xc_TooMany
  ·rw [eC_NoPiece, eC_GlueError]; exact xc_NoPiece
  ·rw [eC_NoLap, eC_GlueError]; exact xc_NoLap
  ·rw [eC_NoOrder, eC_GlueError]; exact xc_NoOrder
  ·rw [eC_NotHeld, eC_GlueError]; exact xc_NotHeld
  ·rw [eC_NoTable, eC_GlueError]; exact xc_NoTable
  ·rw [eC_NoRing, eC_GlueError]; exact xc_NoRing
  ·rw [eC_TooGreat, eC_GlueError]; exact xc_TooGreat
  ·rw [eC_NoWords, eC_GlueError]; exact xc_NoWords
  ·rw [eC_NotApart, eC_GlueError]; exact xc_NotApart
  ·rw [eC_NoCounts, eC_GlueError]; exact xc_NoCounts
  ·rw [eC_NotCovered, eC_GlueError]; exact xc_NotCovered
  ·rw [eC_NoLine, eC_GlueError]; exact xc_NoLine
  ·rw [eC_NoPaper, eC_GlueError]; exact xc_NoPaper
  ·rw [eC_NotTold, eC_GlueError]; exact xc_NotTold⟩, fun c g hc => by
  simp only [xats, List.mem_cons, List.not_mem_nil, or_false, Prod.mk.injEq] at hc
  rcases hc with ⟨rfl, rfl⟩ | ⟨rfl, rfl⟩ | ⟨rfl, rfl⟩ | ⟨rfl, rfl⟩ | ⟨rfl, rfl⟩ | ⟨rfl, rfl⟩ | ⟨rfl, rfl⟩ | ⟨rfl, rfl⟩ | ⟨rfl, rfl⟩
  ·rw [eC_TooMany]; exact xn_TooMany
  ·rw [eC_NoPiece]; exact xn_NoPiece
  ·rw [eC_NoLap]; exact xn_NoLap
  ·rw [eC_NotHeld]; exact xn_NotHeld
  ·rw [eC_TooGreat]; exact xn_TooGreat
  ·rw [eC_NotApart]; exact xn_NotApart
  ·rw [eC_NoCounts]; exact xn_NoCounts
  ·rw [eC_NotCovered]; exact xn_NotCovered
  ·rw [eC_NoLine]; exact xn_NoLine, by rw [eC_TooMany]; exact PySem.W.mg_of X G aC_TooMany, by rw [eC_NoPiece]; exact PySem.W.mg_of X G aC_NoPiece, by rw [eC_NoLap]; exact PySem.W.mg_of X G aC_NoLap, by rw [eC_NoOrder]; exact PySem.W.mg_of X G aC_NoOrder, by rw [eC_NotHeld]; exact PySem.W.mg_of X G aC_NotHeld, by rw [eC_NoTable]; exact PySem.W.mg_of X G aC_NoTable, by rw [eC_NoRing]; exact PySem.W.mg_of X G aC_NoRing, by rw [eC_TooGreat]; exact PySem.W.mg_of X G aC_TooGreat, by rw [eC_NoWords]; exact PySem.W.mg_of X G aC_NoWords, by rw [eC_NotApart]; exact PySem.W.mg_of X G aC_NotApart, by rw [eC_NoCounts]; exact PySem.W.mg_of X G aC_NoCounts, by rw [eC_NotCovered]; exact PySem.W.mg_of X G aC_NotCovered, by rw [eC_NoLine]; exact PySem.W.mg_of X G aC_NoLine, by rw [eC_NoPaper]; exact PySem.W.mg_of X G aC_NoPaper, by rw [eC_NotTold]; exact PySem.W.mg_of X G aC_NotTold, by rw [eC_GlueError]; exact PySem.W.mg_of X G aC_GlueError, by rw [eC_NoOrder]; exact x0_of xq_NoOrder, by rw [eC_NoOrder]; exact kc_NoOrder, by rw [eC_NoTable]; exact x0_of xq_NoTable, by rw [eC_NoTable]; exact kc_NoTable, by rw [eC_NoRing]; exact x0_of xq_NoRing, by rw [eC_NoRing]; exact kc_NoRing, by rw [eC_NoWords]; exact x0_of xq_NoWords, by rw [eC_NoWords]; exact kc_NoWords, by rw [eC_NoPaper]; exact x0_of xq_NoPaper, by rw [eC_NoPaper]; exact kc_NoPaper, by rw [eC_NotTold]; exact x0_of xq_NotTold, by rw [eC_NotTold]; exact kc_NotTold⟩
 have D_law_number : DefAt K mg "_law_number" s_law_number := .mk' X G a1 l1 c1 k1
 have D_law_made : DefAt K mg "_law_made" s_law_made := .mk' X G a2 l2 c2 k2
 have D_law_kinds : DefAt K mg "_law_kinds" s_law_kinds := .mk' X G a3 l3 c3 k3
 have D_law_fields : DefAt K mg "_law_fields" s_law_fields := .mk' X G a4 l4 c4 k4
 have D_law : DefAt K mg "law" s_law := .mk' X G a5 l5 c5 k5
 have T : Txt mg := ⟨PySem.W.mg_none_of X G z1, PySem.W.mg_none_of X G z2, PySem.W.mg_none_of X G z3, PySem.W.mg_none_of X G z4, PySem.W.mg_none_of X G z5⟩
 refine law_at (st := s_law) hfa D_law (fun _ _ _ _ _ _ s v => .of_eq rfl) fun base => ?_
 have C_TooMany_init : CalX l.prog w K mg base 1 (clsOf K "TooMany") "TooMany" "most" := by
  rw [eC_TooMany]
  exact calX_of (fun_mk (st := s_TooMany_init) xl_TooMany xc0_TooMany xk_TooMany) sc_TooMany_init rfl (fun _ _ _ _ _ _ us hl => match us, hl with | [_, _], _ => rfl) (fun cdv A outer s H E => pss_one (ps_fldXK K rfl (pv 0) (pv 1) rfl)) ⟨xc_TooMany, tl_, xi_TooMany, xt_TooMany, kc_TooMany⟩ xn_TooMany (PySem.W.mg_of X G aC_TooMany)
 have C_NoPiece_init : CalX l.prog w K mg base 1 (clsOf K "NoPiece") "NoPiece" "at" := by
  rw [eC_NoPiece]
  exact calX_of (fun_mk (st := s_NoPiece_init) xl_NoPiece xc0_NoPiece xk_NoPiece) sc_NoPiece_init rfl (fun _ _ _ _ _ _ us hl => match us, hl with | [_, _], _ => rfl) (fun cdv A outer s H E => pss_one (ps_fldXK K rfl (pv 0) (pv 1) rfl)) ⟨xc_NoPiece, tl_, xi_NoPiece, xt_NoPiece, kc_NoPiece⟩ xn_NoPiece (PySem.W.mg_of X G aC_NoPiece)
 have C_NoLap_init : CalX l.prog w K mg base 1 (clsOf K "NoLap") "NoLap" "k" := by
  rw [eC_NoLap]
  exact calX_of (fun_mk (st := s_NoLap_init) xl_NoLap xc0_NoLap xk_NoLap) sc_NoLap_init rfl (fun _ _ _ _ _ _ us hl => match us, hl with | [_, _], _ => rfl) (fun cdv A outer s H E => pss_one (ps_fldXK K rfl (pv 0) (pv 1) rfl)) ⟨xc_NoLap, tl_, xi_NoLap, xt_NoLap, kc_NoLap⟩ xn_NoLap (PySem.W.mg_of X G aC_NoLap)
 have C_NotHeld_init : CalX l.prog w K mg base 1 (clsOf K "NotHeld") "NotHeld" "at" := by
  rw [eC_NotHeld]
  exact calX_of (fun_mk (st := s_NotHeld_init) xl_NotHeld xc0_NotHeld xk_NotHeld) sc_NotHeld_init rfl (fun _ _ _ _ _ _ us hl => match us, hl with | [_, _], _ => rfl) (fun cdv A outer s H E => pss_one (ps_fldXK K rfl (pv 0) (pv 1) rfl)) ⟨xc_NotHeld, tl_, xi_NotHeld, xt_NotHeld, kc_NotHeld⟩ xn_NotHeld (PySem.W.mg_of X G aC_NotHeld)
 have C_TooGreat_init : CalX l.prog w K mg base 1 (clsOf K "TooGreat") "TooGreat" "most" := by
  rw [eC_TooGreat]
  exact calX_of (fun_mk (st := s_TooGreat_init) xl_TooGreat xc0_TooGreat xk_TooGreat) sc_TooGreat_init rfl (fun _ _ _ _ _ _ us hl => match us, hl with | [_, _], _ => rfl) (fun cdv A outer s H E => pss_one (ps_fldXK K rfl (pv 0) (pv 1) rfl)) ⟨xc_TooGreat, tl_, xi_TooGreat, xt_TooGreat, kc_TooGreat⟩ xn_TooGreat (PySem.W.mg_of X G aC_TooGreat)
 have C_NotApart_init : CalX l.prog w K mg base 1 (clsOf K "NotApart") "NotApart" "at" := by
  rw [eC_NotApart]
  exact calX_of (fun_mk (st := s_NotApart_init) xl_NotApart xc0_NotApart xk_NotApart) sc_NotApart_init rfl (fun _ _ _ _ _ _ us hl => match us, hl with | [_, _], _ => rfl) (fun cdv A outer s H E => pss_one (ps_fldXK K rfl (pv 0) (pv 1) rfl)) ⟨xc_NotApart, tl_, xi_NotApart, xt_NotApart, kc_NotApart⟩ xn_NotApart (PySem.W.mg_of X G aC_NotApart)
 have C_NoCounts_init : CalX l.prog w K mg base 1 (clsOf K "NoCounts") "NoCounts" "at" := by
  rw [eC_NoCounts]
  exact calX_of (fun_mk (st := s_NoCounts_init) xl_NoCounts xc0_NoCounts xk_NoCounts) sc_NoCounts_init rfl (fun _ _ _ _ _ _ us hl => match us, hl with | [_, _], _ => rfl) (fun cdv A outer s H E => pss_one (ps_fldXK K rfl (pv 0) (pv 1) rfl)) ⟨xc_NoCounts, tl_, xi_NoCounts, xt_NoCounts, kc_NoCounts⟩ xn_NoCounts (PySem.W.mg_of X G aC_NoCounts)
 have C_NotCovered_init : CalX l.prog w K mg base 1 (clsOf K "NotCovered") "NotCovered" "at" := by
  rw [eC_NotCovered]
  exact calX_of (fun_mk (st := s_NotCovered_init) xl_NotCovered xc0_NotCovered xk_NotCovered) sc_NotCovered_init rfl (fun _ _ _ _ _ _ us hl => match us, hl with | [_, _], _ => rfl) (fun cdv A outer s H E => pss_one (ps_fldXK K rfl (pv 0) (pv 1) rfl)) ⟨xc_NotCovered, tl_, xi_NotCovered, xt_NotCovered, kc_NotCovered⟩ xn_NotCovered (PySem.W.mg_of X G aC_NotCovered)
 have C_NoLine_init : CalX l.prog w K mg base 1 (clsOf K "NoLine") "NoLine" "at" := by
  rw [eC_NoLine]
  exact calX_of (fun_mk (st := s_NoLine_init) xl_NoLine xc0_NoLine xk_NoLine) sc_NoLine_init rfl (fun _ _ _ _ _ _ us hl => match us, hl with | [_, _], _ => rfl) (fun cdv A outer s H E => pss_one (ps_fldXK K rfl (pv 0) (pv 1) rfl)) ⟨xc_NoLine, tl_, xi_NoLine, xt_NoLine, kc_NoLine⟩ xn_NoLine (PySem.W.mg_of X G aC_NoLine)
 have C_law_number := ok_law_number (P := l.prog) (w := w) (base := base) D_law_number T TX
 have C_law_made := ok_law_made (P := l.prog) (w := w) (base := base) D_law_made T TX C_NoCounts_init C_NoLap_init C_NoLine_init C_NoPiece_init C_NotApart_init C_NotCovered_init C_NotHeld_init C_TooGreat_init C_TooMany_init
 have C_law_kinds := ok_law_kinds (P := l.prog) (w := w) (base := base) D_law_kinds T TX
 have C_law_fields := ok_law_fields (P := l.prog) (w := w) (base := base) D_law_fields T TX
 exact (ok_law (P := l.prog) (w := w) (base := base) D_law T TX C_law_fields C_law_kinds C_law_made C_law_number).imp fun _ _ _ _ h => spLaw_P h
end K76

open PySem PySem.W PyProof.Rows
set_option maxRecDepth 100000 in
set_option maxHeartbeats 0 in
theorem PySem.Challenge.cw_shortglue_k76_errors_holds : PySem.Challenge.rw_shortglue_k76_errors.Holds := by
  w_on; o_law; k_head; (case hw => w_witness2)
  k_fill
  refine L2.walk63 (l := PySem.Challenge.rw_shortglue_k76_errors) (k := 4) (x := "_law_script") rfl rfl ⟨rfl, by decide, by decide⟩ (fun w h Y => PySem.W.kIn_of Y) ?F
  case F =>
    intro w mg fa h KX G hmg
    refine' K76.all_mk KX G hmg ?aC_GlueError ?lC_GlueError ?xq_GlueError ?aC_TooMany ?lC_TooMany ?ga_TooMany ?gh_TooMany ?sa_TooMany ?cl_TooMany ?kc_TooMany ?xi_TooMany ?xt_TooMany ?xl_TooMany ?xc0_TooMany ?xk_TooMany ?xn_TooMany ?aC_NoPiece ?lC_NoPiece ?ga_NoPiece ?gh_NoPiece ?sa_NoPiece ?cl_NoPiece ?kc_NoPiece ?xi_NoPiece ?xt_NoPiece ?xl_NoPiece ?xc0_NoPiece ?xk_NoPiece ?xn_NoPiece ?aC_NoLap ?lC_NoLap ?ga_NoLap ?gh_NoLap ?sa_NoLap ?cl_NoLap ?kc_NoLap ?xi_NoLap ?xt_NoLap ?xl_NoLap ?xc0_NoLap ?xk_NoLap ?xn_NoLap ?aC_NoOrder ?lC_NoOrder ?ga_NoOrder ?gh_NoOrder ?sa_NoOrder ?cl_NoOrder ?kc_NoOrder ?xq_NoOrder ?aC_NotHeld ?lC_NotHeld ?ga_NotHeld ?gh_NotHeld ?sa_NotHeld ?cl_NotHeld ?kc_NotHeld ?xi_NotHeld ?xt_NotHeld ?xl_NotHeld ?xc0_NotHeld ?xk_NotHeld ?xn_NotHeld ?aC_NoTable ?lC_NoTable ?ga_NoTable ?gh_NoTable ?sa_NoTable ?cl_NoTable ?kc_NoTable ?xq_NoTable ?aC_NoRing ?lC_NoRing ?ga_NoRing ?gh_NoRing ?sa_NoRing ?cl_NoRing ?kc_NoRing ?xq_NoRing ?aC_TooGreat ?lC_TooGreat ?ga_TooGreat ?gh_TooGreat ?sa_TooGreat ?cl_TooGreat ?kc_TooGreat ?xi_TooGreat ?xt_TooGreat ?xl_TooGreat ?xc0_TooGreat ?xk_TooGreat ?xn_TooGreat ?aC_NoWords ?lC_NoWords ?ga_NoWords ?gh_NoWords ?sa_NoWords ?cl_NoWords ?kc_NoWords ?xq_NoWords ?aC_NotApart ?lC_NotApart ?ga_NotApart ?gh_NotApart ?sa_NotApart ?cl_NotApart ?kc_NotApart ?xi_NotApart ?xt_NotApart ?xl_NotApart ?xc0_NotApart ?xk_NotApart ?xn_NotApart ?aC_NoCounts ?lC_NoCounts ?ga_NoCounts ?gh_NoCounts ?sa_NoCounts ?cl_NoCounts ?kc_NoCounts ?xi_NoCounts ?xt_NoCounts ?xl_NoCounts ?xc0_NoCounts ?xk_NoCounts ?xn_NoCounts ?aC_NotCovered ?lC_NotCovered ?ga_NotCovered ?gh_NotCovered ?sa_NotCovered ?cl_NotCovered ?kc_NotCovered ?xi_NotCovered ?xt_NotCovered ?xl_NotCovered ?xc0_NotCovered ?xk_NotCovered ?xn_NotCovered ?aC_NoLine ?lC_NoLine ?ga_NoLine ?gh_NoLine ?sa_NoLine ?cl_NoLine ?kc_NoLine ?xi_NoLine ?xt_NoLine ?xl_NoLine ?xc0_NoLine ?xk_NoLine ?xn_NoLine ?aC_NoPaper ?lC_NoPaper ?ga_NoPaper ?gh_NoPaper ?sa_NoPaper ?cl_NoPaper ?kc_NoPaper ?xq_NoPaper ?aC_NotTold ?lC_NotTold ?ga_NotTold ?gh_NotTold ?sa_NotTold ?cl_NotTold ?kc_NotTold ?xq_NotTold ?a1 ?l1 ?c1 ?k1 ?a2 ?l2 ?c2 ?k2 ?a3 ?l3 ?c3 ?k3 ?a4 ?l4 ?c4 ?k4 ?a5 ?l5 ?c5 ?k5 ?z1 ?z2 ?z3 ?z4 ?z5
    (case aC_GlueError => k_is)
    (case lC_GlueError => k_is)
    (case xq_GlueError => k_exc)
    (case aC_TooMany => k_is)
    (case lC_TooMany => k_is)
    (case ga_TooMany => k_is)
    (case gh_TooMany => k_is)
    (case sa_TooMany => k_is)
    (case cl_TooMany => k_is)
    (case kc_TooMany => k_is)
    (case xi_TooMany => k_is)
    (case xt_TooMany => k_is)
    (case xl_TooMany => k_is)
    (case xc0_TooMany => k_is)
    (case xk_TooMany => k_is)
    (case xn_TooMany => k_is)
    (case aC_NoPiece => k_is)
    (case lC_NoPiece => k_is)
    (case ga_NoPiece => k_is)
    (case gh_NoPiece => k_is)
    (case sa_NoPiece => k_is)
    (case cl_NoPiece => k_is)
    (case kc_NoPiece => k_is)
    (case xi_NoPiece => k_is)
    (case xt_NoPiece => k_is)
    (case xl_NoPiece => k_is)
    (case xc0_NoPiece => k_is)
    (case xk_NoPiece => k_is)
    (case xn_NoPiece => k_is)
    (case aC_NoLap => k_is)
    (case lC_NoLap => k_is)
    (case ga_NoLap => k_is)
    (case gh_NoLap => k_is)
    (case sa_NoLap => k_is)
    (case cl_NoLap => k_is)
    (case kc_NoLap => k_is)
    (case xi_NoLap => k_is)
    (case xt_NoLap => k_is)
    (case xl_NoLap => k_is)
    (case xc0_NoLap => k_is)
    (case xk_NoLap => k_is)
    (case xn_NoLap => k_is)
    (case aC_NoOrder => k_is)
    (case lC_NoOrder => k_is)
    (case ga_NoOrder => k_is)
    (case gh_NoOrder => k_is)
    (case sa_NoOrder => k_is)
    (case cl_NoOrder => k_is)
    (case kc_NoOrder => k_is)
    (case xq_NoOrder => k_exc)
    (case aC_NotHeld => k_is)
    (case lC_NotHeld => k_is)
    (case ga_NotHeld => k_is)
    (case gh_NotHeld => k_is)
    (case sa_NotHeld => k_is)
    (case cl_NotHeld => k_is)
    (case kc_NotHeld => k_is)
    (case xi_NotHeld => k_is)
    (case xt_NotHeld => k_is)
    (case xl_NotHeld => k_is)
    (case xc0_NotHeld => k_is)
    (case xk_NotHeld => k_is)
    (case xn_NotHeld => k_is)
    (case aC_NoTable => k_is)
    (case lC_NoTable => k_is)
    (case ga_NoTable => k_is)
    (case gh_NoTable => k_is)
    (case sa_NoTable => k_is)
    (case cl_NoTable => k_is)
    (case kc_NoTable => k_is)
    (case xq_NoTable => k_exc)
    (case aC_NoRing => k_is)
    (case lC_NoRing => k_is)
    (case ga_NoRing => k_is)
    (case gh_NoRing => k_is)
    (case sa_NoRing => k_is)
    (case cl_NoRing => k_is)
    (case kc_NoRing => k_is)
    (case xq_NoRing => k_exc)
    (case aC_TooGreat => k_is)
    (case lC_TooGreat => k_is)
    (case ga_TooGreat => k_is)
    (case gh_TooGreat => k_is)
    (case sa_TooGreat => k_is)
    (case cl_TooGreat => k_is)
    (case kc_TooGreat => k_is)
    (case xi_TooGreat => k_is)
    (case xt_TooGreat => k_is)
    (case xl_TooGreat => k_is)
    (case xc0_TooGreat => k_is)
    (case xk_TooGreat => k_is)
    (case xn_TooGreat => k_is)
    (case aC_NoWords => k_is)
    (case lC_NoWords => k_is)
    (case ga_NoWords => k_is)
    (case gh_NoWords => k_is)
    (case sa_NoWords => k_is)
    (case cl_NoWords => k_is)
    (case kc_NoWords => k_is)
    (case xq_NoWords => k_exc)
    (case aC_NotApart => k_is)
    (case lC_NotApart => k_is)
    (case ga_NotApart => k_is)
    (case gh_NotApart => k_is)
    (case sa_NotApart => k_is)
    (case cl_NotApart => k_is)
    (case kc_NotApart => k_is)
    (case xi_NotApart => k_is)
    (case xt_NotApart => k_is)
    (case xl_NotApart => k_is)
    (case xc0_NotApart => k_is)
    (case xk_NotApart => k_is)
    (case xn_NotApart => k_is)
    (case aC_NoCounts => k_is)
    (case lC_NoCounts => k_is)
    (case ga_NoCounts => k_is)
    (case gh_NoCounts => k_is)
    (case sa_NoCounts => k_is)
    (case cl_NoCounts => k_is)
    (case kc_NoCounts => k_is)
    (case xi_NoCounts => k_is)
    (case xt_NoCounts => k_is)
    (case xl_NoCounts => k_is)
    (case xc0_NoCounts => k_is)
    (case xk_NoCounts => k_is)
    (case xn_NoCounts => k_is)
    (case aC_NotCovered => k_is)
    (case lC_NotCovered => k_is)
    (case ga_NotCovered => k_is)
    (case gh_NotCovered => k_is)
    (case sa_NotCovered => k_is)
    (case cl_NotCovered => k_is)
    (case kc_NotCovered => k_is)
    (case xi_NotCovered => k_is)
    (case xt_NotCovered => k_is)
    (case xl_NotCovered => k_is)
    (case xc0_NotCovered => k_is)
    (case xk_NotCovered => k_is)
    (case xn_NotCovered => k_is)
    (case aC_NoLine => k_is)
    (case lC_NoLine => k_is)
    (case ga_NoLine => k_is)
    (case gh_NoLine => k_is)
    (case sa_NoLine => k_is)
    (case cl_NoLine => k_is)
    (case kc_NoLine => k_is)
    (case xi_NoLine => k_is)
    (case xt_NoLine => k_is)
    (case xl_NoLine => k_is)
    (case xc0_NoLine => k_is)
    (case xk_NoLine => k_is)
    (case xn_NoLine => k_is)
    (case aC_NoPaper => k_is)
    (case lC_NoPaper => k_is)
    (case ga_NoPaper => k_is)
    (case gh_NoPaper => k_is)
    (case sa_NoPaper => k_is)
    (case cl_NoPaper => k_is)
    (case kc_NoPaper => k_is)
    (case xq_NoPaper => k_exc)
    (case aC_NotTold => k_is)
    (case lC_NotTold => k_is)
    (case ga_NotTold => k_is)
    (case gh_NotTold => k_is)
    (case sa_NotTold => k_is)
    (case cl_NotTold => k_is)
    (case kc_NotTold => k_is)
    (case xq_NotTold => k_exc)
    (case a1 => k_is)
    (case l1 => k_is)
    (case c1 => k_is)
    (case k1 => k_is)
    (case a2 => k_is)
    (case l2 => k_is)
    (case c2 => k_is)
    (case k2 => k_is)
    (case a3 => k_is)
    (case l3 => k_is)
    (case c3 => k_is)
    (case k3 => k_is)
    (case a4 => k_is)
    (case l4 => k_is)
    (case c4 => k_is)
    (case k4 => k_is)
    (case a5 => k_is)
    (case l5 => k_is)
    (case c5 => k_is)
    (case k5 => k_is)
    (case z1 => k_is)
    (case z2 => k_is)
    (case z3 => k_is)
    (case z4 => k_is)
    (case z5 => k_is)
