import PyProof.Rows.All
import Wide.All
import OpenK.AllK
import Wide.FinOn
import Lean
import PyProof.EqAt
import PyProof.EqKinds
import PyProof.TupleCall
import PySem.Challenge.RW_shortglue_k66_no_pieces
set_option Elab.async false
set_option linter.all false
set_option maxRecDepth 100000
-- CHANGE: your row's module here, as the last of these rows
namespace L2
open PySem PySem.Spec PyProof.Rows
abbrev Key := Sum Int Str
def keyIs : Key → Value → Bool
  | .inl k, v => Value.isInt k v
  | .inr x, v => Value.isStrOf x v
def keyH (w : World) : Key → Int
  | .inl k => hashInt k
  | .inr x => hashStr w x
theorem keyIs_shape : ∀ {k : Key} {v : Value}, keyIs k v = true → (∃ i t, k = Sum.inl i ∧ v = Value.int i t) ∨ (∃ x t, k = Sum.inr x ∧ v = Value.str x t)
  | .inl i, v, h => by
    obtain ⟨t, e⟩ := Value.isInt_shape (k := i) (v := v) h
    exact .inl ⟨i, t, rfl, e⟩
  | .inr x, v, h => by
    obtain ⟨t, e⟩ := Value.isStrOf_shape (x := x) (v := v) h
    exact .inr ⟨x, t, rfl, e⟩
theorem key_ll (a b : Int) : decide ((Sum.inl a : Key) = Sum.inl b) = (a == b) := by
  by_cases e : a = b
  · subst e; simp
  · have h : ¬ (Sum.inl a : Key) = Sum.inl b := fun q => e (Sum.inl.inj q)
    rw [decide_eq_false h]
    exact (beq_eq_false_iff_ne.mpr e).symm
theorem key_rr (a b : Str) : decide ((Sum.inr a : Key) = Sum.inr b) = decide (a = b) := by
  by_cases e : a = b
  · subst e; simp
  · have h : ¬ (Sum.inr a : Key) = Sum.inr b := fun q => e (Sum.inr.inj q)
    rw [decide_eq_false h, decide_eq_false e]
theorem key_lr (a : Int) (b : Str) : decide ((Sum.inl a : Key) = Sum.inr b) = false := decide_eq_false (fun q => nomatch q)
theorem key_rl (a : Str) (b : Int) : decide ((Sum.inr a : Key) = Sum.inl b) = false := decide_eq_false (fun q => nomatch q)
def mixKind (prog : Program) (w : World) : PySem.KeyKind prog w Key where
  is := keyIs
  hash := keyH w
  inj := fun v a b ha hb => by
    rcases keyIs_shape ha with ⟨i, t, rfl, rfl⟩ | ⟨x, t, rfl, rfl⟩
    · rcases keyIs_shape hb with ⟨j, u, rfl, e⟩ | ⟨y, u, rfl, e⟩
      · injection e with e1 _; rw [e1]
      · exact nomatch e
    · rcases keyIs_shape hb with ⟨j, u, rfl, e⟩ | ⟨y, u, rfl, e⟩
      · exact nomatch e
      · injection e with e1 _; rw [e1]
  byValue := fun k v h => by
    rcases keyIs_shape h with ⟨i, t, rfl, rfl⟩ | ⟨x, t, rfl, rfl⟩ <;> rfl
  pyHash := fun hv h => by
    rcases keyIs_shape hv with ⟨i, t, rfl, rfl⟩ | ⟨x, t, rfl, rfl⟩
    · exact wpAny_pyHash_int h
    · exact wpAny_pyHash_str h
  eqBool := fun hu hv h => by
    rcases keyIs_shape hu with ⟨i, t, rfl, rfl⟩ | ⟨x, t, rfl, rfl⟩
    · rcases keyIs_shape hv with ⟨j, u, rfl, rfl⟩ | ⟨y, u, rfl, rfl⟩
      · rw [key_ll] at h; exact wpAny_eqBool_int h
      · rw [key_lr] at h; exact SeqAt.EqAt.int_str i t y u _ _ _ _ h
    · rcases keyIs_shape hv with ⟨j, u, rfl, rfl⟩ | ⟨y, u, rfl, rfl⟩
      · rw [key_rl] at h; exact SeqAt.EqAt.str_int x t j u _ _ _ _ h
      · rw [key_rr] at h; exact wpAny_eqBool_str h
  «strs» := fun k x t v h => by
    rcases keyIs_shape h with ⟨i, u, rfl, e⟩ | ⟨y, u, rfl, e⟩
    · exact nomatch e
    · injection e with e1 _
      subst e1
      cases v <;> rfl
end L2
namespace L2
open PySem PySem.Spec PyProof.Rows
inductive V where
  | non | bl (b : Bool) | int (i : Int) | str (x : Str) | byt (b : Array UInt8) | flt (b : UInt64) | ref (a : Addr) | ty (n : String)
  deriving DecidableEq
def RelV : V → Value → Prop
  | .non, u => u = Value.none
  | .bl b, u => u = Value.bool b
  | .int i, u => ∃ t, u = Value.int i t
  | .str x, u => ∃ t, u = Value.str x t
  | .byt b, u => ∃ t, u = Value.bytes b t
  | .flt b, u => ∃ t, u = Value.float b t
  | .ref a, u => u = Value.ref a
  | .ty n, u => u = Value.type n
abbrev Vals : List V → List Value → Prop := Paired RelV
theorem Vals.length {xs : List V} {us : List Value} (r : Vals xs us) : xs.length = us.length := Paired.length r
theorem Vals.get : ∀ {xs : List V} {us : List Value} {i : Nat} {x : V}, Vals xs us → xs[i]? = some x → ∃ u, us[i]? = some u ∧ RelV x u
  | _, _, _, _, .nil, e => by simp at e
  | _, _, 0, _, .cons r _, e => by simp at e; subst e; exact ⟨_, rfl, r⟩
  | _, _, i + 1, x, .cons _ t, e => by
    obtain ⟨u, h1, h2⟩ := Vals.get (i := i) (x := x) t (by simpa using e)
    exact ⟨u, by simpa using h1, h2⟩
theorem Vals.set {x : V} {u : Value} (r : RelV x u) : ∀ {xs : List V} {us : List Value} (i : Nat), Vals xs us → Vals (xs.set i x) (us.set i u)
  | _, _, _, .nil => .nil
  | _, _, 0, .cons _ t => .cons r t
  | _, _, i + 1, .cons q t => .cons q (Vals.set r i t)
theorem Vals.append : ∀ {xs ys : List V} {us ws : List Value}, Vals xs us → Vals ys ws → Vals (xs ++ ys) (us ++ ws)
  | _, _, _, _, .nil, s => s
  | _, _, _, _, .cons r t, s => .cons r (Vals.append t s)
theorem Vals.take : ∀ {xs : List V} {us : List Value} (n : Nat), Vals xs us → Vals (xs.take n) (us.take n)
  | _, _, 0, _ => .nil
  | _, _, _ + 1, .nil => .nil
  | _, _, n + 1, .cons r t => .cons r (Vals.take n t)
theorem Vals.drop : ∀ {xs : List V} {us : List Value} (n : Nat), Vals xs us → Vals (xs.drop n) (us.drop n)
  | _, _, 0, r => r
  | _, _, _ + 1, .nil => .nil
  | _, _, n + 1, .cons _ t => Vals.drop n t
def RelO : Option V → Option Value → Prop
  | some v, some u => RelV v u
  | none, none => True
  | _, _ => False
def KV {κ : Type} : List (κ × V) → List (κ × Value) → Prop := Paired fun (p : κ × V) (q : κ × Value) => p.1 = q.1 ∧ RelV p.2 q.2
def kV : Key → V
  | .inl i => .int i
  | .inr x => .str x
inductive HO where
  /-- a list -/
  | lst (xs : List V)
  /-- a tuple (never changes) -/
  | tup (xs : List V)
  /-- a dict whose keys are ints and texts; one whose keys are tuples of ints and texts (the empty one is both) -/
  | dK (kvs : List (Key × V)) | dT (kvs : List (List Key × V))
  /-- a set of ints: its members, its size -/
  | set (S : Int → Bool) (n : Nat)
  /-- an instance of the class at C, its dict at dx, its attributes -/
  | ins (C dx : Addr) (fs : List (Str × V))
  /-- the dict of the instance at x -/
  | own (x : Addr)
  /-- the dict of an exception -/
  | xd (fs : List (Str × V))
  /-- a bound method, f of x -/
  | met (f x : Addr)
  /-- a range object lo, lo + 1, .. below hi -/
  | rng (lo hi : Int)
  /-- a thing that is known to the object (the script; a dict while a loop walks it): read, never written while it is so -/
  | frz (o : Obj) (u : HO)
  /-- a code object's table -/
  | tbl (ps : Array Value)
  /-- any other thing, by what is true of its one object (a def of one's own: SetO a S n := HO.ext fun h => ..) -/
  | ext (φ : Heap → Prop)
abbrev Hp := Addr → Option HO
def upd (H : Hp) (a : Addr) (o : HO) : Hp := fun b => if b = a then some o else H b
theorem upd_same {H : Hp} {a : Addr} {o : HO} : upd H a o a = some o := by unfold upd; rw [if_pos rfl]
theorem upd_ne {H : Hp} {a b : Addr} {o : HO} (h : b ≠ a) : upd H a o b = H b := by unfold upd; rw [if_neg h]
theorem ne_of_none {H : Hp} {a b : Addr} {o : HO} (h : H a = some o) (h' : H b = none) : a ≠ b := by
  intro e; subst e; rw [h] at h'; cases h'
section
variable (P : Program) (w : World)
def ObjOk (H : Hp) (h : Heap) (a : Addr) : HO → Prop
  | .lst xs => xs.length ≤ sizeLine ∧ ∃ (its : List Value) (n : Nat), Vals xs its ∧ h.get? a = some { cls := .type "list", data := .seq its.toArray n }
  | .tup xs => xs.length ≤ sizeLine ∧ ∃ its : List Value, Vals xs its ∧ IsTup h a its.toArray
  | .dK kvs => kvs.length ≤ sizeLine ∧ (a == sysModules) = false ∧ ∃ vs, KV kvs vs ∧ h.DictOf (mixKind P w) a vs
  | .dT kvs => kvs.length ≤ sizeLine ∧ (a == sysModules) = false ∧ ∃ xs : List (List Key × Addr × Value),
      Paired (fun (p : List Key × V) (q : List Key × Addr × Value) => p.1 = q.1 ∧ H q.2.1 = some (.tup (p.1.map kV)) ∧ RelV p.2 q.2.2) kvs xs ∧
      ∃ o es ep, h.get? a = some o ∧ o.ExactDict ∧ o.data = .dict es ep ∧ es.toList = xs.map (entryOfKey (tupleKind (mixKind P w))) ∧ (xs.map (·.1)).Nodup
  | .set S n => h.SetOf (intKind P w) a S n
  | .ins C dx fs => H dx = some (.own a) ∧ fs.length ≤ 1000 ∧ dx ≠ a ∧ h.get? a = some (PySem.W.instObj C dx) ∧
      ∃ mA, h.Ns1 dx mA ∧ (∀ f, RelO (fs.lookup f) (mA f)) ∧ PySem.Within mA (fs.map (·.1))
  | .own _ => ∃ o, h.get? a = some o
  | .xd fs => ∃ mA, h.Ns1 a mA ∧ ∀ f, RelO (fs.lookup f) (mA f)
  | .rng lo hi => ∃ t u v, h.get? a = some { cls := .type "range", data := .fields #[.int lo t, .int hi u, .int 1 v] }
  | .frz o u => h.get? a = some o ∧ ObjOk H h a u
  | .tbl ps => h.get? a = some { cls := .none, data := .fields ps }
  | .met f x => h.get? a = some (PySem.W.methodObj (.ref f) (.ref x))
  | .ext φ => φ h ∧ (∃ o, h.get? a = some o) ∧ ∀ h1 h2 : Heap, φ h1 → (∀ o, h1.get? a = some o → h2.get? a = some o) → φ h2
def HOk (H : Hp) (h : Heap) : Prop := ∀ a o, H a = some o → ObjOk P w H h a o
end
section
variable {P : Program} {w : World} {H H' : Hp} {h h' : Heap} {a : Addr} {o : HO}
theorem ObjOk.lt (x : ObjOk P w H h a o) : a < h.objs.size := by
  cases o with
  | lst xs => obtain ⟨_, _, _, _, e⟩ := x; exact Heap.lt_size e
  | tup xs => obtain ⟨_, _, _, p⟩ := x; exact p.lt
  | dK kvs => obtain ⟨_, _, _, _, o, _, _, e, _⟩ := x; exact Heap.lt_size e
  | dT kvs => obtain ⟨_, _, _, _, o, _, _, e, _⟩ := x; exact Heap.lt_size e
  | set S n => obtain ⟨o, _, _, _, e, _⟩ := x; exact Heap.lt_size e
  | ins C dx fs => obtain ⟨_, _, _, e, _⟩ := x; exact Heap.lt_size e
  | own y => obtain ⟨_, e⟩ := x; exact Heap.lt_size e
  | xd fs => obtain ⟨_, ⟨_, _, _, e, _⟩, _⟩ := x; exact Heap.lt_size e
  | rng lo hi => obtain ⟨_, _, _, e⟩ := x; exact Heap.lt_size e
  | frz ob u => obtain ⟨e, _⟩ := x; exact Heap.lt_size e
  | tbl ps => exact Heap.lt_size (show h.get? a = some _ from x)
  | met f y => exact Heap.lt_size (show h.get? a = some _ from x)
  | ext φ => obtain ⟨_, ⟨_, e⟩, _⟩ := x; exact Heap.lt_size e
theorem Paired.mapP {α β : Type} {F G : α → β → Prop} : ∀ {l₁ : List α} {l₂ : List β}, Paired F l₁ l₂ → (∀ a b, F a b → G a b) → Paired G l₁ l₂
  | _, _, .nil, _ => .nil
  | _, _, .cons r t, f => .cons (f _ _ r) (Paired.mapP t f)
theorem ObjOk.stay (x : ObjOk P w H h a o) (k : ∀ b u, (b = a ∨ H b = some (.own a)) → h.get? b = some u → h'.get? b = some u)
    (ho : ∀ b, H b = some (.own a) → H' b = some (.own a)) (ht : ∀ b xs, H b = some (.tup xs) → H' b = some (.tup xs)) : ObjOk P w H' h' a o := by
  induction o with
  | lst xs => obtain ⟨z, its, n, r, e⟩ := x; exact ⟨z, its, n, r, k _ _ (.inl rfl) e⟩
  | tup xs => obtain ⟨z, its, r, ob, e, c⟩ := x; exact ⟨z, its, r, ob, k _ _ (.inl rfl) e, c⟩
  | dK kvs => obtain ⟨z, y, vs, r, ob, es, ep, e, c⟩ := x; exact ⟨z, y, vs, r, ob, es, ep, k _ _ (.inl rfl) e, c⟩
  | dT kvs =>
    obtain ⟨z, y, xs, r, ob, es, ep, e, c⟩ := x
    exact ⟨z, y, xs, Paired.mapP r fun p q z => ⟨z.1, ht _ _ z.2.1, z.2.2⟩, ob, es, ep, k _ _ (.inl rfl) e, c⟩
  | set S n => obtain ⟨ob, es, ep, t, e, c⟩ := x; exact ⟨ob, es, ep, t, k _ _ (.inl rfl) e, c⟩
  | ins C dx fs =>
    obtain ⟨d, z, ne, e, mA, ⟨od, es, ep, e2, c⟩, r⟩ := x
    exact ⟨ho _ d, z, ne, k _ _ (.inl rfl) e, mA, ⟨od, es, ep, k _ _ (.inr d) e2, c⟩, r⟩
  | own y => obtain ⟨ob, e⟩ := x; exact ⟨ob, k _ _ (.inl rfl) e⟩
  | xd fs => obtain ⟨mA, ⟨od, es, ep, e, c⟩, r⟩ := x; exact ⟨mA, ⟨od, es, ep, k _ _ (.inl rfl) e, c⟩, r⟩
  | rng lo hi => obtain ⟨t, u, v, e⟩ := x; exact ⟨t, u, v, k _ _ (.inl rfl) e⟩
  | frz ob u ih => obtain ⟨e, q⟩ := x; exact ⟨k _ _ (.inl rfl) e, ih q⟩
  | tbl ps =>
    have e : h.get? a = some { cls := .none, data := .fields ps } := x
    show h'.get? a = some { cls := .none, data := .fields ps }
    exact k a _ (.inl rfl) e
  | met f y =>
    have e : h.get? a = some (PySem.W.methodObj (.ref f) (.ref y)) := x
    show h'.get? a = some (PySem.W.methodObj (.ref f) (.ref y))
    exact k a _ (.inl rfl) e
  | ext φ => obtain ⟨p, ⟨o, e⟩, st⟩ := x; exact ⟨st _ _ p fun o q => k _ _ (.inl rfl) q, ⟨o, k _ _ (.inl rfl) e⟩, st⟩
theorem HOk.lt (x : HOk P w H h) (e : H a = some o) : a < h.objs.size := (x a o e).lt
theorem HOk.fresh (x : HOk P w H h) (e : h.objs.size ≤ a) : H a = none := by
  cases q : H a with
  | none => rfl
  | some u => exact absurd (Nat.lt_of_lt_of_le (x.lt q) e) (Nat.lt_irrefl _)
theorem HOk.kept (x : HOk P w H h) (k : ∀ b u, h.get? b = some u → h'.get? b = some u) : HOk P w H h' := fun a o e =>
  (x a o e).stay (fun b u _ q => k b u q) (fun _ q => q) fun _ _ q => q
theorem HOk.laid (x : HOk P w H h) (k : ∀ b u, h.get? b = some u → h'.get? b = some u) (hp : h.objs.size ≤ a) (new : ObjOk P w (upd H a o) h' a o) : HOk P w (upd H a o) h' := fun b u e => by
  have hn := x.fresh hp
  by_cases hb : b = a
  · subst hb; rw [upd_same] at e; cases e; exact new
  · rw [upd_ne hb] at e
    exact (x b u e).stay (fun c v _ q => k c v q) (fun c q => by rw [upd_ne (ne_of_none q hn)]; exact q) fun c xs q => by rw [upd_ne (ne_of_none q hn)]; exact q
end
def Rd (H : Hp) (a : Addr) (u : HO) : Prop := H a = some u ∨ ∃ o, H a = some (.frz o u)
theorem Rd.ok {P : Program} {w : World} {H : Hp} {h : Heap} {a : Addr} {u : HO} (r : Rd H a u) (x : HOk P w H h) : ObjOk P w H h a u := by
  rcases r with r | ⟨o, r⟩
  · exact x a u r
  · obtain ⟨_, q⟩ := x a _ r
    exact q
def Mut : Option HO → Prop
  | some (.lst _) => True
  | some (.dK _) => True
  | some (.dT _) => True
  | some (.set _ _) => True
  | some (.ins _ _ _) => True
  | some (.ext _) => True
  | _ => False
section
variable {P : Program} {w : World} {H : Hp} {h h' : Heap} {x e : Addr} {o' : HO}
theorem HOk.write (ok : HOk P w H h) (mu : Mut (H x)) (he : e = x ∨ H e = some (.own x)) (k : ∀ b u, b ≠ e → h.get? b = some u → h'.get? b = some u) (heo : ∃ u, h'.get? e = some u)
    (new : ObjOk P w (upd H x o') h' x o') : HOk P w (upd H x o') h' := fun b u q => by
  have nown : ∀ c y, H c = some (.own y) → c ≠ x := fun c y r z => by subst z; rw [r] at mu; exact mu
  have ntup : ∀ c xs, H c = some (.tup xs) → c ≠ x := fun c xs r z => by subst z; rw [r] at mu; exact mu
  by_cases hb : b = x
  · subst hb; rw [upd_same] at q; cases q; exact new
  · rw [upd_ne hb] at q
    by_cases hbe : b = e
    · have q' : H b = some (.own x) := by
        rcases he with z | z
        · exact absurd (hbe.trans z) hb
        · rw [hbe]; exact z
      rw [q] at q'; cases q'
      obtain ⟨v, hv⟩ := heo
      exact ⟨v, by rw [hbe]; exact hv⟩
    · refine (ok b u q).stay (fun c v hc r => k c v ?_ r) (fun c r => by rw [upd_ne (nown c b r)]; exact r) fun c xs r => by rw [upd_ne (ntup c xs r)]; exact r
      rcases hc with rfl | hc
      · exact hbe
      · rintro rfl
        rcases he with z | z
        · exact nown c b hc z
        · rw [hc] at z; cases z; exact hb rfl
end
structure Un (fs ex : List Addr) (H H' : Hp) (h h' : Heap) : Prop where
  keep : ∀ b o, h.get? b = some o → H b = none → b ∉ fs → b ∉ ex → h'.get? b = some o
  slot : ∀ b o, h.get? b = some o → H b = none → b ∈ fs → b ∉ ex → ∃ sl, h'.get? b = some { o with slots := sl }
  free : ∀ b o, h.get? b = some o → H b = none → b ∉ ex → H' b = none
  there : ∀ b o, h.get? b = some o → b ∉ ex → ∃ o', h'.get? b = some o'
  tups : ∀ b xs, H b = some (.tup xs) → H' b = some (.tup xs)
  frzs : ∀ b o u, H b = some (.frz o u) → H' b = some (.frz o u)
  tbls : ∀ b ps, H b = some (.tbl ps) → ∃ more, H' b = some (.tbl (ps ++ more))
section
variable {fs fs' ex ex' : List Addr} {H H1 H2 : Hp} {h h1 h2 h' : Heap} {a x e : Addr} {o : HO}
theorem Un.any (u : Un fs ex H H1 h h1) {b : Addr} {ob : Obj} (q : h.get? b = some ob) (n : H b = none) (hx : b ∉ ex) : ∃ sl, h1.get? b = some { ob with slots := sl } := by
  by_cases hb : b ∈ fs
  · exact u.slot b ob q n hb hx
  · exact ⟨ob.slots, u.keep b ob q n hb hx⟩
theorem Un.kept (k : ∀ b u, h.get? b = some u → h'.get? b = some u) : Un fs ex H H h h' :=
  ⟨fun b ob q _ _ _ => k b ob q, fun b ob q _ _ _ => ⟨ob.slots, k b ob q⟩, fun _ _ _ n _ => n, fun b ob q _ => ⟨ob, k b ob q⟩, fun _ _ q => q, fun _ _ _ q => q, fun _ ps q => ⟨#[], by rw [q]; simp⟩⟩
theorem Un.refl : Un fs ex H H h h := Un.kept fun _ _ q => q
theorem Un.laid (k : ∀ b u, h.get? b = some u → h'.get? b = some u) (hp : h.objs.size ≤ a) (hn : H a = none) : Un fs ex H (upd H a o) h h' where
  keep := fun b u q _ _ _ => k b u q
  slot := fun b u q _ _ _ => ⟨u.slots, k b u q⟩
  free := fun b u q n _ => by rw [upd_ne (Nat.ne_of_lt (Nat.lt_of_lt_of_le (Heap.lt_size q) hp))]; exact n
  there := fun b u q _ => ⟨u, k b u q⟩
  tups := fun b xs q => by rw [upd_ne (ne_of_none q hn)]; exact q
  frzs := fun b u xs q => by rw [upd_ne (ne_of_none q hn)]; exact q
  tbls := fun b ps q => ⟨#[], by rw [upd_ne (ne_of_none q hn), q]; simp⟩
theorem Un.write (mu : Mut (H x)) (he : e = x ∨ H e = some (.own x)) (k : ∀ b u, b ≠ e → h.get? b = some u → h'.get? b = some u) (heo : ∃ u, h'.get? e = some u) : Un fs ex H (upd H x o) h h' := by
  have hx : ∀ b, H b = none → b ≠ x := fun b n z => by subst z; rw [n] at mu; exact mu
  have hb : ∀ b, H b = none → b ≠ e := fun b n z => by
    subst z
    rcases he with r | r
    · exact hx b n r
    · rw [n] at r; cases r
  have hm : ∀ b u, H b = some u → ¬ Mut (some u) → b ≠ x := fun b u q nm z => by subst z; rw [q] at mu; exact nm mu
  refine ⟨fun b u q n _ _ => k b u (hb b n) q, fun b u q n _ _ => ⟨u.slots, k b u (hb b n) q⟩, fun b u q n _ => by rw [upd_ne (hx b n)]; exact n, fun b u q _ => ?_,
    fun b xs q => by rw [upd_ne (hm b _ q fun z => z)]; exact q, fun b u xs q => by rw [upd_ne (hm b _ q fun z => z)]; exact q, fun b ps q => ⟨#[], by rw [upd_ne (hm b _ q fun z => z), q]; simp⟩⟩
  by_cases hbe : b = e
  · subst hbe; exact heo
  · exact ⟨u, k b u hbe q⟩
end
def trk (h : Heap) (H : Hp) : List Addr := (List.range h.objs.size).filter fun a => (H a).isSome
def hidT (h : Heap) (H : Hp) : Heap := PySem.W.hideAll h (trk h H)
theorem hidT_size (h : Heap) (H : Hp) : (hidT h H).objs.size = h.objs.size := PySem.W.hideAll_size _ _
theorem hidT_get {h : Heap} {H : Hp} {b : Addr} {o : Obj} (e : h.get? b = some o) (n : H b = none) : (hidT h H).get? b = some o :=
  PySem.W.hideAll_get _ e fun hm => by
    have q : (H b).isSome = true := (List.mem_filter.mp hm).2
    rw [n] at q; simp at q
theorem of_hidT {h : Heap} {H : Hp} {b : Addr} {o : Obj} (e : (hidT h H).get? b = some o) : h.get? b = some o ∧ H b = none := by
  have e' : h.get? b = some o := PySem.W.of_hideAll (trk h H) e
  refine ⟨e', ?_⟩
  cases q : H b with
  | none => rfl
  | some x =>
    have hm : b ∈ trk h H := List.mem_filter.mpr ⟨List.mem_range.mpr (Heap.lt_size e'), by simp [q]⟩
    have z : (hidT h H).get? b = none := PySem.W.hideAll_none (trk h H) hm
    rw [z] at e; cases e
end L2
namespace L2
open PySem PySem.Spec PyProof.Rows
structure Mod (K : PySem.W.Frag) (mg : Str → Option Value) (base : Heap) : Prop where
  kin : K.In base
  glob : base.Ns mainGlobals mg
  blt : ∃ mb, base.Ns builtinsNs mb ∧ ∀ x : Str, x ≠ "__name__" → mb x = bootBuiltins x
  nolimit : base.NoLimit
structure Cx where
  prog : Program
  w : World
  K : PySem.W.Frag
  mg : Str → Option Value
  base : Heap
  A : Around
  N : List Str
  s₀ : Shared
  H₀ : Hp
  env : Env
  outer : List Env
  stack : List Env
  ex : List Addr
  fn : Str → Bool
  calm : Bool
  pn : List (Addr × Obj)
  xe : Value → Shared → Prop
def frs (l : List Env) : List Addr := l.filterMap (·.frame)
abbrev Cx.fs (X : Cx) : List Addr := frs X.outer
def Vis (sc : Scope) (x : Str) : Prop := sc.names.lookup x = some .local ∨ sc.names.lookup x = some .cell ∨ sc.names.lookup x = some .free
def Loc (sc : Scope) (x : Str) : Prop := sc.names.lookup x = some .local ∨ sc.names.lookup x = some .cell
def Look (env : Env) (h : Heap) (m : Str → Option Value) (x : Str) (u : Value) : Prop :=
  (env.kindOf x = some .local ∧ m x = some u) ∨ ((env.kindOf x = some .cell ∨ env.kindOf x = some .free) ∧ ∃ c, env.cells.lookup x = some c ∧ h.IsCell c (some u))
structure Cx.Ok (X : Cx) : Prop where
  mod : Mod X.K X.mg X.base
  kind : X.env.scope.kind = .function
  glob : X.env.globals = mainGlobals
  blt : X.env.builtins = builtinsNs
  above : X.s₀.heap.objs.size ≤ X.env.locals
  inj : ∀ x y c, X.env.cells.lookup x = some c → X.env.cells.lookup y = some c → x = y
  has : ∀ x, (X.env.kindOf x = some .cell ∨ X.env.kindOf x = some .free) → ∃ c, X.env.cells.lookup x = some c
  cab : ∀ x c, X.fn x = true → X.env.cells.lookup x = some c → X.s₀.heap.objs.size ≤ c
  hd : X.calm = true → X.A.handled = none
  frames : X.A.frames = some X.stack
  stk : X.stack = X.outer ∨ (X.stack = X.env :: X.outer ∧ X.env.frame = some X.env.locals)
  exf : ∀ b ∈ X.ex, b ≠ X.env.locals ∧ ∀ x c, X.env.cells.lookup x = some c → c ≠ b
  bs : ∀ b o, X.base.get? b = some o → X.s₀.heap.get? b = some o ∧ X.H₀ b = none
  bsz : X.base.objs.size ≤ X.s₀.heap.objs.size
  noex : ∀ b o, X.base.get? b = some o → b ∉ X.ex
  exfs : ∀ b ∈ X.ex, b ∉ X.fs
  funs : X.s₀.heap.FunFrames X.base X.outer
  frf : ∀ b ∈ X.fs, X.H₀ b = none
structure Inv (X : Cx) (pins : List (Addr × Obj)) (σ : List (Option V)) (H : Hp) (s : Shared) : Prop where
  ok : X.Ok
  os : s.os = X.s₀.os
  bare : AllBare s.gens
  base : Un X.fs X.ex X.H₀ H X.s₀.heap s.heap
  loc : ∃ m, s.heap.Ns X.env.locals m ∧ ∀ (i : Nat) (x : Str) (v : V), X.N[i]? = some x → σ[i]? = some (some v) → Vis X.env.scope x → ∃ u, RelV v u ∧ Look X.env s.heap m x u
  cell : ∀ x c, X.env.cells.lookup x = some c → ∃ v, s.heap.IsCell c v
  free : H X.env.locals = none
  freeC : ∀ x c, X.env.cells.lookup x = some c → H c = none
  pin : ∀ p ∈ X.pn ++ pins, s.heap.get? p.1 = some p.2 ∧ H p.1 = none ∧ p.1 ≠ X.env.locals ∧ p.1 ∉ X.fs ∧ ∀ v, p.2.data ≠ .cell v
  hok : HOk X.prog X.w H s.heap
  len : σ.length = X.N.length
section
variable {X : Cx} {pins : List (Addr × Obj)} {σ : List (Option V)} {H H' : Hp} {s : Shared} {h' : Heap}
theorem Cx.Ok.nofr (ok : X.Ok) {b : Addr} {o : Obj} (e : X.base.get? b = some o) : b ∉ X.fs := fun hb => by
  have := (ok.funs.mem hb).1
  rw [e] at this; cases this
theorem Inv.bs (I : Inv X pins σ H s) : ∀ b o, X.base.get? b = some o → s.heap.get? b = some o ∧ H b = none := fun b o e =>
  ⟨I.base.keep b o (I.ok.bs b o e).1 (I.ok.bs b o e).2 (I.ok.nofr e) (I.ok.noex b o e), I.base.free b o (I.ok.bs b o e).1 (I.ok.bs b o e).2 (I.ok.noex b o e)⟩
theorem Inv.bk (I : Inv X pins σ H s) : ∀ b o, X.base.get? b = some o → s.heap.get? b = some o := fun b o e => (I.bs b o e).1
theorem Inv.mod (I : Inv X pins σ H s) : Mod X.K X.mg X.base := I.ok.mod
theorem Inv.kIn (I : Inv X pins σ H s) : X.K.In s.heap := I.ok.mod.kin.keeps I.bk
theorem Inv.lt (I : Inv X pins σ H s) : X.env.locals < s.heap.objs.size := let ⟨_, hn, _⟩ := I.loc; hn.lt
theorem Inv.sz (I : Inv X pins σ H s) : X.s₀.heap.objs.size ≤ s.heap.objs.size := Nat.le_trans I.ok.above (Nat.le_of_lt I.lt)
theorem Inv.nofs (I : Inv X pins σ H s) {a : Addr} (h : s.heap.objs.size ≤ a) : a ∉ X.fs := fun hb => by
  obtain ⟨_, o, ho, _⟩ := I.ok.funs.mem hb
  exact absurd (Nat.lt_of_lt_of_le (Heap.lt_size ho) (Nat.le_trans I.sz h)) (Nat.lt_irrefl _)
theorem Inv.cne (I : Inv X pins σ H s) : ∀ x c, X.env.cells.lookup x = some c → c ≠ X.env.locals := fun x c e z => by
  obtain ⟨v, o, ho, hd⟩ := I.cell x c e
  obtain ⟨m, ⟨o', es, ep, ho', hd', _⟩, _⟩ := I.loc
  rw [z, ho'] at ho; cases ho; rw [hd'] at hd; cases hd
theorem Inv.funs (I : Inv X pins σ H s) : s.heap.FunFrames X.base X.outer := by
  have all : ∀ (l : List Env), (∀ b ∈ frs l, b ∈ X.fs) → X.s₀.heap.FunFrames X.base l → s.heap.FunFrames X.base l := by
    intro l
    induction l with
    | nil => intro _ _; trivial
    | cons env r ih =>
      intro hs hl
      obtain ⟨hk, ⟨L, o, hf, hn, ho, hd⟩, hr⟩ := hl
      have hL : L ∈ X.fs := hs L (by unfold frs; rw [List.filterMap_cons, hf]; exact List.mem_cons_self)
      obtain ⟨sl, e⟩ := I.base.slot L o ho (I.ok.frf L hL) hL fun z => I.ok.exfs L z hL
      exact ⟨hk, ⟨L, _, hf, hn, e, hd⟩, ih (fun b hb => hs b (by unfold frs; rw [List.filterMap_cons, hf]; exact List.mem_cons_of_mem _ hb)) hr⟩
  exact all X.outer (fun _ hb => hb) I.ok.funs
theorem Inv.stack (I : Inv X pins σ H s) : s.heap.FunFrames X.base X.stack := by
  rcases I.ok.stk with e | ⟨e, hf⟩
  · rw [e]; exact I.funs
  · rw [e]
    obtain ⟨m, hn, _⟩ := I.loc
    refine .cons (by rw [I.ok.kind]; decide) hf hn ?_ I.funs
    exact Heap.get?_none_of_le (Nat.le_trans I.ok.bsz I.ok.above)
theorem Inv.stkSub (I : Inv X pins σ H s) : ∀ b ∈ frs X.stack, b ∈ X.env.locals :: X.fs := fun b hb => by
  rcases I.ok.stk with e | ⟨e, hf⟩
  · rw [e] at hb; exact List.mem_cons_of_mem _ hb
  · rw [e] at hb
    unfold frs at hb
    rw [List.filterMap_cons, hf] at hb
    exact hb
theorem Inv.stkFree (I : Inv X pins σ H s) : ∀ b ∈ frs X.stack, H b = none := fun b hb => by
  rcases List.mem_cons.mp (I.stkSub b hb) with e | hb
  · rw [e]; exact I.free
  · obtain ⟨_, o, ho, _⟩ := I.ok.funs.mem hb
    exact I.base.free b o ho (I.ok.frf b hb) fun z => I.ok.exfs b z hb
theorem Inv.step {g' : Array GenState} {t' : Nat} {d' : Drawn} {ch : List Addr} (I : Inv X pins σ H s)
    (hch : ∀ b ∈ ch, (b ∈ X.ex ∨ X.s₀.heap.objs.size ≤ b) ∧ b ≠ X.env.locals ∧ (∀ x c, X.env.cells.lookup x = some c → c ≠ b) ∧ ∀ p ∈ X.pn ++ pins, p.1 ≠ b)
    (keep : ∀ b o, b ≠ X.env.locals → b ∉ X.fs → b ∉ ch → s.heap.get? b = some o → H b = none → h'.get? b = some o)
    (slot : ∀ b o, b ≠ X.env.locals → b ∈ X.fs → b ∉ ch → s.heap.get? b = some o → H b = none → ∃ sl, h'.get? b = some { o with slots := sl }) (free : ∀ b o, b ∉ ch → s.heap.get? b = some o → H b = none → H' b = none)
    (there : ∀ b o, b ∉ ch → s.heap.get? b = some o → ∃ o', h'.get? b = some o')
    (tups : ∀ b xs, H b = some (.tup xs) → H' b = some (.tup xs)) (frzs : ∀ b o u, H b = some (.frz o u) → H' b = some (.frz o u)) (tbls : ∀ b ps, H b = some (.tbl ps) → ∃ more, H' b = some (.tbl (ps ++ more)))
    (ns : ∀ m, s.heap.Ns X.env.locals m → h'.Ns X.env.locals m) (hok : HOk X.prog X.w H' h') (hg : AllBare g') :
    Inv X pins σ H' { s with heap := h', gens := g', drawn := d', toks := t' } := by
  have neL : ∀ b o, X.s₀.heap.get? b = some o → b ≠ X.env.locals := fun b o e => Nat.ne_of_lt (Nat.lt_of_lt_of_le (Heap.lt_size e) I.ok.above)
  have neC : ∀ b o, X.s₀.heap.get? b = some o → b ∉ X.ex → b ∉ ch := fun b o e hx hb => by
    rcases (hch b hb).1 with z | z
    · exact hx z
    · exact absurd (Nat.lt_of_lt_of_le (Heap.lt_size e) z) (Nat.lt_irrefl _)
  have cellK : ∀ x c, X.env.cells.lookup x = some c → ∀ v, s.heap.IsCell c v → h'.IsCell c v := fun x c e v ⟨o, ho, hd⟩ => by
    have nch : c ∉ ch := fun z => (hch c z).2.2.1 x c e rfl
    by_cases hc : c ∈ X.fs
    · obtain ⟨sl, q⟩ := slot c o (I.cne x c e) hc nch ho (I.freeC x c e)
      exact ⟨_, q, hd⟩
    · exact ⟨o, keep c o (I.cne x c e) hc nch ho (I.freeC x c e), hd⟩
  refine ⟨I.ok, I.os, hg, ⟨fun b o e n hb hx => ?_, fun b o e n hb hx => ?_, fun b o e n hx => ?_, fun b o e hx => ?_, fun b xs e => tups b xs (I.base.tups b xs e), fun b o xs e => frzs b o xs (I.base.frzs b o xs e), fun b ps e => ?_⟩, ?_, fun x c e => ?_, ?_, fun x c e => ?_, fun p hp => ?_, hok, I.len⟩
  · exact keep b o (neL b o e) hb (neC b o e hx) (I.base.keep b o e n hb hx) (I.base.free b o e n hx)
  · obtain ⟨sl, e1⟩ := I.base.slot b o e n hb hx
    obtain ⟨sl', e2⟩ := slot b _ (neL b o e) hb (neC b o e hx) e1 (I.base.free b o e n hx)
    exact ⟨sl', e2⟩
  · obtain ⟨o', e1⟩ := I.base.there b o e hx
    exact free b o' (neC b o e hx) e1 (I.base.free b o e n hx)
  · obtain ⟨o', e1⟩ := I.base.there b o e hx
    exact there b o' (neC b o e hx) e1
  · obtain ⟨m1, e1⟩ := I.base.tbls b ps e
    obtain ⟨m2, e2⟩ := tbls b _ e1
    exact ⟨m1 ++ m2, by rw [e2, Array.append_assoc]⟩
  · obtain ⟨m, hn, hl⟩ := I.loc
    refine ⟨m, ns m hn, fun i x v e1 e2 e3 => ?_⟩
    obtain ⟨u, r, l⟩ := hl i x v e1 e2 e3
    refine ⟨u, r, ?_⟩
    rcases l with l | ⟨k, c, e, z⟩
    · exact .inl l
    · exact .inr ⟨k, c, e, cellK x c e _ z⟩
  · obtain ⟨v, z⟩ := I.cell x c e
    exact ⟨v, cellK x c e v z⟩
  · obtain ⟨m, ⟨o, _, _, ho, _⟩, _⟩ := I.loc
    exact free _ o (fun z => (hch _ z).2.1 rfl) ho I.free
  · obtain ⟨v, o, ho, hd⟩ := I.cell x c e
    exact free c o (fun z => (hch c z).2.2.1 x c e rfl) ho (I.freeC x c e)
  · obtain ⟨e, n, ne, nf, d⟩ := I.pin p hp
    have nch : p.1 ∉ ch := fun z => (hch p.1 z).2.2.2 p hp rfl
    exact ⟨keep p.1 p.2 ne nf nch e n, free p.1 p.2 nch e n, ne, nf, d⟩
theorem Inv.un {t' : Nat} (I : Inv X pins σ H s) (u : Un X.fs [] H H' s.heap h') (hok : HOk X.prog X.w H' h') : Inv X pins σ H' { s with heap := h', toks := t' } := by
  obtain ⟨m, ⟨o, es, ep, ho, r⟩, _⟩ := id I.loc
  obtain ⟨sl, hL⟩ := u.any ho I.free (by simp)
  exact I.step (g' := s.gens) (d' := s.drawn) (ch := []) (fun _ z => nomatch z) (fun b o _ hb _ e n => u.keep b o e n hb (by simp)) (fun b o _ hb _ e n => u.slot b o e n hb (by simp)) (fun b o _ e n => u.free b o e n (by simp)) (fun b o _ e => u.there b o e (by simp)) u.tups u.frzs u.tbls (fun m' hm => by
    obtain ⟨o', es', ep', ho', r'⟩ := hm
    rw [ho] at ho'; cases ho'
    exact ⟨_, es', ep', hL, r'⟩) hok I.bare
theorem Inv.call {g' : Array GenState} {t' : Nat} {d' : Drawn} {ch : List Addr} (I : Inv X pins σ H s) (u : Un (frs X.stack) ch H H' s.heap h') (hok : HOk X.prog X.w H' h') (hg : AllBare g')
    (hch : ∀ b ∈ ch, (b ∈ X.ex ∨ X.s₀.heap.objs.size ≤ b) ∧ b ≠ X.env.locals ∧ (∀ x c, X.env.cells.lookup x = some c → c ≠ b) ∧ ∀ p ∈ X.pn ++ pins, p.1 ≠ b) :
    Inv X pins σ H' { s with heap := h', gens := g', drawn := d', toks := t' } := by
  obtain ⟨m, ⟨o, es, ep, ho, r⟩, _⟩ := id I.loc
  obtain ⟨sl, hL⟩ := u.any ho I.free fun z => (hch _ z).2.1 rfl
  exact I.step (ch := ch) hch (fun b o hL hb hc e n => u.keep b o e n (fun z => (List.mem_cons.mp (I.stkSub b z)).elim hL hb) hc) (fun b o _ _ hc e n => u.any e n hc) (fun b o hc e n => u.free b o e n hc) (fun b o hc e => u.there b o e hc) u.tups u.frzs u.tbls (fun m' hm => by
    obtain ⟨o', es', ep', ho', r'⟩ := hm
    rw [ho] at ho'; cases ho'
    exact ⟨_, es', ep', hL, r'⟩) hok hg
theorem Inv.turned {t' : Nat} {it : Addr} (I : Inv X pins σ H s) (k : ∀ b o, b ≠ it → s.heap.get? b = some o → h'.get? b = some o) (hn : H it = none) (hL : it ≠ X.env.locals)
    (h1 : it ∈ X.ex ∨ X.s₀.heap.objs.size ≤ it) (h2 : ∀ x c, X.env.cells.lookup x = some c → c ≠ it) (h3 : ∀ p ∈ X.pn ++ pins, p.1 ≠ it) : Inv X pins σ H { s with heap := h', toks := t' } := by
  have nit : ∀ b u, H b = some u → b ≠ it := fun b u e z => by rw [z, hn] at e; cases e
  refine I.step (g' := s.gens) (d' := s.drawn) (ch := [it]) (fun b hb => ?_) (fun b o _ _ hc e _ => k b o (fun z => hc (by simp [z])) e) (fun b o _ _ hc e _ => ⟨o.slots, k b o (fun z => hc (by simp [z])) e⟩) (fun _ _ _ _ n => n)
    (fun b o hc e => ⟨o, k b o (fun z => hc (by simp [z])) e⟩) (fun _ _ e => e) (fun _ _ _ e => e) (fun b ps e => ⟨#[], by rw [e]; simp⟩) (fun m hm => ?_) (fun b u e => ?_) I.bare
  · have e : b = it := by simpa using hb
    subst e
    exact ⟨h1, hL, h2, h3⟩
  · obtain ⟨o, es, ep, ho, r⟩ := hm
    exact ⟨o, es, ep, k _ o (Ne.symm hL) ho, r⟩
  · refine (I.hok b u e).stay (fun c v hc q => k c v ?_ q) (fun _ q => q) fun _ _ q => q
    rcases hc with z | z
    · rw [z]; exact nit b u e
    · exact nit c _ z
theorem Inv.tok (I : Inv X pins σ H s) (t : Nat) : Inv X pins σ H { s with toks := t } := I.un (h' := s.heap) (t' := t) Un.refl I.hok
theorem Inv.kept {t' : Nat} (I : Inv X pins σ H s) (k : ∀ b u, s.heap.get? b = some u → h'.get? b = some u) : Inv X pins σ H { s with heap := h', toks := t' } := I.un (Un.kept k) (I.hok.kept k)
theorem Inv.laid {a : Addr} {o : HO} {t' : Nat} (I : Inv X pins σ H s) (k : ∀ b u, s.heap.get? b = some u → h'.get? b = some u) (hp : s.heap.objs.size ≤ a) (new : ObjOk X.prog X.w (upd H a o) h' a o) :
    Inv X pins σ (upd H a o) { s with heap := h', toks := t' } := I.un (Un.laid k hp (I.hok.fresh hp)) (I.hok.laid k hp new)
theorem Inv.write {x e : Addr} {o : HO} {t' : Nat} (I : Inv X pins σ H s) (mu : Mut (H x)) (he : e = x ∨ H e = some (.own x)) (k : ∀ b u, b ≠ e → s.heap.get? b = some u → h'.get? b = some u) (heo : ∃ u, h'.get? e = some u)
    (new : ObjOk X.prog X.w (upd H x o) h' x o) : Inv X pins σ (upd H x o) { s with heap := h', toks := t' } := I.un (Un.write mu he k heo) (I.hok.write mu he k heo new)
theorem Inv.pins_of {pins' : List (Addr × Obj)} (I : Inv X pins σ H s) (h : ∀ p ∈ pins', s.heap.get? p.1 = some p.2 ∧ H p.1 = none ∧ p.1 ≠ X.env.locals ∧ p.1 ∉ X.fs ∧ ∀ v, p.2.data ≠ .cell v) : Inv X pins' σ H s :=
  ⟨I.ok, I.os, I.bare, I.base, I.loc, I.cell, I.free, I.freeC, fun p hp => (List.mem_append.mp hp).elim (fun z => I.pin p (List.mem_append_left _ z)) (h p), I.hok, I.len⟩
theorem nodup_ix {N : List Str} (hN : N.Nodup) {i j : Nat} {x : Str} (a : N[i]? = some x) (b : N[j]? = some x) : i = j := by
  obtain ⟨h1, e1⟩ := List.getElem?_eq_some_iff.mp a
  obtain ⟨h2, e2⟩ := List.getElem?_eq_some_iff.mp b
  exact (List.getElem_inj hN).mp (e1.trans e2.symm)
theorem store_ok2 {M : Model} {A : Around} {E : Value → Shared → Prop} {i : Nat} {x : Str} {v : V} {u : Value} {Q : Unit → Shared → Prop} (I : Inv X pins σ H s) (hN : X.N.Nodup) (hi : X.N[i]? = some x) (hx : Loc X.env.scope x) (r : RelV v u)
    (h : ∀ s', Inv X pins (σ.set i (some v)) H s' → (∃ a, Heap.SameBut a s.heap s'.heap ∧ (a = X.env.locals ∨ X.env.cells.lookup x = some a)) → Q () s') (hf : X.fn x = true ∨ X.env.scope.names.lookup x = some .local := by first | exact .inl rfl | exact .inr rfl | assumption) : wpAny M A (storeName X.env x u) Q E s := by
  obtain ⟨m, hn, hl⟩ := id I.loc
  have hcls : (X.env.scope.kind == .class || (X.env.scope.kind == .module && X.env.locals != X.env.globals)) = false := by rw [I.ok.kind]; rfl
  have hiσ : i < σ.length := by rw [I.len]; exact (List.getElem?_eq_some_iff.mp hi).1
  have cne := I.cne
  have tracked : ∀ {a : Addr} {h' : Heap}, (∃ o, s.heap.get? a = some o ∧ H a = none) → Heap.SameBut a s.heap h' → HOk X.prog X.w H h' := fun {a h'} ha hs b ob e => by
    obtain ⟨_, _, hfree⟩ := ha
    refine (I.hok b ob e).stay (fun c w' hc q => (hs.2 c ?_).trans q) (fun _ q => q) fun _ _ q => q
    rintro rfl
    rcases hc with rfl | hc
    · rw [hfree] at e; cases e
    · rw [hfree] at hc; cases hc
  rcases hx with hk | hk
  · refine wpAny_storeName_local hk hn (fun h' hn' hs => ?_) hcls
    obtain ⟨oL, _, _, hoL, _⟩ := id hn
    refine h _ ⟨I.ok, I.os, I.bare, ⟨fun b o e n hb hx => ?_, fun b o e n hb hx => ?_, I.base.free, fun b o e hx => ?_, I.base.tups, I.base.frzs, I.base.tbls⟩, ⟨_, hn', fun j y v' e1 e2 e3 => ?_⟩, fun y c e => ?_, I.free, I.freeC, fun p hp => ?_, tracked ⟨oL, hoL, I.free⟩ hs, by simpa using I.len⟩ ⟨_, hs, .inl rfl⟩
    · exact (hs.2 b (Nat.ne_of_lt (Nat.lt_of_lt_of_le (Heap.lt_size e) I.ok.above))).trans (I.base.keep b o e n hb hx)
    · obtain ⟨sl, e1⟩ := I.base.slot b o e n hb hx
      exact ⟨sl, (hs.2 b (Nat.ne_of_lt (Nat.lt_of_lt_of_le (Heap.lt_size e) I.ok.above))).trans e1⟩
    · obtain ⟨o', e1⟩ := I.base.there b o e hx
      exact ⟨o', (hs.2 b (Nat.ne_of_lt (Nat.lt_of_lt_of_le (Heap.lt_size e) I.ok.above))).trans e1⟩
    · by_cases hj : j = i
      · subst hj
        rw [hi] at e1; cases e1
        rw [List.getElem?_set_self hiσ] at e2
        cases e2
        exact ⟨u, r, .inl ⟨hk, by simp⟩⟩
      · rw [List.getElem?_set_ne (Ne.symm hj)] at e2
        obtain ⟨u', r', q⟩ := hl j y v' e1 e2 e3
        refine ⟨u', r', ?_⟩
        rcases q with ⟨k, e⟩ | ⟨k, c, e, z⟩
        · refine .inl ⟨k, ?_⟩
          have : y ≠ x := fun e => hj (nodup_ix hN e1 (e ▸ hi))
          simp [this, e]
        · exact .inr ⟨k, c, e, z.sameBut hs (cne y c e)⟩
    · obtain ⟨w', z⟩ := I.cell y c e
      exact ⟨w', z.sameBut hs (cne y c e)⟩
    · obtain ⟨e, n, ne, nf, d⟩ := I.pin p hp
      exact ⟨(hs.2 p.1 ne).trans e, n, ne, nf, d⟩
  · have hfn : X.fn x = true := by
      rcases hf with z | z
      · exact z
      · rw [z] at hk; cases hk
    obtain ⟨c, hc⟩ := I.ok.has x (.inl hk)
    obtain ⟨w', z⟩ := I.cell x c hc
    refine wpAny_storeName_cell I.ok.kind hk hc z (fun h' hc' hs => ?_)
    obtain ⟨oc, hoc, hocd⟩ := id z
    refine h { s with heap := h' } ⟨I.ok, I.os, I.bare, ⟨fun b o e n hb hx => ?_, fun b o e n hb hx => ?_, I.base.free, fun b o e hx => ?_, I.base.tups, I.base.frzs, I.base.tbls⟩, ⟨m, hn.sameBut hs (Ne.symm (cne x c hc)), fun j y v' e1 e2 e3 => ?_⟩, fun y c' e => ?_, I.free, I.freeC, fun p hp => ?_, tracked ⟨oc, hoc, I.freeC x c hc⟩ hs, by simpa using I.len⟩ ⟨c, hs, .inr hc⟩
    · exact (hs.2 b (Nat.ne_of_lt (Nat.lt_of_lt_of_le (Heap.lt_size e) (I.ok.cab x c hfn hc)))).trans (I.base.keep b o e n hb hx)
    · obtain ⟨sl, e1⟩ := I.base.slot b o e n hb hx
      exact ⟨sl, (hs.2 b (Nat.ne_of_lt (Nat.lt_of_lt_of_le (Heap.lt_size e) (I.ok.cab x c hfn hc)))).trans e1⟩
    · obtain ⟨o', e1⟩ := I.base.there b o e hx
      exact ⟨o', (hs.2 b (Nat.ne_of_lt (Nat.lt_of_lt_of_le (Heap.lt_size e) (I.ok.cab x c hfn hc)))).trans e1⟩
    · by_cases hj : j = i
      · subst hj
        rw [hi] at e1; cases e1
        rw [List.getElem?_set_self hiσ] at e2
        cases e2
        exact ⟨u, r, .inr ⟨.inl hk, c, hc, hc'⟩⟩
      · rw [List.getElem?_set_ne (Ne.symm hj)] at e2
        obtain ⟨u', r', q⟩ := hl j y v' e1 e2 e3
        refine ⟨u', r', ?_⟩
        rcases q with q | ⟨k, c', e, z'⟩
        · exact .inl q
        · refine .inr ⟨k, c', e, z'.sameBut hs ?_⟩
          rintro rfl
          exact hj (nodup_ix hN e1 (I.ok.inj _ _ _ e hc ▸ hi))
    · by_cases hcc : c' = c
      · subst hcc; exact ⟨_, hc'⟩
      · obtain ⟨w2, z2⟩ := I.cell y c' e
        exact ⟨w2, z2.sameBut hs hcc⟩
    · obtain ⟨e, n, ne, nf, d⟩ := I.pin p hp
      refine ⟨(hs.2 p.1 ?_).trans e, n, ne, nf, d⟩
      intro q
      rw [q, hoc] at e
      have q' : oc = p.2 := Option.some.inj e
      exact d w' (by rw [← q']; exact hocd)
theorem store_ok {M : Model} {A : Around} {E : Value → Shared → Prop} {i : Nat} {x : Str} {v : V} {u : Value} {Q : Unit → Shared → Prop} (I : Inv X pins σ H s) (hN : X.N.Nodup) (hi : X.N[i]? = some x) (hx : Loc X.env.scope x) (r : RelV v u)
    (h : ∀ s', Inv X pins (σ.set i (some v)) H s' → Q () s') (hf : X.fn x = true ∨ X.env.scope.names.lookup x = some .local := by first | exact .inl rfl | exact .inr rfl | assumption) : wpAny M A (storeName X.env x u) Q E s :=
  store_ok2 I hN hi hx r (fun s' I' _ => h s' I') hf
theorem Inv.call' {s' : Shared} {ch : List Addr} (I : Inv X pins σ H s) (ho : s'.os = s.os) (u : Un (frs X.stack) ch H H' s.heap s'.heap) (hok : HOk X.prog X.w H' s'.heap) (hg : AllBare s'.gens)
    (hch : ∀ b ∈ ch, (b ∈ X.ex ∨ X.s₀.heap.objs.size ≤ b) ∧ b ≠ X.env.locals ∧ (∀ x c, X.env.cells.lookup x = some c → c ≠ b) ∧ ∀ p ∈ X.pn ++ pins, p.1 ≠ b) : Inv X pins σ H' s' := by
  obtain ⟨h', g', d', t', o'⟩ := s'
  have e : o' = s.os := ho
  subst e
  exact I.call (g' := g') (t' := t') (d' := d') u hok hg hch
end
abbrev XK := Value → Option Addr → Hp → Prop
abbrev St := List (Option V)
abbrev VK := V → Hp → Prop
abbrev TE := St → Hp → VK → Prop
abbrev TT := St → Hp → (Bool → Hp → Prop) → Prop
abbrev TA := St → Hp → (List V → Hp → Prop) → Prop
structure Ends where
  nx : St → Hp → Prop
  rt : VK
  bk : St → Hp → Prop := fun _ _ => False
  ct : St → Hp → Prop := fun _ _ => False
abbrev TS := Ends → St → Hp → Prop
def EP (X : Cx) (pins : List (Addr × Obj)) (σ : St) (Q : VK) (u : Value) (s' : Shared) : Prop := ∃ v H', Inv X pins σ H' s' ∧ RelV v u ∧ Q v H'
def TP (X : Cx) (pins : List (Addr × Obj)) (σ : St) (Q : Bool → Hp → Prop) (b : Bool) (s' : Shared) : Prop := ∃ H', Inv X pins σ H' s' ∧ Q b H'
def AP (X : Cx) (pins : List (Addr × Obj)) (σ : St) (Q : List V → Hp → Prop) (us : List Value) (s' : Shared) : Prop := ∃ vs H', Inv X pins σ H' s' ∧ Vals vs us ∧ Q vs H'
def SP (X : Cx) (pins : List (Addr × Obj)) (D : Ends) (f : Flow) (s' : Shared) : Prop :=
  match f with
  | .next => ∃ σ' H', Inv X pins σ' H' s' ∧ D.nx σ' H'
  | .brk => ∃ σ' H', Inv X pins σ' H' s' ∧ D.bk σ' H'
  | .cont => ∃ σ' H', Inv X pins σ' H' s' ∧ D.ct σ' H'
  | .ret u => ∃ v σ' H', Inv X pins σ' H' s' ∧ RelV v u ∧ D.rt v H'
def PE (X : Cx) (e : Expr) (t : TE) : Prop :=
  ∀ (pins : List (Addr × Obj)) (s : Shared) (σ : St) (H : Hp) (Q : VK), Inv X pins σ H s → t σ H Q → wpAny (model X.prog X.w) X.A (eval e X.env) (EP X pins σ Q) X.xe s
def PT (X : Cx) (e : Expr) (t : TT) : Prop :=
  ∀ (pins : List (Addr × Obj)) (s : Shared) (σ : St) (H : Hp) (Q : Bool → Hp → Prop), Inv X pins σ H s → t σ H Q → wpAny (model X.prog X.w) X.A (isTrue e X.env (eval e X.env)) (TP X pins σ Q) X.xe s
def PW (X : Cx) (e : Expr) (t : TT) : Prop :=
  ∀ (whole : Sem Value) (pins : List (Addr × Obj)) (s : Shared) (σ : St) (H : Hp) (Q : Bool → Hp → Prop), Inv X pins σ H s → t σ H Q → wpAny (model X.prog X.w) X.A (isTrue e X.env whole) (TP X pins σ Q) X.xe s
theorem PW.pt {X : Cx} {e : Expr} {t : TT} (h : PW X e t) : PT X e t := h _
def PA (X : Cx) (es : List Expr) (t : TA) : Prop :=
  ∀ (pos : Pos) (pins : List (Addr × Obj)) (s : Shared) (σ : St) (H : Hp) (Q : List V → Hp → Prop), Inv X pins σ H s → t σ H Q → wpAny (model X.prog X.w) X.A (spliced (backTo pos (starEach es X.env))) (AP X pins σ Q) X.xe s
def PS (X : Cx) (st : Stmt) (t : TS) : Prop :=
  ∀ (pins : List (Addr × Obj)) (s : Shared) (σ : St) (H : Hp) (D : Ends), Inv X pins σ H s → t D σ H → wpAny (model X.prog X.w) X.A (exec st X.env) (SP X pins D) X.xe s
def PSs (X : Cx) (st : List Stmt) (t : TS) : Prop :=
  ∀ (pins : List (Addr × Obj)) (s : Shared) (σ : St) (H : Hp) (D : Ends), Inv X pins σ H s → t D σ H → wpAny (model X.prog X.w) X.A (execs st X.env) (SP X pins D) X.xe s
theorem thn {α : Type} {t : Sem α} {Q Q' : α → Shared → Prop} {M : Model} {A : Around} {E : Value → Shared → Prop} {s : Shared} (h : wpAny M A t Q E s) (hQ : ∀ a s, Q a s → Q' a s) : wpAny M A t Q' E s := wpAny_mono h hQ fun _ _ x => x
end L2
namespace L2
open PySem PySem.Spec PyProof.Rows
section
variable {X : Cx}
def tVar (i : Nat) : TE := fun σ H Q => ∃ v, σ[i]? = some (some v) ∧ Q v H
def tC (v : V) : TE := fun _ H Q => Q v H
theorem pe_var {i : Nat} {x : Str} {pos : Pos} (hN : X.N[i]? = some x) (hv : Vis X.env.scope x) (hd : (x == ("__debug__" : Str)) = false := by decide) (hcd : (x == ("__classdict__" : Str)) = false := by decide) : PE X (.Name x pos) (tVar i) := by
  intro pins s σ H Q I h
  obtain ⟨v, e, h⟩ := h
  obtain ⟨m, hn, hl⟩ := I.loc
  obtain ⟨u, r, l⟩ := hl i x v hN e hv
  have fin : EP X pins σ Q u s := ⟨v, H, I, r, h⟩
  rcases l with ⟨hk, hm⟩ | ⟨hk, c, hc, hcell⟩
  · exact wpAny_Name (wpAny_loadName_local I.ok.kind hk hn hm fin) hd
  · rcases hk with hk | hk
    · exact wpAny_Name (wpAny_loadName_cell I.ok.kind hk hc hcell fin) hd
    · exact wpAny_Name (wpAny_loadName_free I.ok.kind hk hc hcell fin hcd) hd
theorem pe_int {i j pos} : PE X (.Constant (.int i) j pos) (tC (.int i)) := fun _ _ _ H _ I h => wpAny_Constant_int ⟨.int i, H, I.tok _, ⟨_, rfl⟩, h⟩
theorem pe_bl {b j pos} : PE X (.Constant (.bool b) j pos) (tC (.bl b)) := fun _ _ _ H _ I h => Constant_bool ⟨.bl b, H, I, rfl, h⟩
theorem pe_non {j pos} : PE X (.Constant .none j pos) (tC .non) := fun _ _ _ H _ I h => Constant_none ⟨.non, H, I, rfl, h⟩
theorem pe_str {x j pos} : PE X (.Constant (.str x) j pos) (tC (.str x)) := fun _ _ _ H _ I h => Calls.Constant_str ⟨.str x, H, I.tok _, ⟨_, rfl⟩, h⟩
def Gl (X : Cx) (x : Str) : Prop := X.env.kindOf x = some .globalImplicit
theorem ld_glob {E : Value → Shared → Prop} {pins : List (Addr × Obj)} {s : Shared} {σ : St} {H : Hp} {x : Str} {u : Value} {pos : Pos} {Q : Value → Shared → Prop} (I : Inv X pins σ H s) (hg : Gl X x) (hm : X.mg x = some u) (h : Q u s)
    (hd : (x == ("__debug__" : Str)) = false := by decide) : wpAny (model X.prog X.w) X.A (eval (.Name x pos) X.env) Q E s :=
  Calls.Name_function_global I.ok.kind hg (Calls.loadGlobal_global (by rw [I.ok.glob]; exact I.mod.glob.keeps I.bk) hm h) hd
theorem ld_blt {E : Value → Shared → Prop} {pins : List (Addr × Obj)} {s : Shared} {σ : St} {H : Hp} {x : Str} {u : Value} {pos : Pos} {Q : Value → Shared → Prop} (I : Inv X pins σ H s) (hg : Gl X x) (hm : X.mg x = none) (hv : bootBuiltins x = some u) (h : Q u s)
    (hn : x ≠ "__name__" := by decide) (hd : (x == ("__debug__" : Str)) = false := by decide) : wpAny (model X.prog X.w) X.A (eval (.Name x pos) X.env) Q E s := by
  obtain ⟨mb, h1, h2⟩ := I.mod.blt
  exact Calls.Name_function_global I.ok.kind hg (Calls.loadGlobal_builtin (by rw [I.ok.glob]; exact I.mod.glob.keeps I.bk) hm (by rw [I.ok.blt]; exact h1.keeps I.bk) ((h2 x hn).trans hv) h) hd
theorem pe_glob {x : Str} {v : V} {u : Value} {pos : Pos} (hg : Gl X x) (hm : X.mg x = some u) (r : RelV v u) (hd : (x == ("__debug__" : Str)) = false := by decide) : PE X (.Name x pos) (tC v) :=
  fun _ _ _ H _ I h => ld_glob I hg hm ⟨v, H, I, r, h⟩ hd
theorem pe_bltn {x : Str} {v : V} {u : Value} {pos : Pos} (hg : Gl X x) (hm : X.mg x = none) (hv : bootBuiltins x = some u) (r : RelV v u) (hn : x ≠ "__name__" := by decide) (hd : (x == ("__debug__" : Str)) = false := by decide) : PE X (.Name x pos) (tC v) :=
  fun _ _ _ H _ I h => ld_blt I hg hm hv ⟨v, H, I, r, h⟩ hn hd
variable {a b : Expr} {ta tb : TE} {pos : Pos}
def tB (t : TE) : TT := fun σ H Q => t σ H fun x H1 => ∃ c, x = .bl c ∧ Q c H1
theorem pt_val {e : Expr} {t : TE} (h : PE X e t) (he : ∀ whole, isTrue e X.env whole = (do let v ← whole; standAt e.pos; holding [v] (truthy v)) := by intro _; rfl) : PT X e (tB t) := by
  intro pins s σ H Q I hw
  refine isTrue_plain (thn (h pins s σ H _ I hw) fun v s1 ⟨x, H1, I1, r1, q1⟩ => ?_) (he _)
  obtain ⟨d, rfl, q⟩ := q1
  cases r1
  exact wpAny_truthy_bool ⟨H1, I1, q⟩
variable {tA tB' : TT} {rest : List Expr}
def tAnd (t u : TT) : TT := fun σ H Q => t σ H fun c H1 => if c = true then u σ H1 Q else Q false H1
def tOr (t u : TT) : TT := fun σ H Q => t σ H fun c H1 => if c = true then Q true H1 else u σ H1 Q
def tNot (t : TT) : TT := fun σ H Q => t σ H fun c H1 => Q (!c) H1
theorem pw_and1 (ha : PT X a tA) : PW X (.BoolOp .And [a] pos) tA := by
  intro wh pins s σ H Q I h
  refine isTrue_and (thn (ha pins s σ H Q I h) fun c s1 e => ?_)
  cases c with
  | true => exact isTrue_and_nil e
  | false => exact e
theorem pw_or1 (ha : PT X a tA) : PW X (.BoolOp .Or [a] pos) tA := by
  intro wh pins s σ H Q I h
  refine isTrue_or (thn (ha pins s σ H Q I h) fun c s1 e => ?_)
  cases c with
  | false => exact isTrue_or_nil e
  | true => exact e
theorem pw_and (ha : PT X a tA) (hb : PW X (.BoolOp .And (b :: rest) pos) tB') : PW X (.BoolOp .And (a :: b :: rest) pos) (tAnd tA tB') := by
  intro wh pins s σ H Q I h
  refine isTrue_and (thn (ha pins s σ H _ I h) fun c s1 ⟨H1, I1, q1⟩ => ?_)
  cases c with
  | true => exact hb wh pins s1 σ H1 Q I1 q1
  | false => exact ⟨H1, I1, q1⟩
theorem pw_or (ha : PT X a tA) (hb : PW X (.BoolOp .Or (b :: rest) pos) tB') : PW X (.BoolOp .Or (a :: b :: rest) pos) (tOr tA tB') := by
  intro wh pins s σ H Q I h
  refine isTrue_or (thn (ha pins s σ H _ I h) fun c s1 ⟨H1, I1, q1⟩ => ?_)
  cases c with
  | true => exact ⟨H1, I1, q1⟩
  | false => exact hb wh pins s1 σ H1 Q I1 q1
theorem pt_not (ha : PT X a tA) : PT X (.UnaryOp .Not a pos) (tNot tA) := by
  intro pins s σ H Q I h
  exact isTrue_not (ha pins s σ H (fun c H1 => Q (!c) H1) I h)
def tAndV (ta tb : TE) : TE := fun σ H Q => ta σ H fun x H1 => ∃ c, x = .bl c ∧ if c = true then tb σ H1 Q else Q (.bl false) H1
theorem pe_one {op} {t : TE} (h : PE X a t) : PE X (.BoolOp op [a] pos) t := fun pins s σ H Q I hw => BoolOp_one (h pins s σ H Q I hw)
theorem pe_and (ha : PE X a ta) (hb : PE X (.BoolOp .And (b :: rest) pos) tb) : PE X (.BoolOp .And (a :: b :: rest) pos) (tAndV ta tb) := by
  intro pins s σ H Q I h
  refine BoolOp_and (thn (ha pins s σ H _ I h) fun v s1 ⟨x, H1, I1, r1, q1⟩ => ?_)
  obtain ⟨c, rfl, q1⟩ := q1
  cases r1
  refine wpAny_truthy_bool ?_
  cases c with
  | true => exact hb pins s1 σ H1 Q I1 q1
  | false => exact ⟨.bl false, H1, I1, rfl, q1⟩
end
end L2
namespace L2
open PySem PySem.Spec PyProof.Rows
def SqL (K : PySem.W.Frag) (H : Hp) (a : Addr) (xs : List V) : Prop :=
  Rd H a (.lst xs) ∨
    ∃ (o : Obj) (its : Array Value) (n : Nat), K.lookup a = some o ∧ o.cls = .type "list" ∧ o.dict = none ∧ o.data = .seq its n ∧ its.size ≤ sizeLine ∧ Vals xs its.toList
def SqT (K : PySem.W.Frag) (H : Hp) (a : Addr) (xs : List V) : Prop :=
  Rd H a (.tup xs) ∨
    ∃ (o : Obj) (its : Array Value) (n : Nat), K.lookup a = some o ∧ o.cls = .type "tuple" ∧ o.data = .seq its n ∧ its.size ≤ sizeLine ∧ Vals xs its.toList
def absV : Value → Option V
  | .none => some .non
  | .bool b => some (.bl b)
  | .int i _ => some (.int i)
  | .str x _ => some (.str x)
  | .bytes b _ => some (.byt b)
  | .float b _ => some (.flt b)
  | .ref a => some (.ref a)
  | .type n => some (.ty n)
  | _ => none
theorem RelV.abs {x : V} {u : Value} (r : RelV x u) : absV u = some x := by
  cases x with
  | non => cases r; rfl
  | bl _ => cases r; rfl
  | int _ => obtain ⟨t, rfl⟩ := r; rfl
  | str _ => obtain ⟨t, rfl⟩ := r; rfl
  | byt _ => obtain ⟨t, rfl⟩ := r; rfl
  | flt _ => obtain ⟨t, rfl⟩ := r; rfl
  | ref _ => cases r; rfl
  | ty _ => cases r; rfl
theorem RelV.inj {x y : V} {u : Value} (r : RelV x u) (q : RelV y u) : x = y := Option.some.inj (r.abs.symm.trans q.abs)
theorem Vals.inj : ∀ {xs ys : List V} {us : List Value}, Vals xs us → Vals ys us → xs = ys
  | _, _, _, .nil, .nil => rfl
  | _, _, _, .cons r t, .cons r' t' => by rw [r.inj r', Vals.inj t t']
section
variable {X : Cx} {pins : List (Addr × Obj)} {σ : St} {H : Hp} {s : Shared} {a : Addr} {xs ys : List V}
theorem SqL.of {K : PySem.W.Frag} (h : H a = some (.lst xs)) : SqL K H a xs := .inl (.inl h)
theorem SqT.of {K : PySem.W.Frag} (h : H a = some (.tup xs)) : SqT K H a xs := .inl (.inl h)
theorem Inv.list (I : Inv X pins σ H s) (h : SqL X.K H a xs) : ∃ its : List Value, Vals xs its ∧ PlainL s.heap a its.toArray ∧ xs.length ≤ sizeLine := by
  rcases h with h | ⟨o, its, n, hk, hc, hd, hs, hz, r⟩
  · obtain ⟨z, its, n, r, e⟩ := h.ok I.hok
    exact ⟨its, r, ⟨_, n, e, rfl, rfl, rfl⟩, z⟩
  · refine ⟨its.toList, r, ⟨o, n, I.kIn a o hk, hc, hd, by simpa using hs⟩, ?_⟩
    have e := r.length
    simp only [Array.length_toList] at e
    omega
theorem Inv.tuple (I : Inv X pins σ H s) (h : SqT X.K H a xs) : ∃ its : List Value, Vals xs its ∧ IsTup s.heap a its.toArray ∧ xs.length ≤ sizeLine := by
  rcases h with h | ⟨o, its, n, hk, hc, hs, hz, r⟩
  · obtain ⟨z, its, r, p⟩ := h.ok I.hok
    exact ⟨its, r, p, z⟩
  · refine ⟨its.toList, r, ⟨o, I.kIn a o hk, hc, n, by simpa using hs⟩, ?_⟩
    have e := r.length
    simp only [Array.length_toList] at e
    omega
theorem Inv.list_inj (I : Inv X pins σ H s) (h : SqL X.K H a xs) (h' : SqL X.K H a ys) : xs = ys := by
  obtain ⟨its, r, ⟨o, n, e, _, _, d⟩, _⟩ := I.list h
  obtain ⟨its', r', ⟨o', n', e', _, _, d'⟩, _⟩ := I.list h'
  rw [e] at e'; cases e'
  rw [d] at d'
  injection d' with d1 _
  have : its = its' := by simpa using congrArg Array.toList d1
  subst this
  exact r.inj r'
theorem Inv.tuple_inj (I : Inv X pins σ H s) (h : SqT X.K H a xs) (h' : SqT X.K H a ys) : xs = ys := by
  obtain ⟨its, r, ⟨o, e, _, n, d⟩, _⟩ := I.tuple h
  obtain ⟨its', r', ⟨o', e', _, n', d'⟩, _⟩ := I.tuple h'
  rw [e] at e'; cases e'
  rw [d] at d'
  injection d' with d1 _
  have : its = its' := by simpa using congrArg Array.toList d1
  subst this
  exact r.inj r'
end
abbrev Cx.wish (X : Cx) (E : Value → Shared → Prop) : Cx := { X with xe := E }
abbrev Cx.nox (X : Cx) : Cx := X.wish fun _ _ => False
theorem Cx.Ok.wish {X : Cx} (ok : X.Ok) (E : Value → Shared → Prop) : (X.wish E).Ok :=
  ⟨ok.mod, ok.kind, ok.glob, ok.blt, ok.above, ok.inj, ok.has, ok.cab, ok.hd, ok.frames, ok.stk, ok.exf, ok.bs, ok.bsz, ok.noex, ok.exfs, ok.funs, ok.frf⟩
theorem Cx.Ok.unwish {X : Cx} {E : Value → Shared → Prop} (ok : (X.wish E).Ok) : X.Ok :=
  ⟨ok.mod, ok.kind, ok.glob, ok.blt, ok.above, ok.inj, ok.has, ok.cab, ok.hd, ok.frames, ok.stk, ok.exf, ok.bs, ok.bsz, ok.noex, ok.exfs, ok.funs, ok.frf⟩
section
variable {X : Cx} {pins : List (Addr × Obj)} {σ : St} {H : Hp} {s : Shared} {E : Value → Shared → Prop}
theorem Inv.wish (I : Inv X pins σ H s) (E : Value → Shared → Prop) : Inv (X.wish E) pins σ H s := ⟨I.ok.wish E, I.os, I.bare, I.base, I.loc, I.cell, I.free, I.freeC, I.pin, I.hok, I.len⟩
theorem Inv.unwish (I : Inv (X.wish E) pins σ H s) : Inv X pins σ H s := ⟨I.ok.unwish, I.os, I.bare, I.base, I.loc, I.cell, I.free, I.freeC, I.pin, I.hok, I.len⟩
theorem SP.unwish {D : Ends} {f : Flow} {s' : Shared} (h : SP (X.wish E) pins D f s') : SP X pins D f s' := by
  cases f with
  | next => obtain ⟨σ', H', I, q⟩ := h; exact ⟨σ', H', I.unwish, q⟩
  | brk => obtain ⟨σ', H', I, q⟩ := h; exact ⟨σ', H', I.unwish, q⟩
  | cont => obtain ⟨σ', H', I, q⟩ := h; exact ⟨σ', H', I.unwish, q⟩
  | ret u => obtain ⟨v, σ', H', I, r, q⟩ := h; exact ⟨v, σ', H', I.unwish, r, q⟩
theorem PT.nox {e : Expr} {t : TT} (h : PT X.nox e t) : PT X e t := fun pins s σ H Q I hw =>
  wpAny_mono (h pins s σ H Q (I.wish _) hw) (fun _ _ ⟨H', I', q⟩ => ⟨H', I'.unwish, q⟩) fun _ _ z => False.elim z
theorem PSs.nox {st : List Stmt} {t : TS} (h : PSs X.nox st t) : PSs X st t := fun pins s σ H D I hw =>
  wpAny_mono (h pins s σ H D (I.wish _) hw) (fun _ _ q => q.unwish) fun _ _ z => False.elim z
end
section
variable {X : Cx} {st : Stmt} {rest : List Stmt} {t u : TS} {e : Expr} {te : TE} {pos : Pos}
def tNext : TS := fun D σ H => D.nx σ H
def tSeq (t u : TS) : TS := fun D σ H => t { D with nx := u D } σ H
theorem pss_nil : PSs X [] tNext := fun _ _ σ H _ I h => wpAny_execs_nil ⟨σ, H, I, h⟩
theorem pss_cons (h1 : PS X st t) (h2 : PSs X rest u) : PSs X (st :: rest) (tSeq t u) := by
  intro pins s σ H D I h
  refine wpAny_execs_cons (thn (h1 pins s σ H { D with nx := u D } I h) fun f s1 q => ?_)
  cases f with
  | next =>
    obtain ⟨σ', H', I', q⟩ := q
    exact h2 pins s1 σ' H' D I' q
  | ret v => exact q
  | brk => exact q
  | cont => exact q
theorem pss_one (h1 : PS X st t) : PSs X [st] t := by
  intro pins s σ H D I h
  refine wpAny_execs_cons (thn (h1 pins s σ H D I h) fun f s1 q => ?_)
  cases f with
  | next => exact wpAny_execs_nil q
  | ret v => exact q
  | brk => exact q
  | cont => exact q
theorem Inv.quiet {pins : List (Addr × Obj)} {σ : St} {H : Hp} {s : Shared} (I : Inv X pins σ H s) : interactive X.env = false := by simp [interactive, I.ok.kind]
def tDrop (te : TE) : TS := fun D σ H => te σ H fun _ H1 => D.nx σ H1
theorem ps_expr (he : PE X e te) (hs : swapsWith e none pos.line X.env = pure false := by rfl) : PS X (.Expr e pos) (tDrop te) := by
  intro pins s σ H D I h
  exact wpAny_Expr_any (thn (he pins s σ H _ I h) fun v s1 ⟨x, H1, I1, r1, q1⟩ => ⟨σ, H1, I1, q1⟩) I.quiet hs
def tRet (te : TE) : TS := fun D σ H => te σ H D.rt
theorem ps_ret (he : PE X e te) : PS X (.Return (some e) pos) (tRet te) := by
  intro pins s σ H D I h
  exact wpAny_Return_some (thn (he pins s σ H _ I h) fun v s1 ⟨x, H1, I1, r1, q1⟩ => ⟨x, σ, H1, I1, r1, q1⟩)
def tIfS (c : TT) (t u : TS) : TS := fun D σ H => c σ H fun b H1 => if b = true then t D σ H1 else u D σ H1
theorem ps_if {c : Expr} {a b : List Stmt} {tc : TT} (hc : PT X c tc) (ha : PSs X a t) (hb : PSs X b u) : PS X (.If c a b pos) (tIfS tc t u) := by
  intro pins s σ H D I h
  refine wpAny_If (thn (hc pins s σ H _ I h) fun d s1 ⟨H1, I1, q1⟩ => ?_)
  cases d with
  | true => exact ha pins s1 σ H1 D I1 q1
  | false => exact hb pins s1 σ H1 D I1 q1
end
abbrev TG := V → St → Hp → (St → Hp → Prop) → Prop
abbrev TGs := List V → St → Hp → (St → Hp → Prop) → Prop
def PG (X : Cx) (target : Expr) (t : TG) : Prop :=
  ∀ (pins : List (Addr × Obj)) (s : Shared) (σ : St) (H : Hp) (v : V) (u : Value) (Q : St → Hp → Prop), Inv X pins σ H s → RelV v u → t v σ H Q →
    wpAny (model X.prog X.w) X.A (assign target X.env u) (fun _ s' => ∃ σ' H', Inv X pins σ' H' s' ∧ Q σ' H') X.xe s
def PGs (X : Cx) (ts : List Expr) (t : TGs) : Prop :=
  ∀ (pins : List (Addr × Obj)) (s : Shared) (σ : St) (H : Hp) (vs : List V) (us : List Value) (Q : St → Hp → Prop), Inv X pins σ H s → Vals vs us → t vs σ H Q →
    wpAny (model X.prog X.w) X.A (assignInOrder ((assignEach ts X.env).map (·.2)) us) (fun _ s' => ∃ σ' H', Inv X pins σ' H' s' ∧ Q σ' H') X.xe s
abbrev TSet := V → V → V → Hp → (Hp → Prop) → Prop
def PSet (X : Cx) (t : TSet) : Prop :=
  ∀ (pins : List (Addr × Obj)) (s : Shared) (σ : St) (H : Hp) (o i v : V) (ov iv u : Value) (Q : Hp → Prop), Inv X pins σ H s → RelV o ov → RelV i iv → RelV v u → t o i v H Q →
    wpAny (model X.prog X.w) X.A (setItem ov iv u) (fun _ s' => ∃ H', Inv X pins σ H' s' ∧ Q H') X.xe s
section
variable {X : Cx} {pos : Pos}
def gName (i : Nat) : TG := fun v σ H Q => Q (σ.set i (some v)) H
theorem pg_name {i : Nat} {x : Str} (hN : X.N.Nodup) (hi : X.N[i]? = some x) (hx : Loc X.env.scope x) (hf : X.fn x = true ∨ X.env.scope.names.lookup x = some .local := by first | exact .inl rfl | exact .inr rfl | assumption) : PG X (.Name x pos) (gName i) := by
  intro pins s σ H v u Q I r h
  exact wpAny_assign_Name (store_ok I hN hi hx r (fun s' I' => ⟨_, H, I', h⟩) hf)
def gNil : TGs := fun vs σ H Q => vs = [] ∧ Q σ H
def gCons (t : TG) (u : TGs) : TGs := fun vs σ H Q => ∃ v r, vs = v :: r ∧ t v σ H fun σ' H' => u r σ' H' Q
theorem pgs_nil : PGs X [] gNil := by
  intro pins s σ H vs us Q I r h
  obtain ⟨e, h⟩ := h
  subst e
  cases r
  exact assignInOrder_nil ⟨σ, H, I, h⟩
theorem pgs_cons {e : Expr} {es : List Expr} {t : TG} {u : TGs} (h1 : PG X e t) (h2 : PGs X es u)
    (hs : (assignEach (e :: es) X.env).map (·.2) = assign e X.env :: (assignEach es X.env).map (·.2) := by rfl) : PGs X (e :: es) (gCons t u) := by
  intro pins s σ H vs us Q I r h
  obtain ⟨v, vr, e1, h⟩ := h
  subst e1
  cases r with
  | cons r rr =>
    rw [hs]
    refine assignInOrder_cons (thn (h1 pins s σ H _ _ _ I r h) fun _ s1 ⟨σ1, H1, I1, q1⟩ => ?_)
    exact h2 pins s1 σ1 H1 _ _ Q I1 rr q1
def gTup (K : PySem.W.Frag) (n : Nat) (t : TGs) : TG := fun v σ H Q => ∃ a xs, v = .ref a ∧ SqT K H a xs ∧ xs.length = n ∧ t xs σ H Q
theorem pg_tup {es : List Expr} {k : Nat} {t : TGs} {n : Nat} (hc : X.calm = true) (h : PGs X es t)
    (hn : (assignEach es X.env).length = n := by rfl) (hst : (assignEach es X.env).findIdx? (·.1) = none := by rfl) : PG X (.Tuple es k pos) (gTup X.K n t) := by
  intro pins s σ H v u Q I r hw
  obtain ⟨a, xs, e1, hq, hl, hw⟩ := hw
  subst e1
  cases r
  obtain ⟨its, rv, ht, hz⟩ := I.tuple hq
  refine assign_Tuple_tuple (I.ok.hd hc) ht (by simp [hn, ← hl, rv.length]) hst fun h' hx => ?_
  have I1 : Inv X pins σ H { s with heap := h' } := I.kept (t' := s.toks) fun b o e => hx b o (Nat.ne_of_lt (Heap.lt_size e)) e
  exact h pins _ σ H xs _ Q I1 (by simpa using rv) hw
def gSub (to ti : TE) (t : TSet) : TG := fun v σ H Q => to σ H fun o H1 => ti σ H1 fun i H2 => t o i v H2 fun H3 => Q σ H3
theorem pg_sub {o i : Expr} {to ti : TE} {t : TSet} (ho : PE X o to) (hi : PE X i ti) (hs : PSet X t)
    (ha : ∀ v, assign (.Subscript o i pos) X.env v = (do
      let ov ← holding [v] (eval o X.env)
      let iv ← holding [v, ov] (eval i X.env)
      standAt pos
      holding [v, ov, iv] (setItem ov iv v)
      release [v, ov, iv] []) := by intro _; rfl) : PG X (.Subscript o i pos) (gSub to ti t) := by
  intro pins s σ H v u Q I r h
  rw [ha]
  refine wpAny_bind (wpAny_holding (thn (ho pins s σ H _ I h) fun ov s1 ⟨x, H1, I1, r1, q1⟩ => ?_))
  refine wpAny_bind (wpAny_holding (thn (hi pins s1 σ H1 _ I1 q1) fun iv s2 ⟨y, H2, I2, r2, q2⟩ => ?_))
  refine wpAny_bind (wpAny_standAt (wpAny_bind (wpAny_holding (thn (hs pins s2 σ H2 x y v ov iv u _ I2 r1 r2 r q2) fun _ s3 ⟨H3, I3, q3⟩ => ?_))))
  exact wpAny_release ⟨σ, H3, I3, q3⟩
def tAsg (te : TE) (g : TG) : TS := fun D σ H => te σ H fun x H1 => g x σ H1 D.nx
theorem ps_asg {tg e : Expr} {te : TE} {g : TG} (he : PE X e te) (hg : PG X tg g) (hs : swapsWithSole [tg] e pos.line X.env = pure false := by rfl) (hw : swappedStores [tg] e X.env = pure none := by rfl)
    (h1 : (assignEach [tg] X.env).map (·.2) = [assign tg X.env] := by rfl) : PS X (.Assign [tg] e pos) (tAsg te g) := by
  intro pins s σ H D I h
  refine wpAny_Assign_stores (thn (he pins s σ H _ I h) fun v s1 ⟨x, H1, I1, r1, q1⟩ => ?_) hs hw
  rw [h1]
  exact thn (hg pins s1 σ H1 x v _ I1 r1 q1) fun _ s2 q => q
theorem ps_set {i : Nat} {x : Str} {e : Expr} {te : TE} {pos' : Pos} (hN : X.N.Nodup) (hi : X.N[i]? = some x) (hx : Loc X.env.scope x) (he : PE X e te) (hs : swapsWith e (some (.Name x pos')) pos.line X.env = pure false := by rfl) (hf : X.fn x = true ∨ X.env.scope.names.lookup x = some .local := by first | exact .inl rfl | exact .inr rfl | assumption) :
    PS X (.Assign [.Name x pos'] e pos) (tAsg te (gName i)) := by
  intro pins s σ H D I h
  refine wpAny_Assign_Name (thn (he pins s σ H _ I h) fun v s1 ⟨y, H1, I1, r1, q1⟩ => ?_) hs
  exact store_ok I1 hN hi hx r1 (fun s2 I2 => ⟨_, H1, I2, q1⟩) hf
end
section
variable {X : Cx} {pos : Pos}
end
structure It where
  go : Nat → Hp → Prop
  yld : Nat → Hp → V → Hp → Prop
  stop : Nat → Hp → Prop
def FpOk (X : Cx) (pins : List (Addr × Obj)) (H : Hp) (b : Addr) : Prop :=
  H b = none ∧ b ≠ X.env.locals ∧ b ∉ X.fs ∧ (b ∈ X.ex ∨ X.s₀.heap.objs.size ≤ b) ∧ (∀ x c, X.env.cells.lookup x = some c → c ≠ b) ∧ ∀ p ∈ X.pn ++ pins, p.1 ≠ b
theorem Inv.fpOk {X : Cx} {pins : List (Addr × Obj)} {σ : St} {H H' : Hp} {s : Shared} {b : Addr} (I : Inv X pins σ H s) (hb : s.heap.objs.size ≤ b) (hn : H' b = none) : FpOk X pins H' b := by
  refine ⟨hn, Nat.ne_of_gt (Nat.lt_of_lt_of_le I.lt hb), I.nofs hb, .inr (Nat.le_trans I.sz hb), fun x c e z => ?_, fun p hp z => ?_⟩
  · obtain ⟨v, q⟩ := I.cell x c e
    exact absurd (Nat.lt_of_lt_of_le q.lt (by rw [z]; exact hb)) (Nat.lt_irrefl _)
  · exact absurd (Nat.lt_of_lt_of_le (Heap.lt_size (I.pin p hp).1) (by rw [z]; exact hb)) (Nat.lt_irrefl _)
structure Turn (P : Program) (w : World) (K : PySem.W.Frag) (tg : Expr) (J : It) (fp : List Addr) (it : Addr) (tn : Nat → Heap → Prop) : Prop where
  mem : it ∈ fp
  obj : ∀ i h, tn i h → ∀ b ∈ fp, ∃ o, h.get? b = some o ∧ ∀ v, o.data ≠ .cell v
  keep : ∀ i h h', tn i h → (∀ b ∈ fp, ∀ o, h.get? b = some o → h'.get? b = some o) → tn i h'
  item : ∀ (X : Cx), X.prog = P → X.w = w → X.K = K → X.calm = true → ∀ (i : Nat) (pins : List (Addr × Obj)) (s : Shared) (σ : St) (H : Hp) (E : Value → Shared → Prop), Inv X pins σ H s → (∀ b ∈ fp, FpOk X pins H b) → tn i s.heap → J.go i H →
    wpAny (model P w) X.A (pyNext (.ref it)) (fun r s1 => ∃ u, r = some u ∧
      wpAny (model P w) X.A (letOwnedTupleGo tg (.ref it) u) (fun _ s2 => ∃ x H', Inv X pins σ H' s2 ∧ RelV x u ∧ J.yld i H x H' ∧ tn (i + 1) s2.heap ∧ ∀ b ∈ fp, H' b = none) E s1) E s
  done : ∀ (X : Cx), X.prog = P → X.w = w → X.K = K → X.calm = true → ∀ (i : Nat) (pins : List (Addr × Obj)) (s : Shared) (σ : St) (H : Hp) (E : Value → Shared → Prop), Inv X pins σ H s → (∀ b ∈ fp, FpOk X pins H b) → tn i s.heap → J.stop i H →
    wpAny (model P w) X.A (pyNext (.ref it)) (fun r s1 => r = none ∧ Inv X pins σ H s1) E s
  self : ∀ (A : Around) (i : Nat) (s : Shared) (Q : Value → Shared → Prop) (E : Value → Shared → Prop), tn i s.heap → Q (.ref it) s → wpAny (model P w) A (pyIter (.ref it)) Q E s
abbrev TI := St → Hp → (It → Hp → Prop) → Prop
def PIE (X : Cx) (pins : List (Addr × Obj)) (σ : St) (tg : Expr) (R : It → Hp → Prop) (itv : Value) (s2 : Shared) : Prop :=
  ∃ (it : Addr) (fp : List Addr) (tn : Nat → Heap → Prop) (J : It) (H' : Hp), itv = .ref it ∧ Inv X pins σ H' s2 ∧ Turn X.prog X.w X.K tg J fp it tn ∧ tn 0 s2.heap ∧ (∀ b ∈ fp, FpOk X pins H' b) ∧ R J H'
def PI (X : Cx) (tg iter : Expr) (wi : TI) : Prop :=
  ∀ (pins : List (Addr × Obj)) (s : Shared) (σ : St) (H : Hp) (R : It → Hp → Prop), Inv X pins σ H s → wi σ H R →
    wpAny (model X.prog X.w) X.A (eval iter X.env) (fun v s1 => wpAny (model X.prog X.w) X.A (pyIter v) (PIE X pins σ tg R) X.xe s1) X.xe s
theorem go_of {M : Model} {A : Around} {E : Value → Shared → Prop} {s : Shared} {tg : Expr} {it : Addr} {u : Value} {o : Obj} {n : String} {vs : Array Value} {Q : Unit → Shared → Prop} (ho : s.heap.get? it = some o) (hc : o.cls = .type n) (hd : o.data = .fields vs)
    (hn : ["enumerate", "zip", "dict_itemiterator", "dict_reverseitemiterator", "odict_iterator", "itertools.zip_longest", "itertools.pairwise"].contains n = false) (hQ : Q () s) : wpAny M A (letOwnedTupleGo tg (.ref it) u) Q E s := by
  unfold letOwnedTupleGo
  cases tg <;> first
    | exact wpAny_pure hQ
    | (cases u <;> first
        | exact wpAny_pure hQ
        | (refine wpAny_bind (wpAny_load ho ?_)
           rw [hc, hd]
           show wpAny M A (if (["enumerate", "zip", "dict_itemiterator", "dict_reverseitemiterator", "odict_iterator", "itertools.zip_longest", "itertools.pairwise"].contains n && vs[0]? == some (rawInt _)) = true then _ else _) Q E s
           rw [if_neg (by intro h; rw [hn, Bool.false_and] at h; cases h)]
           exact wpAny_pure hQ))
def Itl (K : PySem.W.Frag) (a : Addr) : It :=
  ⟨fun i H => ∃ xs x, SqL K H a xs ∧ xs[i]? = some x, fun i H x H' => H' = H ∧ ∀ xs, SqL K H a xs → xs[i]? = some x, fun i H => ∃ xs, SqL K H a xs ∧ xs.length ≤ i⟩
def Itt (K : PySem.W.Frag) (a : Addr) : It :=
  ⟨fun i H => ∃ xs x, SqT K H a xs ∧ xs[i]? = some x, fun i H x H' => H' = H ∧ ∀ xs, SqT K H a xs → xs[i]? = some x, fun i H => ∃ xs, SqT K H a xs ∧ xs.length ≤ i⟩
def Itr (lo : Int) (n : Nat) : It := ⟨fun i _ => i < n, fun i H x H' => H' = H ∧ x = .int (lo + i), fun i _ => n ≤ i⟩
theorem turn_list {P : Program} {w : World} {K : PySem.W.Frag} {tg : Expr} (a it : Addr) : Turn P w K tg (Itl K a) [it] it (fun i h => h.IsListIter it a i) where
  mem := by simp
  obj := fun i h st b hb => by
    have e : b = it := by simpa using hb
    subst e
    obtain ⟨o, e, c, d⟩ := st
    exact ⟨o, e, fun v z => by rw [d] at z; cases z⟩
  keep := fun i h h' st k => st.at fun o e => k it (by simp) o e
  item := by
    intro X hP hw hK hc i pins s σ H E I hf st hg
    subst hP hw hK
    obtain ⟨xs, x, hq, hx⟩ := hg
    obtain ⟨its, rv, p, hz⟩ := I.list hq
    obtain ⟨u, hu, ru⟩ := rv.get hx
    obtain ⟨f0, f1, f2, f3, f4, f5⟩ := hf it (by simp)
    refine wpAny_pyNext_list_item st p.isList (x := u) (by simpa using hu) fun h' st' sb => ?_
    have I1 : Inv X pins σ H { s with heap := h' } := I.turned (t' := s.toks) (fun b o hb e => (sb.2 b hb).trans e) f0 f1 f3 f4 f5
    obtain ⟨o, e, c, d⟩ := id st'
    exact ⟨u, rfl, go_of (s := { s with heap := h' }) e c d (by decide) ⟨x, H, I1, ru, ⟨rfl, fun ys hy => by rw [I.list_inj hy hq]; exact hx⟩, st', fun b hb => (hf b hb).1⟩⟩
  done := by
    intro X hP hw hK hc i pins s σ H E I hf st hg
    subst hP hw hK
    obtain ⟨xs, hq, hx⟩ := hg
    obtain ⟨its, rv, p, hz⟩ := I.list hq
    obtain ⟨f0, f1, f2, f3, f4, f5⟩ := hf it (by simp)
    have hl := rv.length
    exact wpAny_pyNext_list_end (I.ok.hd hc) st p.isList (by simp; omega) fun h' eb => ⟨rfl, I.turned (t' := s.toks) (fun b o hb e => eb b o hb e) f0 f1 f3 f4 f5⟩
  self := fun _ _ _ _ _ st h => wpAny_pyIter_listiter st h
theorem turn_tuple {P : Program} {w : World} {K : PySem.W.Frag} {tg : Expr} (a it : Addr) : Turn P w K tg (Itt K a) [it] it (fun i h => h.IsTupleIter it a i) where
  mem := by simp
  obj := fun i h st b hb => by
    have e : b = it := by simpa using hb
    subst e
    obtain ⟨o, e, c, d⟩ := st
    exact ⟨o, e, fun v z => by rw [d] at z; cases z⟩
  keep := fun i h h' st k => st.at fun o e => k it (by simp) o e
  item := by
    intro X hP hw hK hc i pins s σ H E I hf st hg
    subst hP hw hK
    obtain ⟨xs, x, hq, hx⟩ := hg
    obtain ⟨its, rv, p, hz⟩ := I.tuple hq
    obtain ⟨u, hu, ru⟩ := rv.get hx
    obtain ⟨f0, f1, f2, f3, f4, f5⟩ := hf it (by simp)
    refine wpAny_pyNext_tuple_item st (show s.heap.IsTuple a its.toArray from p) (x := u) (by simpa using hu) fun h' st' sb => ?_
    have I1 : Inv X pins σ H { s with heap := h' } := I.turned (t' := s.toks) (fun b o hb e => (sb.2 b hb).trans e) f0 f1 f3 f4 f5
    obtain ⟨o, e, c, d⟩ := id st'
    exact ⟨u, rfl, go_of (s := { s with heap := h' }) e c d (by decide) ⟨x, H, I1, ru, ⟨rfl, fun ys hy => by rw [I.tuple_inj hy hq]; exact hx⟩, st', fun b hb => (hf b hb).1⟩⟩
  done := by
    intro X hP hw hK hc i pins s σ H E I hf st hg
    subst hP hw hK
    obtain ⟨xs, hq, hx⟩ := hg
    obtain ⟨its, rv, p, hz⟩ := I.tuple hq
    obtain ⟨f0, f1, f2, f3, f4, f5⟩ := hf it (by simp)
    have hl := rv.length
    exact wpAny_pyNext_tuple_end (I.ok.hd hc) st (show s.heap.IsTuple a its.toArray from p) (by simp; omega) fun h' eb => ⟨rfl, I.turned (t' := s.toks) (fun b o hb e => eb b o hb e) f0 f1 f3 f4 f5⟩
  self := fun _ _ _ _ _ st h => wpAny_pyIter_tupleiter st h
theorem turn_range {P : Program} {w : World} {K : PySem.W.Frag} {tg : Expr} (it : Addr) (lo : Int) (n : Nat) : Turn P w K tg (Itr lo n) [it] it (fun i h => IsRangeIter h it (lo + (i : Nat) * 1) ((n : Int) - (i : Nat)) 1) where
  mem := by simp
  obj := fun i h st b hb => by
    have e : b = it := by simpa using hb
    subst e
    exact ⟨_, st, fun v z => by
      have z' : Data.fields _ = Data.cell v := z
      cases z'⟩
  keep := fun i h h' st k => k it (by simp) _ st
  item := by
    intro X hP hw hK hc i pins s σ H E I hf st hg
    subst hP hw hK
    obtain ⟨f0, f1, f2, f3, f4, f5⟩ := hf it (by simp)
    have W := Walks.range (prog := X.prog) (w := X.w) (I.ok.hd hc) it lo 1 n
    refine W.item i s _ _ hg st fun v h' tk hv st' kk => ?_
    obtain ⟨t, rfl⟩ := hv
    have I1 : Inv X pins σ H { s with heap := h', toks := tk } := I.turned (fun b o hb e => kk b o (by simpa using hb) e) f0 f1 f3 f4 f5
    refine ⟨_, rfl, go_of (s := { s with heap := h', toks := tk }) (n := "range_iterator") st' rfl rfl (by decide) ⟨.int (lo + i), H, I1, ⟨t, ?_⟩, ⟨rfl, rfl⟩, st', fun b hb => (hf b hb).1⟩⟩
    rw [Int.mul_one]
  done := by
    intro X hP hw hK hc i pins s σ H E I hf st hg
    subst hP hw hK
    obtain ⟨f0, f1, f2, f3, f4, f5⟩ := hf it (by simp)
    exact wpAny_pyNext_range_end (I.ok.hd hc) st (by have : n ≤ i := hg; omega) fun h' eb => ⟨rfl, I.turned (t' := s.toks) (fun b o hb e => eb b o hb e) f0 f1 f3 f4 f5⟩
  self := fun _ _ _ _ _ st h => wpAny_pyIter_rangeiter st h
end L2
namespace L2
open PySem PySem.Spec PyProof.Rows
section
variable {X : Cx} {tg : Expr}
theorem range_it {pins : List (Addr × Obj)} {σ : St} {H : Hp} {s : Shared} {R : It → Hp → Prop} {E : Value → Shared → Prop} {lo hi : Int} {t u v : Tok} {tk : Nat} (I : Inv X pins σ H s) (h1 : -(2 ^ 62) ≤ lo) (h2 : lo < 2 ^ 62) (h3 : -(2 ^ 62) ≤ hi) (h4 : hi < 2 ^ 62)
    (q : R (Itr lo (hi - lo).toNat) H) : wpAny (model X.prog X.w) X.A (pyIter (.ref s.heap.objs.size)) (PIE X pins σ tg R) E { s with heap := s.heap.push { cls := .type "range", data := .fields #[.int lo t, .int hi u, .int 1 v] }, toks := tk } := by
  refine wpAny_pyIter_range (IsRange.new ..) (small_one h1 h2 h3 h4) ?_
  have I1 : Inv X pins σ H { s with heap := s.heap.push { cls := .type "range", data := .fields #[.int lo t, .int hi u, .int 1 v] }, toks := tk } := I.kept fun b o e => Heap.get?_push_of_some _ e
  refine ⟨(s.heap.push { cls := .type "range", data := .fields #[.int lo t, .int hi u, .int 1 v] }).objs.size, [(s.heap.push { cls := .type "range", data := .fields #[.int lo t, .int hi u, .int 1 v] }).objs.size], _, _, H, rfl,
    I1.kept (t' := tk) fun b o e => Heap.get?_push_of_some _ e, turn_range _ lo (hi - lo).toNat, ?_, fun b hb => ?_, q⟩
  · have e1 : lo + ((0 : Nat) : Int) * 1 = lo := by simp
    have e2 : (((hi - lo).toNat : Nat) : Int) - ((0 : Nat) : Int) = Builtin.Range.rangeSize lo hi 1 := by rw [rangeSize_one]; split <;> omega
    show IsRangeIter _ _ (lo + ((0 : Nat) : Int) * 1) ((((hi - lo).toNat : Nat) : Int) - ((0 : Nat) : Int)) 1
    rw [e1, e2]
    exact Heap.get?_push_size _ rfl
  · have e : b = (s.heap.push { cls := .type "range", data := .fields #[.int lo t, .int hi u, .int 1 v] }).objs.size := by simpa using hb
    subst e
    exact I1.fpOk (Nat.le_refl _) (I1.hok.fresh (Nat.le_refl _))
def iRng1 (ta : TA) : TI := fun σ H R => ta σ H fun vs H1 => ∃ j : Int, vs = [.int j] ∧ -(2 ^ 62) ≤ j ∧ j < 2 ^ 62 ∧ R (Itr 0 j.toNat) H1
theorem pi_range1 {a : Expr} {ta : TA} {p pos : Pos} (hg : Gl X "range") (hm : X.mg "range" = none) (ha : PA X [a] ta) (hs : starEach [a] X.env = [(false, eval a X.env)] := by rfl) : PI X tg (.Call (.Name "range" p) [a] [] pos) (iRng1 ta) := by
  intro pins s σ H R I h
  refine Call_ (ld_blt I hg hm boot_range (PyProof.Rows.callWith_type1 (thn (ha pos pins s σ H _ I h) fun us s1 ⟨vs, H1, I1, r1, q1⟩ => ?_) hs rfl))
  obtain ⟨j, e, q1, q2, q⟩ := q1
  subst e
  cases r1 with
  | cons r rr =>
    cases rr
    obtain ⟨t, rfl⟩ := r
    exact call_range_1 (range_it I1 (by omega) (by omega) q1 q2 (by simpa using q))
def tFor (wi : TI) (g : TG) (tb : TS) : TS := fun D σ H => wi σ H fun J H1 => ∃ W : Nat → Nat → St → Hp → Prop, (∃ m, W 0 m σ H1) ∧ ∀ i m σ H, W i m σ H →
  (J.stop i H ∧ D.nx σ H) ∨ (J.go i H ∧ ∃ N : St → Hp → Prop, (∀ σ' H', N σ' H' → ∃ m', m' < m ∧ W (i + 1) m' σ' H') ∧ ∀ x H', J.yld i H x H' → g x σ H' fun σ2 H2 => tb { D with nx := N, ct := N, bk := D.nx } σ2 H2)
def pinsAt (fp : List Addr) (h : Heap) : List (Addr × Obj) := fp.filterMap fun b => (h.get? b).map fun o => (b, o)
theorem mem_pinsAt {fp : List Addr} {h : Heap} {b : Addr} {o : Obj} (hb : b ∈ fp) (e : h.get? b = some o) : (b, o) ∈ pinsAt fp h := List.mem_filterMap.mpr ⟨b, hb, by rw [e]; rfl⟩
theorem of_pinsAt {fp : List Addr} {h : Heap} {p : Addr × Obj} (hp : p ∈ pinsAt fp h) : p.1 ∈ fp ∧ h.get? p.1 = some p.2 := by
  obtain ⟨b, hb, e⟩ := List.mem_filterMap.mp hp
  cases q : h.get? b with
  | none => rw [q] at e; cases e
  | some o =>
    rw [q] at e
    have e' : (b, o) = p := Option.some.inj e
    subst e'
    exact ⟨hb, q⟩
theorem Inv.pinned {pins : List (Addr × Obj)} {σ : St} {H : Hp} {s : Shared} {fp : List Addr} (I : Inv X pins σ H s) (hf : ∀ b ∈ fp, FpOk X pins H b) (ho : ∀ b ∈ fp, ∃ o, s.heap.get? b = some o ∧ ∀ v, o.data ≠ .cell v) : Inv X (pins ++ pinsAt fp s.heap) σ H s :=
  I.pins_of fun p hp => (List.mem_append.mp hp).elim (fun z => I.pin p (List.mem_append_right _ z)) fun z => by
    obtain ⟨hb, e⟩ := of_pinsAt z
    obtain ⟨f0, f1, f2, _⟩ := hf p.1 hb
    obtain ⟨o, e', d⟩ := ho p.1 hb
    rw [e] at e'; cases e'
    exact ⟨e, f0, f1, f2, d⟩
theorem Inv.unpinned {pins pl : List (Addr × Obj)} {σ : St} {H : Hp} {s : Shared} (I : Inv X (pins ++ pl) σ H s) : Inv X pins σ H s := I.pins_of fun p hp => I.pin p (List.mem_append_right _ (List.mem_append_left _ hp))
theorem ps_for {iter : Expr} {body : List Stmt} {wi : TI} {g : TG} {tb : TS} {pos : Pos} (hp : PassesOwn (model X.prog X.w) X.A X.env X.xe) (hc : X.calm = true) (hi : PI X tg iter wi) (hg : PG X tg g) (hb : PSs X body tb)
    (hs : ∀ x, foldedSetIterable iter X.env x = pure x := by intro _; rfl) : PS X (.For tg iter body [] pos) (tFor wi g tb) := by
  intro pins s σ H D I h
  refine wpAny_For (thn (hi pins s σ H _ I h) fun v s1 h1 => thn h1 fun itv s2 h2 => ?_) hs
  obtain ⟨it, fp, tn, J, H2, e, I2, T, st2, f2, W, ⟨m0, w0⟩, turn⟩ := h2
  subst e
  -- what stays true of the iterator's objects through the loop
  have stat : ∀ {H' : Hp}, (∀ b ∈ fp, H' b = none) → ∀ b ∈ fp, FpOk X pins H' b := fun hn b hb => ⟨hn b hb, (f2 b hb).2⟩
  refine codeAny_forLoop_any (fun n s' => ∃ i σ' H', Inv X pins σ' H' s' ∧ tn i s'.heap ∧ (∀ b ∈ fp, H' b = none) ∧ W i n σ' H') ?_ m0 ⟨0, σ, H2, I2, st2, fun b hb => (f2 b hb).1, w0⟩
  rintro n s3 ⟨i, σ3, H3, I3, st3, fr3, w3⟩
  rcases turn i n σ3 H3 w3 with ⟨stop, qn⟩ | ⟨go, N, hN, step⟩
  · refine wpAny_passesOwn hp (thn (T.done X rfl rfl rfl hc i pins s3 σ3 H3 X.xe I3 (stat fr3) st3 stop) fun r s4 ⟨hr, I4⟩ => ?_)
    subst hr
    exact wpAny_execs_nil ⟨σ3, H3, I4, qn⟩
  · refine wpAny_passesOwn hp (thn (T.item X rfl rfl rfl hc i pins s3 σ3 H3 X.xe I3 (stat fr3) st3 go) fun r s4 ⟨u, hr, h4⟩ => ?_)
    subst hr
    refine wpAny_passesOwn hp (thn h4 fun _ s5 ⟨x, H5, I5, r5, y5, st5, fr5⟩ => ?_)
    have I5' := I5.pinned (stat fr5) (T.obj _ _ st5)
    refine wpAny_passesOwn hp (thn (hg _ s5 σ3 H5 x u _ I5' r5 (step x H5 y5)) fun _ s6 ⟨σ6, H6, I6, q6⟩ => ?_)
    refine wpAny_passesOwn hp (thn (hb _ s6 σ6 H6 _ I6 q6) fun f s7 q7 => ?_)
    have again : ∀ {σ7 : St} {H7 : Hp}, Inv X (pins ++ pinsAt fp s5.heap) σ7 H7 s7 → N σ7 H7 → ∃ m, m < n ∧ ∃ i σ' H', Inv X pins σ' H' s7 ∧ tn i s7.heap ∧ (∀ b ∈ fp, H' b = none) ∧ W i m σ' H' := fun {σ7 H7} I7 n7 => by
      obtain ⟨m', hm, w7⟩ := hN σ7 H7 n7
      refine ⟨m', hm, i + 1, σ7, H7, I7.unpinned, T.keep _ _ _ st5 fun b hb o e => (I7.pin (b, o) (List.mem_append_right _ (List.mem_append_right _ (mem_pinsAt hb e)))).1, fun b hb => ?_, w7⟩
      obtain ⟨o, e, d⟩ := T.obj _ _ st5 b hb
      exact (I7.pin (b, o) (List.mem_append_right _ (List.mem_append_right _ (mem_pinsAt hb e)))).2.1
    cases f with
    | next => obtain ⟨σ7, H7, I7, n7⟩ := q7; exact again I7 n7
    | cont => obtain ⟨σ7, H7, I7, n7⟩ := q7; exact again I7 n7
    | brk => obtain ⟨σ7, H7, I7, q7⟩ := q7; exact ⟨σ7, H7, I7.unpinned, q7⟩
    | ret v => obtain ⟨x7, σ7, H7, I7, r7, q7⟩ := q7; exact ⟨x7, σ7, H7, I7.unpinned, r7, q7⟩
end
end L2
namespace L2
open PySem PySem.Spec PyProof.Rows
abbrev R2 := V → V → Hp → VK → Prop
def OpR (X : Cx) (f : Value → Value → Sem Value) (r : R2) : Prop :=
  ∀ (pins : List (Addr × Obj)) (s : Shared) (σ : St) (H : Hp) (x y : V) (v u : Value) (Q : VK), Inv X pins σ H s → RelV x v → RelV y u → r x y H Q →
    wpAny (model X.prog X.w) X.A (f v u) (EP X pins σ Q) X.xe s
def CallR (X : Cx) (f : Value) (r : List V → Hp → VK → Prop) : Prop :=
  ∀ (pins : List (Addr × Obj)) (s : Shared) (σ : St) (H : Hp) (xs : List V) (us : List Value) (Q : VK), Inv X pins σ H s → Vals xs us → r xs H Q →
    wpAny (model X.prog X.w) X.A (call f us) (EP X pins σ Q) X.xe s
def tOp (r : R2) (ta tb : TE) : TE := fun σ H Q => ta σ H fun x H1 => tb σ H1 fun y H2 => r x y H2 Q
def rI (C : Int → Int → Prop) (g : Int → Int → V) : R2 := fun x y H Q => ∃ i j, x = .int i ∧ y = .int j ∧ C i j ∧ Q (g i j) H
def rI0 (g : Int → Int → V) : R2 := fun x y H Q => ∃ i j, x = .int i ∧ y = .int j ∧ Q (g i j) H
section
variable {X : Cx} {a b c : Expr} {ta tb tc : TE} {pos : Pos}
theorem binT (ha : PE X a ta) (hb : PE X b tb) {pins : List (Addr × Obj)} {s : Shared} {σ : St} {H : Hp} {R : V → V → Hp → Prop} (I : Inv X pins σ H s)
    (h : ta σ H fun x H1 => tb σ H1 fun y H2 => R x y H2) {Q : Value → Shared → Prop} {f : Value → Value → Sem Value}
    (hf : ∀ v u s2 x y H2, Inv X pins σ H2 s2 → RelV x v → RelV y u → R x y H2 → wpAny (model X.prog X.w) X.A (f v u) Q X.xe s2) :
    wpAny (model X.prog X.w) X.A (eval a X.env) (fun v s₁ => wpAny (model X.prog X.w) X.A (eval b X.env) (fun u s₂ => wpAny (model X.prog X.w) X.A (f v u) Q X.xe s₂) X.xe s₁) X.xe s := by
  refine thn (ha pins s σ H _ I h) fun v s1 ⟨x, H1, I1, r1, q1⟩ => ?_
  refine thn (hb pins s1 σ H1 _ I1 q1) fun u s2 ⟨y, H2, I2, r2, q2⟩ => ?_
  exact hf v u s2 x y H2 I2 r1 r2 q2
theorem pe_op {op : Operator} {r : R2} (ho : OpR X (binaryOp op) r) (ha : PE X a ta) (hb : PE X b tb) : PE X (.BinOp a op b pos) (tOp r ta tb) := by
  intro pins s σ H Q I h
  exact wpAny_BinOp (binT ha hb I h fun v u s2 x y H2 I2 rx ry q => ho pins s2 σ H2 x y v u Q I2 rx ry q)
theorem opI {f : Value → Value → Sem Value} {C : Int → Int → Prop} {g : Int → Int → Int}
    (rule : ∀ (i j : Int) (t u : Tok) (s : Shared) (Q : Value → Shared → Prop) (E : Value → Shared → Prop), C i j → Q (.int (g i j) s.toks) { s with toks := s.toks + 1 } → wpAny (model X.prog X.w) X.A (f (.int i t) (.int j u)) Q E s) :
    OpR X f (rI C fun i j => .int (g i j)) := by
  intro pins s σ H x y v u Q I rx ry h
  obtain ⟨i, j, rfl, rfl, hc, q⟩ := h
  obtain ⟨t, rfl⟩ := rx
  obtain ⟨t', rfl⟩ := ry
  exact rule i j t t' s _ _ hc ⟨.int (g i j), H, I.tok _, ⟨_, rfl⟩, q⟩
theorem opI0 {f : Value → Value → Sem Value} {g : Int → Int → Int}
    (rule : ∀ (i j : Int) (t u : Tok) (s : Shared) (Q : Value → Shared → Prop) (E : Value → Shared → Prop), Q (.int (g i j) s.toks) { s with toks := s.toks + 1 } → wpAny (model X.prog X.w) X.A (f (.int i t) (.int j u)) Q E s) :
    OpR X f (rI0 fun i j => .int (g i j)) := by
  intro pins s σ H x y v u Q I rx ry h
  obtain ⟨i, j, rfl, rfl, q⟩ := h
  obtain ⟨t, rfl⟩ := rx
  obtain ⟨t', rfl⟩ := ry
  exact rule i j t t' s _ _ ⟨.int (g i j), H, I.tok _, ⟨_, rfl⟩, q⟩
theorem opB0 {f : Value → Value → Sem Value} {g : Int → Int → Bool}
    (rule : ∀ (i j : Int) (t u : Tok) (s : Shared) (Q : Value → Shared → Prop) (E : Value → Shared → Prop), Q (.bool (g i j)) s → wpAny (model X.prog X.w) X.A (f (.int i t) (.int j u)) Q E s) :
    OpR X f (rI0 fun i j => .bl (g i j)) := by
  intro pins s σ H x y v u Q I rx ry h
  obtain ⟨i, j, rfl, rfl, q⟩ := h
  obtain ⟨t, rfl⟩ := rx
  obtain ⟨t', rfl⟩ := ry
  exact rule i j t t' s _ _ ⟨.bl (g i j), H, I, rfl, q⟩
def CDiv (i j : Int) : Prop := 0 < j ∧ j < 1073741824
def CMul (i j : Int) : Prop := (-(2 ^ 64) < i ∧ i < 2 ^ 64) ∨ (-(2 ^ 64) < j ∧ j < 2 ^ 64)
theorem CMul.ok {i j : Int} (h : CMul i j) : IntMulOk i j := by
  rcases h with ⟨h1, h2⟩ | ⟨h1, h2⟩
  · exact .of_left (intBits_le_64 h1 h2)
  · exact .of_right (intBits_le_64 h1 h2)
theorem op_add : OpR X (binaryOp .Add) (rI0 fun i j => .int (i + j)) := opI0 fun _ _ _ _ _ _ _ q => add_int q
theorem op_sub : OpR X (binaryOp .Sub) (rI0 fun i j => .int (i - j)) := opI0 fun _ _ _ _ _ _ _ q => sub_int q
theorem op_mul : OpR X (binaryOp .Mult) (rI CMul fun i j => .int (i * j)) := opI fun _ _ _ _ _ _ _ hc q => mul_int q hc.ok
theorem op_fdiv : OpR X (binaryOp .FloorDiv) (rI CDiv fun i j => .int (i / j)) := opI fun i j _ _ _ _ _ hc q => by
  have h1 : (0 : Int) < j := hc.1
  have h2 : j < 1073741824 := hc.2
  exact floordiv_int (by omega) (by rw [Int.fdiv_eq_ediv_of_nonneg i (by omega)]; exact q) (.inl (PyProof.noPylong_small (by omega)))
theorem op_mod : OpR X (binaryOp .Mod) (rI (fun _ j => 0 < j) fun i j => .int (i % j)) := opI fun i j _ _ _ _ _ hc q => by
  have h1 : (0 : Int) < j := hc
  exact mod_int' (by omega) (by rw [Int.fmod_eq_emod_of_nonneg i (by omega)]; exact q)
end
def scal : V → V → Bool
  | .non, .non => true | .non, .int _ => true | .int _, .non => true | .non, .bl _ => true | .bl _, .non => true | .non, .str _ => true | .str _, .non => true
  | .int _, .int _ => true | .bl _, .bl _ => true | .str _, .str _ => true | .byt _, .byt _ => true
  | .int _, .str _ => true | .str _, .int _ => true | .bl _, .str _ => true | .str _, .bl _ => true
  | _, _ => false
def rEq : R2 := fun x y H Q => scal x y = true ∧ Q (.bl (decide (x = y))) H
def rNe : R2 := fun x y H Q => scal x y = true ∧ Q (.bl (!decide (x = y))) H
theorem dec_int {i j : Int} : decide (V.int i = V.int j) = (i == j) := by
  rw [Bool.eq_iff_iff]
  simp
theorem dec_bl {i j : Bool} : decide (V.bl i = V.bl j) = (i == j) := by
  rw [Bool.eq_iff_iff]
  simp
theorem dec_str {i j : Str} : decide (V.str i = V.str j) = (i == j) := by
  rw [Bool.eq_iff_iff]
  simp
theorem dec_byt {i j : Array UInt8} : decide (V.byt i = V.byt j) = (i.toList == j.toList) := by
  rw [Bool.eq_iff_iff]
  cases i
  cases j
  simp
section
variable {X : Cx} {a b c : Expr} {ta tb tc : TE} {pos : Pos}
theorem fin_bl {pins : List (Addr × Obj)} {σ : St} {H : Hp} {s : Shared} {Q : VK} {k k' : Bool} (I : Inv X pins σ H s) (q : Q (.bl k) H) (e : k = k') : EP X pins σ Q (.bool k') s := by
  subst e
  exact ⟨.bl k, H, I, rfl, q⟩
theorem op_eq : OpR X (compareOp .Eq) rEq := by
  intro pins s σ H x y v u Q I rx ry h
  obtain ⟨hs, q⟩ := h
  cases x with
  | non =>
    cases rx
    cases y with
    | non => cases ry; exact PySem.EqNone.eq_none_none (fin_bl I q (by simp))
    | bl j => cases ry; exact PySem.EqNone.eq_none_bool (fin_bl I q (by simp))
    | int j => obtain ⟨t', rfl⟩ := ry; exact PySem.EqNone.eq_none_int (fin_bl I q (by simp))
    | str j => obtain ⟨t', rfl⟩ := ry; exact PySem.EqNone.eq_none_str (fin_bl I q (by simp))
    | _ => exact absurd (show false = true from hs) Bool.false_ne_true
  | bl i =>
    cases rx
    cases y with
    | non => cases ry; exact PySem.EqNone.eq_bool_none (fin_bl I q (by simp))
    | bl j => cases ry; exact eq_bool (fin_bl I q dec_bl)
    | str j => obtain ⟨t', rfl⟩ := ry; exact PySem.EqMixed.eq_bool_str (fin_bl I q (by simp))
    | _ => exact absurd (show false = true from hs) Bool.false_ne_true
  | int i =>
    obtain ⟨t, rfl⟩ := rx
    cases y with
    | non => cases ry; exact PySem.EqNone.eq_int_none (fin_bl I q (by simp))
    | int j => obtain ⟨t', rfl⟩ := ry; exact eq_int (fin_bl I q dec_int)
    | str j => obtain ⟨t', rfl⟩ := ry; exact PySem.EqMixed.eq_int_str (fin_bl I q (by simp))
    | _ => exact absurd (show false = true from hs) Bool.false_ne_true
  | str i =>
    obtain ⟨t, rfl⟩ := rx
    cases y with
    | non => cases ry; exact PySem.EqNone.eq_str_none (fin_bl I q (by simp))
    | bl j => cases ry; exact PySem.EqMixed.eq_str_bool (fin_bl I q (by simp))
    | int j => obtain ⟨t', rfl⟩ := ry; exact PySem.EqMixed.eq_str_int (fin_bl I q (by simp))
    | str j => obtain ⟨t', rfl⟩ := ry; exact eq_str (fin_bl I q dec_str)
    | _ => exact absurd (show false = true from hs) Bool.false_ne_true
  | byt i =>
    obtain ⟨t, rfl⟩ := rx
    cases y with
    | byt j => obtain ⟨t', rfl⟩ := ry; exact PySem.W.eq_bytes (fin_bl I q dec_byt)
    | _ => exact absurd (show false = true from hs) Bool.false_ne_true
  | _ => cases y <;> exact absurd (show false = true from hs) Bool.false_ne_true
theorem op_ne : OpR X (compareOp .NotEq) rNe := by
  intro pins s σ H x y v u Q I rx ry h
  obtain ⟨hs, q⟩ := h
  cases x with
  | non =>
    cases rx
    cases y with
    | non => cases ry; exact PySem.EqNone.ne_none_none (fin_bl I q (by simp))
    | bl j => cases ry; exact PySem.EqNone.ne_none_bool (fin_bl I q (by simp))
    | int j => obtain ⟨t', rfl⟩ := ry; exact PySem.EqNone.ne_none_int (fin_bl I q (by simp))
    | str j => obtain ⟨t', rfl⟩ := ry; exact PySem.EqNone.ne_none_str (fin_bl I q (by simp))
    | _ => exact absurd (show false = true from hs) Bool.false_ne_true
  | bl i =>
    cases rx
    cases y with
    | non => cases ry; exact PySem.EqNone.ne_bool_none (fin_bl I q (by simp))
    | bl j => cases ry; exact ne_bool (fin_bl I q (congrArg not dec_bl))
    | str j => obtain ⟨t', rfl⟩ := ry; exact PySem.EqMixed.ne_bool_str (fin_bl I q (by simp))
    | _ => exact absurd (show false = true from hs) Bool.false_ne_true
  | int i =>
    obtain ⟨t, rfl⟩ := rx
    cases y with
    | non => cases ry; exact PySem.EqNone.ne_int_none (fin_bl I q (by simp))
    | int j => obtain ⟨t', rfl⟩ := ry; exact ne_int (fin_bl I q (congrArg not dec_int))
    | str j => obtain ⟨t', rfl⟩ := ry; exact PySem.EqMixed.ne_int_str (fin_bl I q (by simp))
    | _ => exact absurd (show false = true from hs) Bool.false_ne_true
  | str i =>
    obtain ⟨t, rfl⟩ := rx
    cases y with
    | non => cases ry; exact PySem.EqNone.ne_str_none (fin_bl I q (by simp))
    | bl j => cases ry; exact PySem.EqMixed.ne_str_bool (fin_bl I q (by simp))
    | int j => obtain ⟨t', rfl⟩ := ry; exact PySem.EqMixed.ne_str_int (fin_bl I q (by simp))
    | str j => obtain ⟨t', rfl⟩ := ry; exact ne_str (fin_bl I q (congrArg not dec_str))
    | _ => exact absurd (show false = true from hs) Bool.false_ne_true
  | byt i =>
    obtain ⟨t, rfl⟩ := rx
    cases y with
    | byt j => obtain ⟨t', rfl⟩ := ry; exact PySem.W.ne_bytes (fin_bl I q (congrArg not dec_byt))
    | _ => exact absurd (show false = true from hs) Bool.false_ne_true
  | _ => cases y <;> exact absurd (show false = true from hs) Bool.false_ne_true
theorem op_lt : OpR X (compareOp .Lt) (rI0 fun i j => .bl (decide (i < j))) := opB0 fun _ _ _ _ _ _ _ q => lt_int q
theorem op_le : OpR X (compareOp .LtE) (rI0 fun i j => .bl (decide (i ≤ j))) := opB0 fun _ _ _ _ _ _ _ q => le_int q
theorem op_gt : OpR X (compareOp .Gt) (rI0 fun i j => .bl (decide (j < i))) := opB0 fun _ _ _ _ _ _ _ q => gt_int q
theorem op_lt_str : OpR X (compareOp .Lt) (fun x y H Q => ∃ i j, x = .str i ∧ y = .str j ∧ Q (.bl (decide (i.cps.toList < j.cps.toList))) H) := by
  intro pins s σ H x y v u Q I rx ry h
  obtain ⟨i, j, rfl, rfl, q⟩ := h
  obtain ⟨t, rfl⟩ := rx
  obtain ⟨t', rfl⟩ := ry
  exact lt_str (fin_bl I q rfl)
theorem OpR.or {f : Value → Value → Sem Value} {r r' : R2} (h : OpR X f r) (h' : OpR X f r') : OpR X f (fun x y H Q => r x y H Q ∨ r' x y H Q) := by
  intro pins s σ H x y v u Q I rx ry q
  rcases q with q | q
  · exact h pins s σ H x y v u Q I rx ry q
  · exact h' pins s σ H x y v u Q I rx ry q
theorem nomark (b : Expr) {op : CmpOp} (h : op ≠ .In := by decide) (h2 : op ≠ .NotIn := by decide) : behindInMarks op b = false := by
  have e1 : (op == CmpOp.In) = false := by cases op <;> first | rfl | exact absurd rfl h
  have e2 : (op == CmpOp.NotIn) = false := by cases op <;> first | rfl | exact absurd rfl h2
  cases b <;> simp [behindInMarks, e1, e2]
theorem pe_cmpR {op : CmpOp} {r : R2} (ho : OpR X (compareOp op) r) (ha : PE X a ta) (hb : PE X b tb) (hm : behindInMarks op b = false) : PE X (.Compare a [op] [b] pos) (tOp r ta tb) := by
  intro pins s σ H Q I h
  exact wpAny_Compare1 (binT ha hb I h fun v u s2 x y H2 I2 rx ry q => ho pins s2 σ H2 x y v u Q I2 rx ry q) hm
def tTest (t : TE) : TT := fun σ H Q => t σ H fun x H' => ∃ k, x = .bl k ∧ Q k H'
theorem pt_cmpR {op : CmpOp} {r : R2} (ho : OpR X (compareOp op) r) (ha : PE X a ta) (hb : PE X b tb) (hm : behindInMarks op b = false) : PT X (.Compare a [op] [b] pos) (tTest (tOp r ta tb)) := by
  intro pins s σ H Q I h
  refine wpAny_isTrue_Compare1 (thn (ha pins s σ H _ I h) fun v s1 ⟨x, H1, I1, r1, q1⟩ => thn (hb pins s1 σ H1 _ I1 q1) fun u s2 ⟨y, H2, I2, r2, q2⟩ =>
    thn (ho pins s2 σ H2 x y v u _ I2 r1 r2 q2) fun c s3 ⟨z, H3, I3, r3, k, e, q3⟩ => ?_) hm
  subst e
  cases r3
  exact wpAny_truthy_bool ⟨H3, I3, q3⟩
def tChain (r r' : R2) (ta tb tc : TE) : TE := fun σ H Q => ta σ H fun x H1 => tb σ H1 fun y H2 => r x y H2 fun z H3 => ∃ k, z = .bl k ∧
  (if k = true then tc σ H3 fun w' H4 => r' y w' H4 Q else Q (.bl false) H3)
theorem pe_chain {op op' : CmpOp} {r r' : R2} (ho : OpR X (compareOp op) r) (ho' : OpR X (compareOp op') r') (ha : PE X a ta) (hb : PE X b tb) (hc : PE X c tc)
    (hm : lastMarks [op, op'] [b, c] = false := by with_unfolding_all rfl) : PE X (.Compare a [op, op'] [b, c] pos) (tChain r r' ta tb tc) := by
  intro pins s σ H Q I h
  refine Compare_chain (thn (ha pins s σ H _ I h) fun v s1 ⟨x, H1, I1, r1, q1⟩ => chain_link (thn (hb pins s1 σ H1 _ I1 q1) fun u s2 ⟨y, H2, I2, r2, q2⟩ =>
    thn (ho pins s2 σ H2 x y v u _ I2 r1 r2 q2) fun d s3 ⟨z, H3, I3, r3, k, e, q3⟩ => ?_)) hm
  subst e
  cases r3
  refine wpAny_truthy_bool ?_
  cases k with
  | false => exact ite_ff ⟨.bl false, H3, I3, rfl, q3⟩
  | true => exact ite_tt (chain_last (thn (hc pins s3 σ H3 _ I3 q3) fun w' s4 ⟨z', H4, I4, r4, q4⟩ => ho' pins s4 σ H4 y z' u w' Q I4 r2 r4 q4))
theorem pt_chain {op op' : CmpOp} {r r' : R2} (ho : OpR X (compareOp op) r) (ho' : OpR X (compareOp op') r') (ha : PE X a ta) (hb : PE X b tb) (hc : PE X c tc)
    (hm : lastMarks [op, op'] [b, c] = false := by with_unfolding_all rfl) : PT X (.Compare a [op, op'] [b, c] pos) (tTest (tChain r r' ta tb tc)) := by
  intro pins s σ H Q I h
  refine isTrue_chain (thn (ha pins s σ H _ I h) fun v s1 ⟨x, H1, I1, r1, q1⟩ => test_link (thn (hb pins s1 σ H1 _ I1 q1) fun u s2 ⟨y, H2, I2, r2, q2⟩ =>
    thn (ho pins s2 σ H2 x y v u _ I2 r1 r2 q2) fun d s3 ⟨z, H3, I3, r3, k, e, q3⟩ => ?_)) hm
  subst e
  cases r3
  refine wpAny_truthy_bool ?_
  cases k with
  | false =>
    obtain ⟨k', e', q'⟩ := q3
    cases e'
    exact ite_ff ⟨H3, I3, q'⟩
  | true =>
    refine ite_tt (test_last (thn (hc pins s3 σ H3 _ I3 q3) fun w' s4 ⟨z', H4, I4, r4, q4⟩ => thn (ho' pins s4 σ H4 y z' u w' _ I4 r2 r4 q4) fun d' s5 ⟨z2, H5, I5, r5, k2, e2, q5⟩ => ?_))
    subst e2
    cases r5
    exact wpAny_truthy_bool ⟨H5, I5, q5⟩
theorem line63 : (sizeLine : Nat) < 2 ^ 63 := by rw [sizeLine_eq]; decide
theorem op_add_str : OpR X (binaryOp .Add) (fun x y H Q => ∃ i j, x = .str i ∧ y = .str j ∧ i.length + j.length ≤ sizeLine ∧ Q (.str (i ++ j)) H) := by
  intro pins s σ H x y v u Q I rx ry h
  obtain ⟨i, j, rfl, rfl, hz, q⟩ := h
  obtain ⟨t, rfl⟩ := rx
  obtain ⟨t', rfl⟩ := ry
  exact add_str (fun t' tk => ⟨.str (i ++ j), H, I.tok _, ⟨_, rfl⟩, q⟩) hz
theorem vals1 {x : V} {us : List Value} (r : Vals [x] us) : ∃ u, us = [u] ∧ RelV x u := by
  cases r with
  | cons r1 r2 => cases r2; exact ⟨_, rfl, r1⟩
theorem vals2 {x y : V} {us : List Value} (r : Vals [x, y] us) : ∃ u w', us = [u, w'] ∧ RelV x u ∧ RelV y w' := by
  cases r with
  | cons r1 r2 =>
    cases r2 with
    | cons r3 r4 => cases r4; exact ⟨_, _, rfl, r1, r3⟩
theorem call_abs : CallR X (.builtin "abs") (fun xs H Q => ∃ i, xs = [.int i] ∧ Q (.int (if i < 0 then -i else i)) H) := by
  intro pins s σ H xs us Q I r h
  obtain ⟨i, rfl, q⟩ := h
  obtain ⟨u, rfl, t, rfl⟩ := vals1 r
  exact call_abs_int fun u tk => ⟨.int (if i < 0 then -i else i), H, I.tok _, ⟨_, rfl⟩, q⟩
theorem call_max2 (hc : X.calm = true) : CallR X (.builtin "max") (fun xs H Q => ∃ i j, xs = [.int i, .int j] ∧ Q (.int (if j > i then j else i)) H) := by
  intro pins s σ H xs us Q I r h
  obtain ⟨i, j, rfl, q⟩ := h
  obtain ⟨u, w', rfl, ⟨t, rfl⟩, ⟨t', rfl⟩⟩ := vals2 r
  refine max_two_ints (I.ok.hd hc) fun h' tk k => ⟨_, H, I.kept k, ?_, q⟩
  by_cases hj : j > i
  · rw [if_pos hj, if_pos hj]; exact ⟨_, rfl⟩
  · rw [if_neg hj, if_neg hj]; exact ⟨_, rfl⟩
theorem call_min2 (hc : X.calm = true) : CallR X (.builtin "min") (fun xs H Q => ∃ i j, xs = [.int i, .int j] ∧ Q (.int (if j < i then j else i)) H) := by
  intro pins s σ H xs us Q I r h
  obtain ⟨i, j, rfl, q⟩ := h
  obtain ⟨u, w', rfl, ⟨t, rfl⟩, ⟨t', rfl⟩⟩ := vals2 r
  refine min_two_ints (I.ok.hd hc) fun h' tk k => ⟨_, H, I.kept k, ?_, q⟩
  by_cases hj : j < i
  · rw [if_pos hj, if_pos hj]; exact ⟨_, rfl⟩
  · rw [if_neg hj, if_neg hj]; exact ⟨_, rfl⟩
end
end L2
namespace L2
open PySem PySem.Spec PyProof.Rows
structure ObjM (h : Heap) (x dx C : Addr) (mA : Str → Option Value) : Prop where
  obj : h.get? x = some (PySem.W.instObj C dx)
  ns : h.Ns1 dx mA
  ne : dx ≠ x
theorem lookIn_ns {h : Heap} {dx : Addr} {mA : Str → Option Value} (n : h.Ns1 dx mA) : ∃ od, h.get? dx = some od ∧ ∀ name, PySem.W.lookIn name od = some (mA name) := by
  obtain ⟨o, es, ep, ho, hd, hk, _, hm⟩ := n
  refine ⟨o, ho, fun name => ?_⟩
  have e := hm name
  unfold nsFind findBy at e
  rw [← Array.find?_toList] at e
  unfold PySem.W.lookIn
  rw [hd]
  dsimp only
  split
  · rename_i y q
    rw [q] at e
    exact congrArg some e
  · rename_i q
    rw [q] at e
    have a : es.toList.any (·.refKey) = false := by
      rw [List.any_eq_false]
      intro y hy
      obtain ⟨z, t, hkey⟩ := hk y (Array.mem_toList_iff.mp hy)
      simp [DictEntry.refKey, hkey]
    have a' : ¬ es.toList.any (·.refKey) = true := by rw [a]; exact Bool.false_ne_true
    rw [if_neg a']
    exact congrArg some e
theorem ObjM.look {h : Heap} {x dx C : Addr} {mA : Str → Option Value} (I : ObjM h x dx C mA) : ∃ od, PySem.W.InstAt h x (PySem.W.instObj C dx) C (some od) ∧ ∀ name, PySem.W.lookIn name od = some (mA name) :=
  let ⟨od, ho, hl⟩ := lookIn_ns I.ns
  ⟨od, ⟨I.obj, rfl, rfl, ho⟩, hl⟩
section
variable {prog : Program} {w : World} {A : Around} {E : Value → Shared → Prop} {s : Shared} {K : PySem.W.Frag} {x dx C f : Addr} {mA : Str → Option Value} {name : Str} {v : Value}
end
theorem RelO.some_of {v : V} {o : Option Value} (r : RelO (some v) o) : ∃ u, o = some u ∧ RelV v u := by
  cases o with
  | none => exact (show False from r).elim
  | some u => exact ⟨u, rfl, r⟩
section
variable {P : Program} {w : World} {H H' : Hp} {h h' : Heap} {a C dx : Addr} {fs fs' : List (Str × V)}
theorem ins_get (hok : HOk P w H h) (e : H a = some (.ins C dx fs)) : ∃ mA, ObjM h a dx C mA ∧ (∀ f, RelO (fs.lookup f) (mA f)) ∧ PySem.Within mA (fs.map (·.1)) ∧ fs.length ≤ 1000 ∧ H dx = some (.own a) := by
  obtain ⟨d, z, ne, ob, mA, n, r, q⟩ := (show ObjOk P w H h a (.ins C dx fs) from hok a _ e)
  exact ⟨mA, ⟨ob, n, ne⟩, r, q, z, d⟩
end
structure Cls (K : PySem.W.Frag) (C : Addr) : Prop where
  pg : PySem.W.plainGet K C Str.empty = true
  hd : PySem.W.hasDictIn K C = true
  po : PySem.W.plainOver K C = true
  sa : PySem.W.findIn K (.ref C) "__setattr__" = some (some (.builtin "object.__setattr__"))
theorem Cls.get {K : PySem.W.Frag} {C : Addr} (c : Cls K C) (f : Str) : PySem.W.plainGet K C f = true := c.pg
section
variable {X : Cx} {pins : List (Addr × Obj)} {σ : St} {H : Hp} {s : Shared} {a C dx : Addr} {fs : List (Str × V)} {f : Str} {v : V} {A : Around} {E : Value → Shared → Prop}
theorem attr_of {prog : Program} {w : World} {env : Env} {e : Expr} {f : Str} {pos : Pos} {s : Shared} {Q : Value → Shared → Prop} (hb : attributeBase e f env (eval e env) = eval e env)
    (h : wpAny (model prog w) A (eval e env) (fun o s₁ => wpAny (model prog w) A (getAttr o f true) Q E s₁) E s) : wpAny (model prog w) A (eval (.Attribute e f pos) env) Q E s :=
  Attribute_any_ h (by rw [arm_eval_Attribute, hb])
end
section
variable {X : Cx} {o e value : Expr} {f : Str} {pos pos' tpos : Pos} {ta tv : TE}
end
section
variable {X : Cx} {pins : List (Addr × Obj)} {σ : St} {H : Hp} {s : Shared} {A : Around} {E : Value → Shared → Prop} {Q : Value → Shared → Prop} {c : Value} {b : Bool}
inductive TyOf (K : PySem.W.Frag) (H : Hp) : V → Value → Prop where
  | non : TyOf K H .non (.type "NoneType")
  | bl (x : Bool) : TyOf K H (.bl x) (.type "bool")
  | int (i : Int) : TyOf K H (.int i) (.type "int")
  | str (x : Str) : TyOf K H (.str x) (.type "str")
  | flt (x : UInt64) : TyOf K H (.flt x) (.type "float")
  | lst {a : Addr} {xs : List V} (e : H a = some (.lst xs)) : TyOf K H (.ref a) (.type "list")
  | frz {a : Addr} {o : Obj} {xs : List V} (e : H a = some (.frz o (.lst xs))) : TyOf K H (.ref a) (.type "list")
  | tup {a : Addr} {xs : List V} (e : H a = some (.tup xs)) : TyOf K H (.ref a) (.type "tuple")
  | dK {a : Addr} {kvs : List (Key × V)} (e : H a = some (.dK kvs)) : TyOf K H (.ref a) (.type "dict")
  | dT {a : Addr} {kvs : List (List Key × V)} (e : H a = some (.dT kvs)) : TyOf K H (.ref a) (.type "dict")
  | ins {a C dx : Addr} {fs : List (Str × V)} (e : H a = some (.ins C dx fs)) (cl : Cls K C) (ha : PySem.W.findIn K (.ref C) "__class__" = some (some (.builtin "object.__class__")))
      (hn : PySem.W.specialIn K (.builtin "object.__class__") "__get__" = some (some (.builtin "getset_descriptor.__get__"))) (htk : PySem.W.takesIn K (.builtin "object.__class__") = some true)
      (hm : PySem.W.mroIn K C (.type "object") = some true) : TyOf K H (.ref a) (.ref C)
theorem isinst_ok {x : V} {u t : Value} (I : Inv X pins σ H s) (rx : RelV x u) (ty : TyOf X.K H x t) (e : PySem.W.kitOne X.K t c = some b) (h : ∀ tk, Q (.bool b) { s with toks := tk }) :
    wpAny (model X.prog X.w) A (call (.builtin "isinstance") [u, c]) Q E s := by
  cases ty with
  | non => cases (show u = Value.none from rx); exact PySem.W.kia_one PySem.W.kitx_none I.kIn True.intro e (fun z => nomatch z) h
  | bl y => cases (show u = Value.bool y from rx); exact PySem.W.kia_one PySem.W.kitx_bool I.kIn True.intro e (fun z => nomatch z) h
  | int i => obtain ⟨t, q⟩ := (show ∃ t, u = Value.int i t from rx); cases q; exact PySem.W.kia_one PySem.W.kitx_int I.kIn True.intro e (fun z => nomatch z) h
  | str y => obtain ⟨t, q⟩ := (show ∃ t, u = Value.str y t from rx); cases q; exact PySem.W.kia_one PySem.W.kitx_str I.kIn True.intro e (fun z => nomatch z) h
  | flt y => obtain ⟨t, q⟩ := (show ∃ t, u = Value.float y t from rx); cases q; exact PySem.W.kia_one PySem.W.kitx_float I.kIn True.intro e (fun z => nomatch z) h
  | @lst a xs ea =>
    cases (show u = Value.ref a from rx)
    obtain ⟨_, _, n, _, h1⟩ := (show ObjOk X.prog X.w H s.heap a (.lst xs) from I.hok a _ ea)
    exact PySem.W.kia_one PySem.W.kitx_list I.kIn ⟨_, h1, rfl⟩ e (fun z => nomatch z) h
  | @frz a ob xs ea =>
    cases (show u = Value.ref a from rx)
    obtain ⟨_, _, _, n, _, h1⟩ := (show ObjOk X.prog X.w H s.heap a (.frz ob (.lst xs)) from I.hok a _ ea)
    exact PySem.W.kia_one PySem.W.kitx_list I.kIn ⟨_, h1, rfl⟩ e (fun z => nomatch z) h
  | @tup a xs ea =>
    cases (show u = Value.ref a from rx)
    obtain ⟨_, _, _, p⟩ := (show ObjOk X.prog X.w H s.heap a (.tup xs) from I.hok a _ ea)
    obtain ⟨o, h1, h2, _⟩ := p
    exact PySem.W.kia_one PySem.W.kitx_tuple I.kIn ⟨o, h1, h2⟩ e (fun z => nomatch z) h
  | @dK a kvs ea =>
    cases (show u = Value.ref a from rx)
    obtain ⟨_, _, vs, _, p⟩ := (show ObjOk X.prog X.w H s.heap a (.dK kvs) from I.hok a _ ea)
    obtain ⟨o, es, ep, h1, h2, _⟩ := p
    exact PySem.W.kia_one PySem.W.kitx_dict I.kIn ⟨o, h1, h2.1⟩ e (fun z => nomatch z) h
  | @dT a kvs ea =>
    cases (show u = Value.ref a from rx)
    obtain ⟨_, _, xs, _, o, es, ep, h1, h2, _⟩ := (show ObjOk X.prog X.w H s.heap a (.dT kvs) from I.hok a _ ea)
    exact PySem.W.kia_one PySem.W.kitx_dict I.kIn ⟨o, h1, h2.1⟩ e (fun z => nomatch z) h
  | @ins a C dx fs ea cl ha hn htk hm =>
    cases (show u = Value.ref a from rx)
    obtain ⟨mA, O, _⟩ := ins_get I.hok ea
    obtain ⟨od, J, _⟩ := O.look
    exact PySem.W.kia_one (PySem.W.kitx_own (cl.get _) cl.hd ha hn htk hm) I.kIn J e (fun z => nomatch z) h
end
end L2
namespace L2
open PySem PySem.Spec PyProof.Rows
structure Room (k : Nat) (A : Around) : Prop where
  hd : A.handled = none
  dp : A.depth + 3 * k + 5 < recursionLimit
  un : A.units + 16 * k + 200 < cLine
theorem Room.mono {j k : Nat} {A : Around} (r : Room k A) (h : j ≤ k) : Room j A := ⟨r.hd, by have := r.dp; omega, by have := r.un; omega⟩
theorem Room.deeper {k : Nat} {A : Around} (r : Room (k + 1) A) (env : Env) : Room k (A.deeper env) :=
  ⟨r.hd, by have := r.dp; show A.depth + 1 + 3 * k + 5 < _; omega, by have := r.un; show A.units + 3 + 16 * k + 200 < _; omega⟩
theorem make_depth {A : Around} {C : Addr} {us : List Value} {kw : List (Str × Value)} : (A.under (.builtin "type.__call__" ⟨.ref C :: us, kw⟩)).depth = A.depth + 1 := by
  first | rfl | simp [Around.under, Code.weight, Code.isCreation, Code.isGuard, Code.isCaller, Code.frames, Code.isFrame, guardIds]
theorem make_units {A : Around} {C : Addr} {us : List Value} {kw : List (Str × Value)} : (A.under (.builtin "type.__call__" ⟨.ref C :: us, kw⟩)).units = A.units + 1 := by
  first | rfl | simp [Around.under, Code.cUnits, Code.frames, Code.isFrame]
theorem Room.make {k : Nat} {A : Around} (r : Room (k + 1) A) (C : Addr) (us : List Value) (kw : List (Str × Value)) : Room k (A.under (.builtin "type.__call__" ⟨.ref C :: us, kw⟩)) :=
  ⟨r.hd, by have := r.dp; rw [make_depth]; omega, by have := r.un; rw [make_units]; omega⟩
theorem Room.depth {k : Nat} {A : Around} (r : Room k A) : A.depth < recursionLimit := by have := r.dp; omega
theorem Room.units {k : Nat} {A : Around} (r : Room k A) : A.units + 64 < cLine := by have := r.un; omega
def tNil : TA := fun _ H Q => Q [] H
def tCons (ta : TE) (tr : TA) : TA := fun σ H Q => ta σ H fun x H1 => tr σ H1 fun xs H2 => Q (x :: xs) H2
section
variable {X : Cx} {e : Expr} {es : List Expr} {te : TE} {t : TA} {pos : Pos}
theorem pa_nil : PA X [] tNil := fun _ _ _ _ H Q I h => Calls.spliced_nil ⟨[], H, I, .nil, h⟩
theorem pa_cons (ha : PE X e te) (hr : PA X es t) (hs : starEach (e :: es) X.env = (false, eval e X.env) :: starEach es X.env := by rfl) : PA X (e :: es) (tCons te t) := by
  intro pos pins s σ H Q I h
  rw [hs]
  show wpAny _ _ (spliced ((false, eval e X.env) :: backTo pos (starEach es X.env))) _ _ s
  refine Calls.spliced_cons (thn (ha pins s σ H _ I h) fun u s1 ⟨x, H1, I1, r1, q1⟩ => ?_)
  exact thn (hr pos pins s1 σ H1 _ I1 q1) fun us s2 ⟨xs, H2, I2, r2, q2⟩ => ⟨x :: xs, H2, I2, .cons r1 r2, q2⟩
def tTup (t : TA) : TE := fun σ H Q => t σ H fun xs H1 => xs.length ≤ sizeLine ∧ ∀ p, H1 p = none → Q (.ref p) (upd H1 p (.tup xs))
def tLst (t : TA) : TE := fun σ H Q => t σ H fun xs H1 => xs.length ≤ sizeLine ∧ ∀ p, H1 p = none → Q (.ref p) (upd H1 p (.lst xs))
theorem pe_tup {x1} (h : PA X es t) : PE X (.Tuple es x1 pos) (tTup t) := by
  intro pins s σ H Q I hq
  refine wpAny_Tuple_spliced (thn (h pos pins s σ H _ I hq) fun us s1 ⟨xs, H1, I1, r, z, q⟩ => ⟨by rw [← r.length]; exact z, ?_⟩)
  have hf : H1 s1.heap.objs.size = none := I1.hok.fresh (Nat.le_refl _)
  refine ⟨.ref s1.heap.objs.size, upd H1 s1.heap.objs.size (.tup xs), I1.laid (t' := s1.toks) (fun b u e => Heap.get?_push_of_some _ e) (Nat.le_refl _) ?_, rfl, q _ hf⟩
  exact ⟨z, us, r, ⟨_, Heap.get?_push_size _ rfl, rfl, _, rfl⟩⟩
theorem pe_lst (h : PA X es t) : PE X (.List es pos) (tLst t) := by
  intro pins s σ H Q I hq
  refine wpAny_List_spliced (thn (h pos pins s σ H _ I hq) fun us s1 ⟨xs, H1, I1, r, z, q⟩ => ⟨by rw [← r.length]; exact z, ?_⟩)
  have hf : H1 s1.heap.objs.size = none := I1.hok.fresh (Nat.le_refl _)
  refine ⟨.ref s1.heap.objs.size, upd H1 s1.heap.objs.size (.lst xs), I1.laid (t' := s1.toks) (fun b u e => Heap.get?_push_of_some _ e) (Nat.le_refl _) ?_, rfl, q _ hf⟩
  exact ⟨z, us, 0, r, Heap.get?_push_size _ rfl⟩
end
abbrev Sp := List V → Hp → VK → XK → Prop
abbrev CXT := List Env → Hp → Shared → XK → Value → Shared → Prop
structure Env0 (P : Program) (w : World) (K : PySem.W.Frag) (mg : Str → Option Value) (base : Heap) (A : Around) (outer : List Env) (s : Shared) (H : Hp) : Prop where
  frames : A.frames = some outer
  mod : Mod K mg base
  bs : ∀ b o, base.get? b = some o → s.heap.get? b = some o ∧ H b = none
  bsz : base.objs.size ≤ s.heap.objs.size
  funs : s.heap.FunFrames base outer
  frf : ∀ b ∈ frs outer, H b = none
  hok : HOk P w H s.heap
  bare : AllBare s.gens
def CE (outer : List Env) (P : Program) (w : World) (H : Hp) (s : Shared) (Q : VK) (u : Value) (s' : Shared) : Prop :=
  ∃ v H', s'.os = s.os ∧ AllBare s'.gens ∧ Un (frs outer) [] H H' s.heap s'.heap ∧ HOk P w H' s'.heap ∧ RelV v u ∧ Q v H'
def CR (CX : CXT) (outer : List Env) (P : Program) (w : World) (H : Hp) (s : Shared) (Q : VK) (E : XK) (r : Result) (s' : Shared) : Prop :=
  match r with
  | .ok (.ret u) => CE outer P w H s Q u s'
  | .ok _ => False
  | .error e => CX outer H s E e s'
structure FnOk (P : Program) (w : World) (K : PySem.W.Frag) (mg : Str → Option Value) (base : Heap) (CX : CXT) (k : Nat) (f : Addr) (fd : FuncData) (ps : List Str) (sp : Sp) : Prop where
  len : ∀ vs H Q E, sp vs H Q E → vs.length = ps.length
  run : ∀ (A : Around) (outer : List Env) (s : Shared) (H : Hp) (args : Args) (us : List Value) (vs : List V) (Q : VK) (E : XK), Room k A → Env0 P w K mg base A outer s H → BindsTo s fd args (ps.zip us) → Vals vs us → sp vs H Q E →
    codeAny (model P w) A (.call (.ref f) args) (CR CX outer P w H s Q E) s
theorem FnOk.imp {P : Program} {w : World} {K : PySem.W.Frag} {mg : Str → Option Value} {base : Heap} {CX : CXT} {k : Nat} {f : Addr} {fd : FuncData} {ps : List Str} {sp sp' : Sp} (F : FnOk P w K mg base CX k f fd ps sp)
    (h : ∀ vs H Q E, sp' vs H Q E → sp vs H Q E) : FnOk P w K mg base CX k f fd ps sp' :=
  ⟨fun vs H Q E q => F.len vs H Q E (h _ _ _ _ q), fun A outer s H args us vs Q E hr he hb hv hs => F.run A outer s H args us vs Q E hr he hb hv (h _ _ _ _ hs)⟩
theorem Env0.make {P : Program} {w : World} {K : PySem.W.Frag} {mg : Str → Option Value} {base : Heap} {A : Around} {outer : List Env} {s : Shared} {H : Hp} (e : Env0 P w K mg base A outer s H) (C : Addr) (us : List Value) (kw : List (Str × Value)) :
    Env0 P w K mg base (A.under (.builtin "type.__call__" ⟨.ref C :: us, kw⟩)) outer s H := ⟨by first | exact e.frames | (simpa [Around.under, Code.envs, Code.isFrame, pushEnvs] using e.frames), e.mod, e.bs, e.bsz, e.funs, e.frf, e.hok, e.bare⟩
section
variable {X : Cx} {pins : List (Addr × Obj)} {σ : St} {H : Hp} {s s' : Shared}
theorem Inv.env0 (I : Inv X pins σ H s) : Env0 X.prog X.w X.K X.mg X.base X.A X.stack s H :=
  ⟨I.ok.frames, I.ok.mod, I.bs, Nat.le_trans I.ok.bsz I.sz, I.stack, I.stkFree, I.hok, I.bare⟩
theorem Inv.after {Q : VK} {u : Value} (I : Inv X pins σ H s) (h : CE X.stack X.prog X.w H s Q u s') : EP X pins σ Q u s' := by
  obtain ⟨v, H', os, bare, un, hok, r, q⟩ := h
  obtain ⟨hh, g, d, t, os'⟩ := s'
  obtain rfl : os' = s.os := os
  exact ⟨v, H', I.call (h' := hh) (g' := g) (d' := d) (t' := t) (ch := []) un hok bare (fun b z => absurd z (by simp)), r, q⟩
end
def tCall (sp : Sp) (dvs : List V) (E : XK) (t : TA) : TE := fun σ H Q => t σ H fun vs H1 => sp (vs ++ dvs) H1 Q E
def Binds (K : PySem.W.Frag) (fd : FuncData) (ps : List Str) (ds : List Value) : Prop :=
  ∀ (s : Shared) (us : List Value), K.In s.heap → (us ++ ds).length = ps.length → BindsTo s fd ⟨us, []⟩ (ps.zip (us ++ ds))
theorem Binds.all {K : PySem.W.Frag} {fd : FuncData} {ps : List Str} (h : ∀ us : List Value, us.length = ps.length → bindArgs fd ⟨us, []⟩ = pure (ps.zip us)) : Binds K fd ps [] := fun s us _ hl => by
  rw [List.append_nil] at hl ⊢
  exact .of_eq (h us hl)
def Passes (CX : CXT) (X : Cx) (E : XK) : Prop := ∀ (pins : List (Addr × Obj)) (σ : St) (H : Hp) (s : Shared) (e : Value) (s' : Shared), Inv X pins σ H s → CX X.stack H s E e s' → X.xe e s'
section
variable {X : Cx} {CX : CXT} {k : Nat} {f C : Addr} {fd : FuncData} {ps : List Str} {sp : Sp} {dvs : List V} {ds : List Value} {E : XK} {x m : Str} {p pos apos : Pos} {e o : Expr} {es : List Expr} {ta : TE} {t : TA}
theorem run_fn {pins : List (Addr × Obj)} {σ : St} {H : Hp} {s : Shared} {Q : VK} {us : List Value} {vs : List V} (F : FnOk X.prog X.w X.K X.mg X.base CX k f fd ps sp) (hr : Room k X.A) (hb : Binds X.K fd ps ds) (hd : Vals dvs ds) (hx : Passes CX X E)
    (I : Inv X pins σ H s) (r : Vals vs us) (h : sp (vs ++ dvs) H Q E) : wpAny (model X.prog X.w) X.A (call (.ref f) us) (EP X pins σ Q) X.xe s := by
  have r2 : Vals (vs ++ dvs) (us ++ ds) := r.append hd
  have hl : (us ++ ds).length = ps.length := by rw [← r2.length]; exact F.len _ _ _ _ h
  refine wpAny_call (codeAny_mono (F.run X.A X.stack s H ⟨us, []⟩ (us ++ ds) (vs ++ dvs) Q E hr I.env0 (hb s us I.kIn hl) r2 h) fun r s' hq => ?_)
  cases r with
  | error e => exact hx pins σ H s e s' I hq
  | ok fl =>
    cases fl with
    | ret u => exact I.after hq
    | next => exact False.elim hq
    | brk => exact False.elim hq
    | cont => exact False.elim hq
theorem pe_call (F : FnOk X.prog X.w X.K X.mg X.base CX k f fd ps sp) (hr : Room k X.A) (hg : Gl X x) (hm : X.mg x = some (.ref f)) (hk : PySem.W.keepIn X.K (.ref f) = true) (hb : Binds X.K fd ps ds) (hd : Vals dvs ds) (hx : Passes CX X E)
    (ha : PA X (e :: es) t) (hdb : (x == ("__debug__" : Str)) = false := by decide) (he : starEach (e :: es) X.env = (false, eval e X.env) :: starEach es X.env := by rfl) (hpl : (backTo pos (starEach es X.env)).any (·.1) = false := by rfl) :
    PE X (.Call (.Name x p) (e :: es) [] pos) (tCall sp dvs E t) := by
  intro pins s σ H Q I h
  refine wpAny_Call_Name_kw (ld_glob I hg hm ?_ hdb)
  refine PySem.W.callWith_K (h₀ := X.base) I.ok.mod.kin hk (thn (ha pos pins s σ H _ I h) fun us s1 ⟨vs, H1, I1, r, q⟩ => ⟨I1.kIn, ?_⟩) he hpl
  exact run_fn F hr hb hd hx I1 r q
end
section
variable {X : Cx} {CX : CXT} {k : Nat} {f C : Addr} {fd : FuncData} {ps ks : List Str} {sp : Sp} {E : XK} {x m : Str} {p pos apos kpos : Pos} {e o : Expr} {es : List Expr} {kws : List Keyword} {te ta : TE} {t tk : TA} {nm : Option Str}
variable {g : List Value → List Value → List Value} {gV : List V → List V → List V}
end
structure FnScope (N P : List Str) (sc : Scope) : Prop where
  kind : sc.kind = .function
  co : sc.isCoroutine = false
  gen : sc.isGenerator = false
  nd : N.Nodup
  pre : N.take P.length = P
  par : ∀ x ∈ P, sc.names.lookup x = some .local ∨ sc.names.lookup x = some .cell
  nofree : ∀ y ∈ sc.names, y.2 ≠ .free
theorem bindL_out {kindOf : Str → Option NameKind} {x : Str} : ∀ {binds : List (Str × Value)} {m : Str → Option Value}, (∀ v, (x, v) ∉ binds) → bindL kindOf binds m x = m x
  | [], _, _ => rfl
  | (n, v) :: r, m, h => by
    unfold bindL
    rw [bindL_out fun w hw => h w (List.mem_cons_of_mem _ hw)]
    split
    · have : x ≠ n := by rintro rfl; exact h v List.mem_cons_self
      simp [this]
    · rfl
theorem bindC_out {kindOf : Str → Option NameKind} {x : Str} : ∀ {binds : List (Str × Value)} {m : Str → Option Value}, (∀ v, (x, v) ∉ binds) → bindC kindOf binds m x = m x
  | [], _, _ => rfl
  | (n, v) :: r, m, h => by
    unfold bindC
    rw [bindC_out fun w hw => h w (List.mem_cons_of_mem _ hw)]
    split
    · rfl
    · have : x ≠ n := by rintro rfl; exact h v List.mem_cons_self
      simp [this]
theorem bindL_get {kindOf : Str → Option NameKind} {x : Str} {v : Value} : ∀ {P : List Str} {vs : List Value} {i : Nat} {m : Str → Option Value}, P.Nodup → P[i]? = some x → vs[i]? = some v → kindOf x = some .local →
    bindL kindOf (P.zip vs) m x = some v
  | [], _, _, _, _, h, _, _ => by simp at h
  | _ :: _, [], _, _, _, _, h, _ => by simp at h
  | p :: P, w :: vs, 0, m, nd, h1, h2, hk => by
    simp at h1 h2; subst h1; subst h2
    show bindL kindOf ((p, w) :: P.zip vs) m p = _
    unfold bindL
    rw [bindL_out fun v hv => (List.nodup_cons.mp nd).1 (List.of_mem_zip hv).1, if_pos hk]
    simp
  | p :: P, w :: vs, i + 1, m, nd, h1, h2, hk => by
    show bindL kindOf ((p, w) :: P.zip vs) m x = _
    unfold bindL
    exact bindL_get (i := i) (List.nodup_cons.mp nd).2 (by simpa using h1) (by simpa using h2) hk
theorem bindC_get {kindOf : Str → Option NameKind} {x : Str} {v : Value} : ∀ {P : List Str} {vs : List Value} {i : Nat} {m : Str → Option Value}, P.Nodup → P[i]? = some x → vs[i]? = some v → kindOf x ≠ some .local →
    bindC kindOf (P.zip vs) m x = some v
  | [], _, _, _, _, h, _, _ => by simp at h
  | _ :: _, [], _, _, _, _, h, _ => by simp at h
  | p :: P, w :: vs, 0, m, nd, h1, h2, hk => by
    simp at h1 h2; subst h1; subst h2
    show bindC kindOf ((p, w) :: P.zip vs) m p = _
    unfold bindC
    rw [bindC_out fun v hv => (List.nodup_cons.mp nd).1 (List.of_mem_zip hv).1, if_neg hk]
    simp
  | p :: P, w :: vs, i + 1, m, nd, h1, h2, hk => by
    show bindC kindOf ((p, w) :: P.zip vs) m x = _
    unfold bindC
    exact bindC_get (i := i) (List.nodup_cons.mp nd).2 (by simpa using h1) (by simpa using h2) hk
def start (N : List Str) (vs : List V) : St := vs.map some ++ List.replicate (N.length - vs.length) none
def cxOf (CX : CXT) (P : Program) (w : World) (K : PySem.W.Frag) (mg : Str → Option Value) (base : Heap) (N : List Str) (qual : Str) (scope : Scope) (f : Addr) (cd : Value) (A : Around) (outer : List Env) (s : Shared) (H : Hp) (E : XK) : Cx where
  prog := P
  w := w
  K := K
  mg := mg
  base := base
  A := A.deeper (envOfC qual scope s.heap.objs.size f cd)
  N := N
  s₀ := s
  H₀ := H
  env := envOfC qual scope s.heap.objs.size f cd
  outer := outer
  stack := envOfC qual scope s.heap.objs.size f cd :: outer
  ex := []
  calm := true
  fn := fun _ => true
  pn := []
  xe := fun e s' => wpAny (model P w) (A.deeper (envOfC qual scope s.heap.objs.size f cd)) (leaving (envOfC qual scope s.heap.objs.size f cd) e) (fun _ s'' => CX outer H s E e s'') (fun e' s'' => CX outer H s E e' s'') s'
theorem cell_has {sc : Scope} {n : Nat} {x : Str} (h : sc.names.lookup x = some .cell) : ∃ c, (cellsFrom n sc.names []).lookup x = some c := by
  have q := PySem.W.cellsFrom_some sc.names n [] (.inl h)
  exact Option.isSome_iff_exists.mp q
theorem inv_start {CX : CXT} {P : Program} {w : World} {K : PySem.W.Frag} {mg : Str → Option Value} {base : Heap} {N ps : List Str} {qual : Str} {scope : Scope} {f : Addr} {cd : Value} {A : Around} {outer : List Env} {s s1 : Shared} {H : Hp} {E : XK} {us : List Value} {vs : List V}
    (S : FnScope N ps scope) (hd : A.handled = none) (e0 : Env0 P w K mg base A outer s H) (hl : vs.length = ps.length) (r : Vals vs us)
    (x : InCallC s s.heap.objs.size (bindL (envOfC qual scope s.heap.objs.size f cd).kindOf (ps.zip us) fun _ => none) (cellsFrom (s.heap.objs.size + 1) scope.names []) (bindC (envOfC qual scope s.heap.objs.size f cd).kindOf (ps.zip us) fun _ => none) s1) :
    Inv (cxOf CX P w K mg base N qual scope f cd A outer s H E) [] (start N vs) H s1 := by
  have hpl : ps.length ≤ N.length := by have := congrArg List.length S.pre; rw [List.length_take] at this; omega
  obtain ⟨h1, tk, rfl, hk⟩ := x.done
  have noA : ∀ b : Addr, b ∉ (cxOf CX P w K mg base N qual scope f cd A outer s H E).ex := fun b z => absurd (show b ∈ ([] : List Addr) from z) (by simp)
  refine ⟨⟨e0.mod, S.kind, rfl, rfl, Nat.le_refl _, fun y z c h1 h2 => ?_, fun y hy => ?_, fun y c _ h => ?_, fun _ => hd, Around.frames_deeper e0.frames, .inr ⟨rfl, rfl⟩, fun b z => absurd z (noA b), e0.bs, e0.bsz, fun b _ _ => noA b, fun b z => absurd z (noA b), e0.funs, e0.frf⟩,
    rfl, e0.bare, Un.kept hk, ⟨_, x.toInCall.ns, fun i y v h1 h2 h3 => ?_⟩, fun y c h => ⟨_, x.cell y c h⟩, e0.hok.fresh (Nat.le_refl _), fun y c h => ?_, fun p hp => absurd (show p ∈ ([] : List (Addr × Obj)) from hp) (by simp), e0.hok.kept hk, ?_⟩
  · exact name_of_addr x.apart (PySem.mem_of_lookup h1) (PySem.mem_of_lookup h2)
  · have hy : scope.names.lookup y = some .cell ∨ scope.names.lookup y = some .free := hy
    rcases hy with hy | hy
    · exact cell_has hy
    · exact absurd rfl (S.nofree _ (PySem.mem_of_lookup hy))
  · exact Nat.le_of_lt (x.above y c (PySem.mem_of_lookup h))
  · have hi : i < vs.length := by
      unfold start at h2
      by_cases hi : i < vs.length
      · exact hi
      · rw [List.getElem?_append_right (by simpa using hi)] at h2
        rw [List.getElem?_replicate] at h2
        split at h2 <;> cases h2
    have ha : vs[i]? = some v := by
      unfold start at h2
      rw [List.getElem?_append_left (by simpa using hi), List.getElem?_map] at h2
      cases e : vs[i]? with
      | none => rw [e] at h2; cases h2
      | some a => rw [e] at h2; cases h2; rfl
    obtain ⟨u, hu, rv⟩ := r.get ha
    have hp : ps[i]? = some y := by
      rw [← S.pre, List.getElem?_take_of_lt (by omega)]; exact h1
    have ndP : ps.Nodup := by rw [← S.pre]; exact S.nd.sublist (List.take_sublist _ _)
    refine ⟨u, rv, ?_⟩
    rcases S.par y (List.mem_of_getElem? hp) with k | k
    · exact .inl ⟨k, bindL_get ndP hp hu k⟩
    · obtain ⟨c, e⟩ := cell_has (n := s.heap.objs.size + 1) k
      refine .inr ⟨.inl k, c, e, ?_⟩
      have q := x.cell y c e
      rw [bindC_get ndP hp hu (by show scope.names.lookup y ≠ _; rw [k]; decide)] at q
      exact q
  · exact e0.hok.fresh (Nat.le_of_lt (x.above y c (PySem.mem_of_lookup h)))
  · unfold start
    show _ = N.length
    rw [List.length_append, List.length_map, List.length_replicate]
    omega
theorem fn_of {CX : CXT} {P : Program} {w : World} {K : PySem.W.Frag} {mg : Str → Option Value} {base : Heap} {k : Nat} {f : Addr} {name qual : Str} {params : Arguments} {body : List Stmt} {scope : Scope} {dV kV doc pm cdv ct oc : Value} {an od : Option Addr}
    {osl : Array (Option Value)} {N ps : List Str} {sp : Sp} (lk : K.lookup f = some ⟨oc, od, .func (PySem.W.fnOf name qual params body scope dV kV doc pm an cdv ct), osl⟩) (hcd : PySem.W.codeIn K cdv qual = true) (S : FnScope N ps scope)
    (len : ∀ vs H Q E, sp vs H Q E → vs.length = ps.length)
    (hbody : ∀ (A : Around) (outer : List Env) (s : Shared) (H : Hp) (vs : List V) (Q : VK) (E : XK), Room k (A.deeper (envOfC qual scope s.heap.objs.size f cdv)) → sp vs H Q E →
      ∃ t, PSs (cxOf CX P w K mg base N qual scope f cdv A outer s H E) body t ∧ t { nx := fun _ H' => Q .non H', rt := Q } (start N vs) H) :
    FnOk P w K mg base CX (k + 1) f (PySem.W.fnOf name qual params body scope dV kV doc pm an cdv ct) ps sp := by
  refine ⟨len, fun A outer s H args us vs Q E hr e0 hb r hsp => ?_⟩
  have hl := len _ _ _ _ hsp
  have KX : K.In s.heap := e0.mod.kin.keeps fun b o e => (e0.bs b o e).1
  have lim : s.heap.NoLimit := e0.mod.nolimit.keeps fun b o e => (e0.bs b o e).1
  have hkind : ∀ y ∈ ps.zip us, scope.names.lookup y.1 = some .local ∨ (scope.names.lookup y.1 = some .cell ∧ ((cellsFrom (s.heap.objs.size + 1) scope.names []).lookup y.1).isSome = true) := fun ⟨n, v⟩ hy => by
    rcases S.par n (List.of_mem_zip hy).1 with q | q
    · exact .inl q
    · exact .inr ⟨q, PySem.W.cellsFrom_some _ _ _ (.inl q)⟩
  refine codeAny_call_function hr.depth (KX _ _ lk) rfl S.co S.gen rfl (PySem.W.codeRec_of KX hcd) (hb _ _ _ _ ?_)
  refine wpAny_newFunctionEnv_cells S.kind hkind fun env he s1 x => ?_
  subst he
  refine ⟨lim.keeps x.toInCall.keep, codeAny_func ?_⟩
  obtain ⟨t, ht, hq⟩ := hbody A outer s H vs Q E (hr.deeper _) hsp
  have I : Inv (cxOf CX P w K mg base N qual scope f cdv A outer s H E) [] (start N vs) H s1 := inv_start S hr.hd e0 hl r x
  refine wpAny_mono (ht [] s1 (start N vs) H _ I hq) (fun fl s' hs => ?_) fun e s' hs => hs
  have fin : ∀ {σ' : St} {H' : Hp} {v : V} {u : Value}, Inv (cxOf CX P w K mg base N qual scope f cdv A outer s H E) [] σ' H' s' → RelV v u → Q v H' → CE outer P w H s Q u s' :=
    fun {σ' H' v u} J rv q => ⟨v, H', J.os, J.bare, J.base, J.hok, rv, q⟩
  cases fl with
  | ret u =>
    obtain ⟨v, σ', H', J, rv, q⟩ := hs
    exact fin J rv q
  | next =>
    obtain ⟨σ', H', J, q⟩ := hs
    exact fin (v := V.non) (u := Value.none) J rfl q
  | brk =>
    obtain ⟨_, _, _, q⟩ := hs
    exact False.elim q
  | cont =>
    obtain ⟨_, _, _, q⟩ := hs
    exact False.elim q
end L2
namespace L2
open PySem PySem.Spec PyProof.Rows
section
variable {X : Cx} {x : Str} {p pos : Pos} {e : Expr} {es : List Expr} {t : TA} {id T : String} {r : List V → Hp → VK → Prop}
def tCB (r : List V → Hp → VK → Prop) (t : TA) : TE := fun σ H Q => t σ H fun vs H1 => r vs H1 Q
theorem pe_callB (hc : CallR X (.builtin id) r) (hg : Gl X x) (hm : X.mg x = none) (hv : bootBuiltins x = some (.builtin id)) (ha : PA X (e :: es) t) (hn : x ≠ "__name__" := by decide) (hdb : (x == ("__debug__" : Str)) = false := by decide)
    (he : starEach (e :: es) X.env = (false, eval e X.env) :: starEach es X.env := by rfl) (hpl : (backTo pos (starEach es X.env)).any (·.1) = false := by rfl) : PE X (.Call (.Name x p) (e :: es) [] pos) (tCB r t) := by
  intro pins s σ H Q I h
  refine wpAny_Call_Name_kw (ld_blt I hg hm hv ?_ hn hdb)
  exact PyProof.Rows.callWith_builtin1 (thn (ha pos pins s σ H _ I h) fun us s1 ⟨vs, H1, I1, r1, q1⟩ => hc pins s1 σ H1 vs us Q I1 r1 q1) he hpl
theorem pe_callTy (hc : CallR X (.type T) r) (hg : Gl X x) (hm : X.mg x = none) (hv : bootBuiltins x = some (.type T)) (ha : PA X (e :: es) t) (hn : x ≠ "__name__" := by decide) (hdb : (x == ("__debug__" : Str)) = false := by decide)
    (he : starEach (e :: es) X.env = (false, eval e X.env) :: starEach es X.env := by rfl) (hpl : (backTo pos (starEach es X.env)).any (·.1) = false := by rfl) : PE X (.Call (.Name x p) (e :: es) [] pos) (tCB r t) := by
  intro pins s σ H Q I h
  refine wpAny_Call_Name_kw (ld_blt I hg hm hv ?_ hn hdb)
  exact PyProof.Rows.callWith_type1 (thn (ha pos pins s σ H _ I h) fun us s1 ⟨vs, H1, I1, r1, q1⟩ => hc pins s1 σ H1 vs us Q I1 r1 q1) he hpl
end
end L2
namespace HT
open PySem PyProof.Rows
section
open PySem.SeqAt
open PySem.AutoSeq1 (wpAny_loadPart')
open PySem.MeetsSeq PySem.MeetsSeq2 PySem.MeetsSeq3
end
section
variable {prog : Program} {w : World} {A : Around} {E : Value → Shared → Prop} {s : Shared}
theorem cat_tup {t b : Addr} {vs ws : List Value} {Q : Value → Shared → Prop} (ht : IsTup s.heap t vs.toArray) (hb : IsTup s.heap b ws.toArray) (hv : vs ≠ [])
    (h1 : ws = [] → Q (.ref t) s) (h2 : ws ≠ [] → Q (.ref s.heap.objs.size) { s with heap := s.heap.push { cls := .type "tuple", data := .seq (vs ++ ws).toArray } })
    (hsz : vs.length + ws.length ≤ sizeLine) : wpAny (model prog w) A (binaryOp .Add (.ref t) (.ref b)) Q E s := by
  obtain ⟨⟨cls, dd, data, sl⟩, ho, hc, n, hd⟩ := id ht
  obtain ⟨⟨cls2, dd2, data2, sl2⟩, ho2, hc2, n2, hd2⟩ := id hb
  simp only at hc hd hc2 hd2
  subst hc hd hc2 hd2
  have e : vs.toArray ++ ws.toArray = (vs ++ ws).toArray := by simp
  by_cases hw : ws = []
  · exact concat_meets ⟨_, ho, rfl⟩ ⟨_, ho2, rfl⟩ noFill_tuple_add seq_tuple_add PySem.F.slot_tuple_add PySem.F.entry_tuple_add (PySem.F.args_tuple_add_2 _ _)
      (tuple_addW1 t b vs.toArray ws.toArray n n2 dd dd2 sl sl2 (by simpa using hv) (by simp [hw])) ⟨ho, ho2, h1 hw⟩
  · refine concat_meets ⟨_, ho, rfl⟩ ⟨_, ho2, rfl⟩ noFill_tuple_add seq_tuple_add PySem.F.slot_tuple_add PySem.F.entry_tuple_add (PySem.F.args_tuple_add_2 _ _)
      (tuple_addW2 t b vs.toArray ws.toArray n n2 dd dd2 sl sl2 (by simpa using hv) (by simpa using hw) (by rw [List.size_toArray, List.size_toArray]; exact hsz)) ⟨ho, ho2, ?_⟩
    rw [e]
    exact h2 hw
def sIx (n d : Nat) : Option Int → Nat
  | none => d
  | some v => if v < 0 then (v + (n : Int)).toNat else min v.toNat n
theorem sIx_nat (n d k : Nat) : sIx n d (some (k : Int)) = min k n := by
  show (if (k : Int) < 0 then ((k : Int) + (n : Int)).toNat else min (k : Int).toNat n) = min k n
  rw [if_neg (by omega), Int.toNat_natCast]
theorem sIx_le (n d : Nat) (hd : d ≤ n) (o : Option Int) : sIx n d o ≤ n := by
  cases o with
  | none => exact hd
  | some v =>
    show (if v < 0 then (v + (n : Int)).toNat else min v.toNat n) ≤ n
    by_cases hv : v < 0
    · rw [if_pos hv]; omega
    · rw [if_neg hv]; exact Nat.min_le_right _ _
theorem clip_eq (v : Int) (n d : Nat) : (if v < 0 then max (v + (n : Int)) 0 else min v (n : Int)) = ((sIx n d (some v) : Nat) : Int) := by
  show (if v < 0 then max (v + (n : Int)) 0 else min v (n : Int)) = (((if v < 0 then (v + (n : Int)).toNat else min v.toNat n) : Nat) : Int)
  by_cases hv : v < 0
  · simp only [if_pos hv]; omega
  · simp only [if_neg hv]; omega
theorem adjust_gen (lo hi : Option Int) (n : Nat) : Builtin.Slice.sliceAdjust lo hi 1 (n : Int) = (((sIx n 0 lo : Nat) : Int), ((sIx n n hi : Nat) : Int)) := by
  have h1 : ¬ ((1 : Int) < 0) := by omega
  unfold Builtin.Slice.sliceAdjust
  simp only [h1, if_false]
  refine Prod.ext ?_ ?_
  · cases lo with
    | none => rfl
    | some v => exact clip_eq v n 0
  · cases hi with
    | none => rfl
    | some v => exact clip_eq v n n
theorem places_gen (i j : Nat) : Builtin.Slice.slicePlaces (i : Int) (j : Int) 1 = j - i := by
  unfold Builtin.Slice.slicePlaces
  have h1 : (1 : Int) > 0 := by omega
  simp only [h1, if_true, Int.ediv_one]
  split <;> omega
theorem slicePart_ {v : Value} {o : Option Int} {Q : Option Int → Shared → Prop} (p : IsPart v o) (h : Q o s) : wpAny (model prog w) A (Builtin.Slice.slicePartIndex v) Q E s := by
  cases p with
  | none => exact slicePart_none h
  | int i t => exact slicePart_int h
theorem sliceApplied_gen {sl : Addr} {vl vu : Value} {lo hi : Option Int} {n : Nat} {Q : Int × Int × Nat → Shared → Prop} (hs : s.heap.IsSliceOf sl vl vu .none) (pl : IsPart vl lo) (pu : IsPart vu hi)
    (h : Q (((sIx n 0 lo : Nat) : Int), 1, sIx n n hi - sIx n 0 lo) s) : wpAny (model prog w) A (Builtin.Slice.sliceApplied (.ref sl) (pure (n : Int))) Q E s := by
  obtain ⟨os, hos, hcs, hds⟩ := id hs
  unfold Builtin.Slice.sliceApplied Builtin.Slice.sliceFields
  refine wpAny_bind (wpAny_bind (wpAny_field hos hds (x := vl) rfl (wpAny_bind (wpAny_field hos hds (x := vu) rfl (wpAny_bind (wpAny_field hos hds (x := .none) rfl (wpAny_pure ?_)))))))
  refine wpAny_bind (slicePart_none ?_)
  show wpAny _ _ (if ((1 : Int) == 0) = true then _ else _) _ _ s
  rw [if_neg (by decide)]
  refine wpAny_bind (slicePart_ pl (wpAny_bind (slicePart_ pu (wpAny_bind (wpAny_pure ?_)))))
  show wpAny _ _ (match Builtin.Slice.sliceAdjust lo hi 1 (n : Int) with | (lo, hi) => pure (lo, (1 : Int), Builtin.Slice.slicePlaces lo hi 1)) _ _ s
  rw [adjust_gen lo hi n]
  show wpAny _ _ (pure (((sIx n 0 lo : Nat) : Int), (1 : Int), Builtin.Slice.slicePlaces ((sIx n 0 lo : Nat) : Int) ((sIx n n hi : Nat) : Int) 1)) _ _ s
  rw [places_gen]
  exact wpAny_pure h
theorem pick_gen (xs : Array Value) (i k : Nat) : ((List.range k).filterMap fun (m : Nat) => xs[((i : Int) + (m : Int) * 1).toNat]?).toArray = ((xs.toList.drop i).take k).toArray := by
  have e : (fun (m : Nat) => xs[((i : Int) + (m : Int) * 1).toNat]?) = fun m => xs[i + m]? := by
    funext m
    have : ((i : Int) + (m : Int) * 1).toNat = i + m := by omega
    rw [this]
  rw [e]
  have := pick_run xs i k
  rw [List.filterMap_map] at this
  have e2 : ((fun x => xs[x]?) ∘ fun x => i + x) = fun m => xs[i + m]? := rfl
  rw [e2] at this
  rw [this]
theorem getItem_tuple_cut {t sl : Addr} {items : Array Value} {vl vu : Value} {lo hi : Option Int} {Q : Value → Shared → Prop} (ht : IsTup s.heap t items) (hs : s.heap.IsSliceOf sl vl vu .none) (pl : IsPart vl lo) (pu : IsPart vu hi)
    (hw : ¬ (sIx items.size 0 lo = 0 ∧ sIx items.size items.size hi = items.size))
    (h : Q (.ref s.heap.objs.size) { s with heap := s.heap.push { cls := .type "tuple", data := .seq ((items.toList.drop (sIx items.size 0 lo)).take (sIx items.size items.size hi - sIx items.size 0 lo)).toArray } })
    (hsz : items.size ≤ sizeLine) : wpAny (model prog w) A (getItem (.ref t) (.ref sl)) Q E s := by
  have htake : sizeOk (.seq ((items.toList.drop (sIx items.size 0 lo)).take (sIx items.size items.size hi - sIx items.size 0 lo)).toArray) := by
    show ((items.toList.drop (sIx items.size 0 lo)).take (sIx items.size items.size hi - sIx items.size 0 lo)).toArray.size ≤ sizeLine
    rw [List.size_toArray, List.length_take, List.length_drop, Array.length_toList]
    omega
  have hj : sIx items.size items.size hi ≤ items.size := sIx_le _ _ (Nat.le_refl _) hi
  obtain ⟨os, hos, hcs, hds⟩ := id hs
  have hTs : s.TypeIs (.ref sl) "slice" := ⟨os, hos, hcs⟩
  unfold getItem
  try with_reducible refine wpAny_holding ?_
  first | refine wpAny_bind (wpAny_pure ?_) | skip
  refine wpAny_bind (wpAny_sequenceKey ht.typeIs (by decide) ?_)
  refine wpAny_bind (wpAny_callSpecial?_slot (name := Str.ofString "__getitem__") ht.typeIs PyProof.Rows.slot_tuple_getitem
    (wpAny_call_entry PyProof.Rows.slot_tuple_getitem ht.typeIs entry_tuple_getitem ?_ (args_tuple_getitem _ _)))
  show wpAny _ _ (Builtin.Tuple.tupleItemsOf (.ref t) >>= _) _ _ s
  refine wpAny_bind (tupleItemsOf_ ht ?_)
  refine wpAny_bind (wpAny_typeOf hTs ?_)
  rw [if_pos (by decide)]
  refine wpAny_bind (sliceApplied_gen hs pl pu ?_)
  have hno : ¬ ((((sIx items.size 0 lo : Nat) : Int) == 0 && (1 : Int) == 1 && (sIx items.size items.size hi - sIx items.size 0 lo) == items.size) = true) := by
    intro q
    rw [Bool.and_eq_true, Bool.and_eq_true] at q
    have q1 : ((sIx items.size 0 lo : Nat) : Int) = 0 := eq_of_beq q.1.1
    have q2 : sIx items.size items.size hi - sIx items.size 0 lo = items.size := eq_of_beq q.2
    exact hw ⟨by omega, by omega⟩
  show wpAny _ _ (if (((sIx items.size 0 lo : Nat) : Int) == 0 && (1 : Int) == 1 && (sIx items.size items.size hi - sIx items.size 0 lo) == items.size) = true then _ else _) _ _ s
  rw [if_neg hno, pick_gen]
  first
    | exact wpAny_bind (m := Builtin.Tuple.tupleExact _) (wpAny_newObj_type (wpAny_pure ⟨_, rfl, wpAny_pure h⟩) htake)
    | exact wpAny_bind (m := Builtin.Tuple.tupleExact _) (wpAny_newObj_type (wpAny_bind (wpAny_pure (wpAny_pure ⟨_, rfl, wpAny_pure h⟩))) htake)
    | exact wpAny_bind (wpAny_bind (m := Builtin.Tuple.tupleExact _) (wpAny_newObj_type (wpAny_pure (wpAny_pure ⟨_, rfl, wpAny_pure h⟩)) htake))
    | exact wpAny_bind (wpAny_bind (m := Builtin.Tuple.tupleExact _) (wpAny_newObj_type (wpAny_pure ⟨_, rfl, wpAny_pure h⟩) htake))
end
end HT
namespace L2
open PySem PySem.Spec PyProof.Rows
abbrev TO := St → Hp → (Option Int → Hp → Prop) → Prop
def PO (X : Cx) (e : Option Expr) (t : TO) : Prop :=
  ∀ (pins : List (Addr × Obj)) (s : Shared) (σ : St) (H : Hp) (Q : Option Int → Hp → Prop), Inv X pins σ H s → t σ H Q →
    wpAny (model X.prog X.w) X.A (evalPart e X.env) (fun u s' => ∃ o H', Inv X pins σ H' s' ∧ IsPart u o ∧ Q o H') X.xe s
def tNoPart : TO := fun _ H Q => Q none H
def tPart (t : TE) : TO := fun σ H Q => t σ H fun x H1 => ∃ i, x = .int i ∧ Q (some i) H1
section
variable {X : Cx} {e : Expr} {te : TE} {lo hi : Option Expr} {tl th : TO} {pos p2 : Pos}
theorem po_none : PO X none tNoPart := by
  intro pins s σ H Q I h
  rw [evalPart_none]
  exact wpAny_pure ⟨none, H, I, .none, h⟩
theorem po_some (h : PE X e te) : PO X (some e) (tPart te) := by
  intro pins s σ H Q I hw
  rw [evalPart_some]
  refine thn (h pins s σ H _ I hw) fun u s1 ⟨x, H1, I1, r1, q1⟩ => ?_
  obtain ⟨i, rfl, q⟩ := q1
  obtain ⟨t, rfl⟩ := r1
  exact ⟨some i, H1, I1, .int i t, q⟩
def SlR (X : Cx) (r : V → Option Int → Option Int → Hp → VK → Prop) : Prop :=
  ∀ (pins : List (Addr × Obj)) (s : Shared) (σ : St) (H : Hp) (x : V) (v vl vu : Value) (lo hi : Option Int) (sl : Addr) (Q : VK), Inv X pins σ H s → RelV x v → s.heap.IsSliceOf sl vl vu .none → IsPart vl lo → IsPart vu hi → r x lo hi H Q →
    ∃ T id, typeLookup (.type T) "__getitem__" = pure (some (.builtin id)) ∧ s.TypeIs v T ∧ wpAny (model X.prog X.w) X.A (getItem v (.ref sl)) (EP X pins σ Q) X.xe s
theorem SlR.or {r r' : V → Option Int → Option Int → Hp → VK → Prop} (h : SlR X r) (h' : SlR X r') : SlR X (fun x lo hi H Q => r x lo hi H Q ∨ r' x lo hi H Q) := by
  intro pins s σ H x v vl vu lo hi sl Q I rx hs pl pu q
  rcases q with q | q
  · exact h pins s σ H x v vl vu lo hi sl Q I rx hs pl pu q
  · exact h' pins s σ H x v vl vu lo hi sl Q I rx hs pl pu q
def tSl (r : V → Option Int → Option Int → Hp → VK → Prop) (te : TE) (tl th : TO) : TE := fun σ H Q => te σ H fun x H1 => tl σ H1 fun l H2 => th σ H2 fun u H3 => r x l u H3 Q
theorem pe_slice {r : V → Option Int → Option Int → Hp → VK → Prop} (hr : SlR X r) (he : PE X e te) (hl : PO X lo tl) (hu : PO X hi th) : PE X (.Subscript e (.Slice lo hi none p2) pos) (tSl r te tl th) := by
  intro pins s σ H Q I h
  refine Subscript_ (thn (he pins s σ H _ I h) fun v s1 ⟨x, H1, I1, r1, q1⟩ => ?_)
  refine wpAny_Slice (thn (hl pins s1 σ H1 _ I1 q1) fun vl s2 ⟨l, H2, I2, pl, q2⟩ => thn (hu pins s2 σ H2 _ I2 q2) fun vu s3 ⟨u, H3, I3, pu, q3⟩ => ?_)
  rw [evalPart_none]
  refine wpAny_pure ?_
  have I4 : Inv X pins σ H3 { s3 with heap := s3.heap.push { cls := .type "slice", data := .fields #[vl, vu, .none] } } := I3.kept (t' := s3.toks) fun b ob q => Heap.get?_push_of_some _ q
  obtain ⟨T, id, hT, ht, hg⟩ := hr pins { s3 with heap := s3.heap.push { cls := .type "slice", data := .fields #[vl, vu, .none] } } σ H3 x v vl vu l u s3.heap.objs.size Q I4 r1 (Heap.IsSliceOf.new ..) pl pu q3
  show wpAny (model X.prog X.w) X.A (subscriptTail e (.Slice lo hi none p2) v (.ref s3.heap.objs.size)) (EP X pins σ Q) X.xe { s3 with heap := s3.heap.push { cls := .type "slice", data := .fields #[vl, vu, .none] } }
  exact tail_any (ops := [.ref s3.heap.objs.size, v]) ht hT hg (by with_unfolding_all rfl)
def cutV (xs : List V) (lo hi : Option Int) : List V := (xs.drop (HT.sIx xs.length 0 lo)).take (HT.sIx xs.length xs.length hi - HT.sIx xs.length 0 lo)
theorem cutV_length (xs : List V) (lo hi : Option Int) : (cutV xs lo hi).length ≤ xs.length := by
  unfold cutV
  rw [List.length_take, List.length_drop]
  omega
def rSlT (K : PySem.W.Frag) : V → Option Int → Option Int → Hp → VK → Prop := fun x lo hi H Q => ∃ a xs, x = .ref a ∧ SqT K H a xs ∧
  ¬ (HT.sIx xs.length 0 lo = 0 ∧ HT.sIx xs.length xs.length hi = xs.length) ∧ ∀ p, H p = none → Q (.ref p) (upd H p (.tup (cutV xs lo hi)))
theorem sl_tup : SlR X (rSlT X.K) := by
  intro pins s σ H x v vl vu lo hi sl Q I rx hs pl pu h
  obtain ⟨a, xs, rfl, hx, hw, q⟩ := h
  cases rx
  obtain ⟨its, r, ht, hz⟩ := I.tuple hx
  have hlen : its.toArray.size = xs.length := by rw [List.size_toArray]; exact r.length.symm
  refine ⟨"tuple", _, PyProof.Rows.slot_tuple_getitem.lookup, ht.typeIs, ?_⟩
  refine HT.getItem_tuple_cut ht hs pl pu (by rw [hlen]; exact hw) ?_ (by rw [hlen]; exact hz)
  rw [hlen]
  refine ⟨.ref s.heap.objs.size, _, I.laid (t' := s.toks) (o := .tup (cutV xs lo hi)) (fun b ob q => Heap.get?_push_of_some _ q) (Nat.le_refl _) ?_, rfl, q _ (I.hok.fresh (Nat.le_refl _))⟩
  exact ⟨Nat.le_trans (cutV_length xs lo hi) hz, _, (r.drop (HT.sIx xs.length 0 lo)).take (HT.sIx xs.length xs.length hi - HT.sIx xs.length 0 lo), IsTup.new _ _⟩
def rCatT (K : PySem.W.Frag) : R2 := fun x y H Q => ∃ a b xs ys, x = .ref a ∧ y = .ref b ∧ SqT K H a xs ∧ SqT K H b ys ∧ xs ≠ [] ∧ xs.length + ys.length ≤ sizeLine ∧
  (ys = [] → Q (.ref a) H) ∧ (ys ≠ [] → ∀ p, H p = none → Q (.ref p) (upd H p (.tup (xs ++ ys))))
theorem Vals.nil_iff {xs : List V} {us : List Value} (r : Vals xs us) : us = [] ↔ xs = [] := by
  cases r with
  | nil => simp
  | cons _ _ => simp
theorem op_catT : OpR X (binaryOp .Add) (rCatT X.K) := by
  intro pins s σ H x y v u Q I rx ry h
  obtain ⟨a, b, xs, ys, rfl, rfl, ha, hb, hx, hz, q1, q2⟩ := h
  cases rx
  cases ry
  obtain ⟨its, r1, p1, _⟩ := I.tuple ha
  obtain ⟨its2, r2, p2, _⟩ := I.tuple hb
  refine HT.cat_tup p1 p2 (fun z => hx (r1.nil_iff.mp z)) (fun z => ⟨.ref a, H, I, rfl, q1 (r2.nil_iff.mp z)⟩) (fun z => ?_) (by rw [← r1.length, ← r2.length]; exact hz)
  refine ⟨.ref s.heap.objs.size, _, I.laid (t' := s.toks) (o := .tup (xs ++ ys)) (fun b ob q => Heap.get?_push_of_some _ q) (Nat.le_refl _) ?_, rfl, q2 (fun w => z (r2.nil_iff.mpr w)) _ (I.hok.fresh (Nat.le_refl _))⟩
  exact ⟨by rw [List.length_append]; exact hz, _, r1.append r2, IsTup.new _ _⟩
end
end L2
namespace L2
open PySem PySem.Spec PyProof.Rows
def ixN (n : Nat) (i : Int) : Option Nat := if 0 ≤ i then (if i < n then some i.toNat else none) else if -(n : Int) ≤ i then some (i + n).toNat else none
def atI {α : Type} (xs : List α) (i : Int) : Option α := (ixN xs.length i).bind fun j => xs[j]?
theorem ixN_seq {n : Nat} {i : Int} {j : Nat} (h : ixN n i = some j) : seqIndex? i n = some j ∧ j < n ∧ -(n : Int) ≤ i ∧ i < n := by
  unfold ixN at h
  by_cases h0 : 0 ≤ i
  · rw [if_pos h0] at h
    by_cases h1 : i < n
    · rw [if_pos h1] at h
      have e : i.toNat = j := Option.some.inj h
      exact ⟨by rw [seqIndex_of h0 h1, e], by omega, by omega, h1⟩
    · rw [if_neg h1] at h; cases h
  · rw [if_neg h0] at h
    by_cases h1 : -(n : Int) ≤ i
    · rw [if_pos h1] at h
      have e : (i + n).toNat = j := Option.some.inj h
      exact ⟨by rw [seqIndex_neg (by omega) h1, e], by omega, h1, by omega⟩
    · rw [if_neg h1] at h; cases h
theorem atI_get {α : Type} {xs : List α} {i : Int} {v : α} (h : atI xs i = some v) : ∃ j, seqIndex? i xs.length = some j ∧ xs[j]? = some v ∧ j < xs.length ∧ -(xs.length : Int) ≤ i ∧ i < xs.length := by
  unfold atI at h
  cases e : ixN xs.length i with
  | none => rw [e] at h; cases h
  | some j =>
    rw [e] at h
    obtain ⟨h1, h2, h3, h4⟩ := ixN_seq e
    exact ⟨j, h1, h, h2, h3, h4⟩
theorem atI_nat {α : Type} {xs : List α} {j : Nat} {v : α} (h : xs[j]? = some v) : atI xs (j : Int) = some v := by
  have hj : j < xs.length := (List.getElem?_eq_some_iff.mp h).1
  have e : ixN xs.length (j : Int) = some j := by
    unfold ixN
    rw [if_pos (by omega), if_pos (by omega)]; simp
  unfold atI; rw [e]; exact h
def PlainIx (b : Expr) : Prop := ∀ o i, subscripted b false o i = operate [o, i] (getItem o i)
def IxR (X : Cx) (r : R2) : Prop :=
  ∀ (value slice : Expr) (pins : List (Addr × Obj)) (s : Shared) (σ : St) (H : Hp) (x y : V) (v u : Value) (Q : VK), Inv X pins σ H s → RelV x v → RelV y u → r x y H Q →
    subscripted slice false v u = operate [v, u] (getItem v u) → wpAny (model X.prog X.w) X.A (subscriptTail value slice v u) (EP X pins σ Q) X.xe s
def MtR (X : Cx) (id : String) (r : V → List V → Hp → VK → Prop) : Prop :=
  ∀ (pins : List (Addr × Obj)) (s : Shared) (σ : St) (H : Hp) (x : V) (xs : List V) (v : Value) (us : List Value) (Q : VK), Inv X pins σ H s → RelV x v → Vals xs us → r x xs H Q →
    wpAny (model X.prog X.w) X.A (call (.builtin id) (v :: us)) (EP X pins σ Q) X.xe s
section
variable {X : Cx} {a b : Expr} {ta tb : TE} {pos : Pos}
theorem IxR.or {r r' : R2} (h : IxR X r) (h' : IxR X r') : IxR X (fun x y H Q => r x y H Q ∨ r' x y H Q) := by
  intro value slice pins s σ H x y v u Q I rx ry q hs
  rcases q with q | q
  · exact h value slice pins s σ H x y v u Q I rx ry q hs
  · exact h' value slice pins s σ H x y v u Q I rx ry q hs
theorem pe_ix {r : R2} (hr : IxR X r) (ha : PE X a ta) (hb : PE X b tb) (hs : PlainIx b) : PE X (.Subscript a b pos) (tOp r ta tb) := by
  intro pins s σ H Q I h
  exact Subscript_ (binT ha hb I h fun v u s2 x y H2 I2 rx ry q => hr a b pins s2 σ H2 x y v u Q I2 rx ry q (hs _ _))
def rIxL (K : PySem.W.Frag) : R2 := fun x y H Q => ∃ p xs i v, x = .ref p ∧ y = .int i ∧ SqL K H p xs ∧ atI xs i = some v ∧ Q v H
def rIxT (K : PySem.W.Frag) : R2 := fun x y H Q => ∃ p xs i v, x = .ref p ∧ y = .int i ∧ SqT K H p xs ∧ atI xs i = some v ∧ Q v H
def rIxS : R2 := fun x y H Q => ∃ z i c, x = .str z ∧ y = .int i ∧ z.length ≤ sizeLine ∧ atI z.cps.toList i = some c ∧ Q (.str ⟨#[c]⟩) H
theorem ix_list : IxR X (rIxL X.K) := by
  intro value slice pins s σ H x y v u Q I rx ry h hs
  obtain ⟨p, xs, i, z, rfl, rfl, hq, he, q⟩ := h
  cases rx
  obtain ⟨t, rfl⟩ := ry
  obtain ⟨its, r, pl, hz⟩ := I.list hq
  obtain ⟨j, h1, h2, h3, h4, h5⟩ := atI_get he
  obtain ⟨w, ew, rw'⟩ := r.get h2
  have hl := r.length
  have hn := line63
  have fin : EP X pins σ Q w s := ⟨z, H, I, rw', q⟩
  by_cases h0 : 0 ≤ i
  · have hj : i.toNat = j := by
      rw [seqIndex_of h0 h5] at h1
      exact Option.some.inj h1
    exact item_listR pl.isList h0 (by omega) (by rw [hj]; simpa using ew) fin hs
  · have hj : (i + (its.toArray.size : Int)).toNat = j := by
      rw [seqIndex_neg (by omega) h4] at h1
      rw [List.size_toArray, ← hl]
      exact Option.some.inj h1
    exact subscriptTail_builtinR (x := w) pl.isList.typeIs slot_list_getitem.lookup
      (wpAny_getItem_list_neg (Q := fun r s' => r = w ∧ EP X pins σ Q r s') pl.isList (by omega) (by rw [List.size_toArray] <;> omega) (by omega) (by rw [hj]; simpa using ew) ⟨rfl, fin⟩) hs
theorem ix_tup : IxR X (rIxT X.K) := by
  intro value slice pins s σ H x y v u Q I rx ry h hs
  obtain ⟨p, xs, i, z, rfl, rfl, hq, he, q⟩ := h
  cases rx
  obtain ⟨t, rfl⟩ := ry
  obtain ⟨its, r, pl, hz⟩ := I.tuple hq
  obtain ⟨j, h1, h2, h3, h4, h5⟩ := atI_get he
  obtain ⟨w, ew, rw'⟩ := r.get h2
  have hl := r.length
  have hn := line63
  have fin : EP X pins σ Q w s := ⟨z, H, I, rw', q⟩
  exact subscriptTail_builtinR (x := w) pl.typeIs slot_tuple_getitem.lookup
    (getItem_tuple (j := j) (Q := fun r s' => r = w ∧ EP X pins σ Q r s') pl (by omega) (by omega) (by rw [List.size_toArray, ← hl]; exact h1) (by simpa using ew) ⟨rfl, fin⟩) hs
theorem ix_str : IxR X rIxS := by
  intro value slice pins s σ H x y v u Q I rx ry h hs
  obtain ⟨z, i, c, rfl, rfl, hz, he, q⟩ := h
  obtain ⟨t, rfl⟩ := rx
  obtain ⟨t', rfl⟩ := ry
  obtain ⟨j, h1, h2, h3, h4, h5⟩ := atI_get he
  have hl : z.cps.toList.length = z.length := by simp [Str.length]
  rw [hl] at h1 h4 h5
  have hn := line63
  exact tail_any (typeIs_str s z t) slot_str_getitem.lookup (getItem_str (c := c) (by
    have e1 : decide (i < -(2 ^ 63 : Int)) = false := decide_eq_false (by omega)
    have e2 : decide (i ≥ 2 ^ 63) = false := decide_eq_false (by omega)
    rw [e1, e2, Bool.or_false]) (by rw [h1]; simpa using h2) ⟨.str ⟨#[c]⟩, H, I.tok _, ⟨_, rfl⟩, q⟩) hs
theorem mapSeq_set (its : List Value) (n j : Nat) (u : Value) : Obj.mapSeq (·.setIfInBounds j u) { cls := .type "list", data := .seq its.toArray n } = { cls := .type "list", data := .seq (its.set j u).toArray n } := by
  simp [Obj.mapSeq]
theorem Inv.lst {pins : List (Addr × Obj)} {σ : St} {H : Hp} {s : Shared} {p : Addr} {xs : List V} (I : Inv X pins σ H s) (h : H p = some (.lst xs)) :
    ∃ (its : List Value) (n : Nat), Vals xs its ∧ s.heap.get? p = some { cls := .type "list", data := .seq its.toArray n } ∧ xs.length ≤ sizeLine := by
  obtain ⟨z, its, n, r, e⟩ := I.hok p _ h
  exact ⟨its, n, r, e, z⟩
theorem Inv.lstUpd {pins : List (Addr × Obj)} {σ : St} {H : Hp} {s : Shared} {p : Addr} {xs ys : List V} {its its' : List Value} {n n' : Nat} {f : Obj → Obj} (I : Inv X pins σ H s) (h : H p = some (.lst xs))
    (ho : s.heap.get? p = some { cls := .type "list", data := .seq its.toArray n }) (hf : f { cls := .type "list", data := .seq its.toArray n } = { cls := .type "list", data := .seq its'.toArray n' }) (r : Vals ys its') (hz : ys.length ≤ sizeLine) (t : Nat) :
    Inv X pins σ (upd H p (.lst ys)) { s with heap := s.heap.update p f, toks := t } := by
  have e : (s.heap.update p f).get? p = some { cls := .type "list", data := .seq its'.toArray n' } := by
    rw [Heap.get?_update_self f ho (by rw [hf] <;> rfl), hf]
  refine I.write (x := p) (e := p) (by rw [h]; trivial) (.inl rfl) (fun b u hb q => (Heap.get?_update_other _ _ (Ne.symm hb)).trans q) ⟨_, e⟩ ?_
  exact ⟨hz, its', n', r, e⟩
def rSetL : V → V → V → Hp → (Hp → Prop) → Prop := fun o i v H Q => ∃ p xs k j, o = .ref p ∧ i = .int k ∧ H p = some (.lst xs) ∧ ixN xs.length k = some j ∧ Q (upd H p (.lst (xs.set j v)))
theorem set_list : PSet X rSetL := by
  intro pins s σ H o i v ov iv u Q I ro ri rv h
  obtain ⟨p, xs, k, j, rfl, rfl, hp, hj, q⟩ := h
  cases ro
  obtain ⟨t, rfl⟩ := ri
  obtain ⟨its, n, r, ho, hz⟩ := I.lst hp
  obtain ⟨h1, h2, h3, h4⟩ := ixN_seq hj
  have hl := r.length
  have hn := line63
  have I' : Inv X pins σ (upd H p (.lst (xs.set j v))) { s with heap := s.heap.update p (Obj.mapSeq (·.setIfInBounds j u)) } :=
    I.lstUpd hp ho (mapSeq_set its n j u) (r.set rv j) (by rw [List.length_set]; exact hz) s.toks
  by_cases h0 : 0 ≤ k
  · have hk : k.toNat = j := by
      rw [seqIndex_of h0 h4] at h1
      exact Option.some.inj h1
    exact PySem.W.ki_setAt ho h0 (by omega) (by rw [List.size_toArray, ← hl]; exact h4) (by rw [hk]; exact ⟨_, I', q⟩)
  · have hk : (k + (its.toArray.size : Int)).toNat = j := by
      rw [seqIndex_neg (by omega) h3] at h1
      rw [List.size_toArray, ← hl]
      exact Option.some.inj h1
    exact PySem.W.ki_setBack ho (by omega) (by rw [List.size_toArray, ← hl]; exact h3) (by omega) (by rw [hk]; exact ⟨_, I', q⟩)
theorem slice_bounds (lo hi : Option Int) (n : Nat) : (sliceBounds lo hi none n).1 = ((HT.sIx n 0 lo : Nat) : Int) ∧ (sliceBounds lo hi none n).2.1 = ((HT.sIx n n hi : Nat) : Int) ∧ (sliceBounds lo hi none n).2.2 = 1 := by
  refine ⟨?_, ?_, rfl⟩
  · cases lo with
    | none => simp [sliceBounds, HT.sIx]
    | some i =>
      simp only [sliceBounds, HT.sIx, Option.getD_none, show (1 : Int) > 0 by decide, if_true]
      by_cases h : i < 0
      · simp only [h, if_true] <;> omega
      · simp only [h, if_false] <;> omega
  · cases hi with
    | none => simp [sliceBounds, HT.sIx]
    | some i =>
      simp only [sliceBounds, HT.sIx, Option.getD_none, show (1 : Int) > 0 by decide, if_true]
      by_cases h : i < 0
      · simp only [h, if_true] <;> omega
      · simp only [h, if_false] <;> omega
theorem slicePick_cut (its : List Value) (lo hi : Option Int) : slicePick its.toArray lo hi none = ((its.drop (HT.sIx its.length 0 lo)).take (HT.sIx its.length its.length hi - HT.sIx its.length 0 lo)).toArray := by
  obtain ⟨h1, h2, h3⟩ := slice_bounds lo hi its.toArray.size
  unfold slicePick
  rw [h1, h2, h3]
  simp only [sliceRange_one, pick_run, List.size_toArray] <;> rfl
def rSlL (K : PySem.W.Frag) : V → Option Int → Option Int → Hp → VK → Prop := fun x lo hi H Q => ∃ a xs, x = .ref a ∧ SqL K H a xs ∧ ∀ p, H p = none → Q (.ref p) (upd H p (.lst (cutV xs lo hi)))
theorem sl_list : SlR X (rSlL X.K) := by
  intro pins s σ H x v vl vu lo hi sl Q I rx hs pl pu h
  obtain ⟨a, xs, rfl, hx, q⟩ := h
  cases rx
  obtain ⟨its, r, ht, hz⟩ := I.list hx
  have hlen := r.length
  refine ⟨"list", _, slot_list_getitem.lookup, ht.isList.typeIs, ?_⟩
  refine wpAny_getItem_list_slice ht.isList hs pl pu .none (by simp) ?_ (by rw [List.size_toArray] <;> omega)
  rw [slicePick_cut, ← hlen]
  refine ⟨.ref s.heap.objs.size, _, I.laid (t' := s.toks) (o := .lst (cutV xs lo hi)) (fun b ob q => Heap.get?_push_of_some _ q) (Nat.le_refl _) ?_, rfl, q _ (I.hok.fresh (Nat.le_refl _))⟩
  exact ⟨Nat.le_trans (cutV_length xs lo hi) hz, _, 0, (r.drop (HT.sIx xs.length 0 lo)).take (HT.sIx xs.length xs.length hi - HT.sIx xs.length 0 lo), Heap.get?_push_size _ rfl⟩
theorem call_len_seq : CallR X (.builtin "len") (fun xs H Q => ∃ p ys, xs = [.ref p] ∧ (SqL X.K H p ys ∨ SqT X.K H p ys) ∧ Q (.int ys.length) H) := by
  intro pins s σ H xs us Q I r h
  obtain ⟨p, ys, rfl, hq, q⟩ := h
  obtain ⟨u, rfl, rx⟩ := vals1 r
  cases rx
  have hn := line63
  rcases hq with hq | hq
  · obtain ⟨its, r', pl, hz⟩ := I.list hq
    have hlen := r'.length
    exact Calls.call_len_list pl.isList (by simp only [List.size_toArray] <;> omega) ⟨.int ys.length, H, I.tok _, ⟨s.toks + 1, by rw [List.size_toArray, hlen]⟩, q⟩
  · obtain ⟨its, r', pl, hz⟩ := I.tuple hq
    have hlen := r'.length
    exact len_tuple pl (by simp only [List.size_toArray] <;> omega) ⟨.int ys.length, H, I.tok _, ⟨s.toks + 1, by rw [List.size_toArray, hlen]⟩, q⟩
theorem call_len_str : CallR X (.builtin "len") (fun xs H Q => ∃ z, xs = [.str z] ∧ z.length ≤ sizeLine ∧ Q (.int z.length) H) := by
  intro pins s σ H xs us Q I r h
  obtain ⟨z, rfl, hz, q⟩ := h
  obtain ⟨u, rfl, t, rfl⟩ := vals1 r
  have hn := line63
  exact len_str (by omega) ⟨.int z.length, H, I.tok _, ⟨_, rfl⟩, q⟩
theorem CallR.or {f : Value} {r r' : List V → Hp → VK → Prop} (h : CallR X f r) (h' : CallR X f r') : CallR X f (fun xs H Q => r xs H Q ∨ r' xs H Q) := by
  intro pins s σ H xs us Q I rs q
  rcases q with q | q
  · exact h pins s σ H xs us Q I rs q
  · exact h' pins s σ H xs us Q I rs q
theorem call_list_of : CallR X (.type "list") (fun xs H Q => ∃ p ys, xs = [.ref p] ∧ (SqL X.K H p ys ∨ SqT X.K H p ys) ∧ ∀ l, H l = none → Q (.ref l) (upd H l (.lst ys))) := by
  intro pins s σ H xs us Q I r h
  obtain ⟨p, ys, rfl, hq, q⟩ := h
  obtain ⟨u, rfl, rx⟩ := vals1 r
  cases rx
  have fin : ∀ (its : List Value), Vals ys its → ys.length ≤ sizeLine → ∀ (h' : Heap) (c' : Nat), (∀ b o', s.heap.get? b = some o' → h'.get? b = some o') →
      h'.get? s.heap.objs.size = some { cls := .type "list", dict := none, data := .seq its.toArray c', slots := #[] } → EP X pins σ Q (.ref s.heap.objs.size) { s with heap := h' } := fun its r' hz h' c' kp e =>
    ⟨.ref s.heap.objs.size, _, I.laid (t' := s.toks) kp (Nat.le_refl _) (show ObjOk X.prog X.w _ h' _ (.lst ys) from ⟨hz, its, c', r', e⟩), rfl, q _ (I.hok.fresh (Nat.le_refl _))⟩
  rcases hq with hq | hq
  · obtain ⟨its, r', pl, hz⟩ := I.list hq
    have hlen := r'.length
    obtain ⟨o, ho, hc, n, hd⟩ := pl.isList
    exact call_list_seq p (.inl rfl) ho hc hd (fun h' c' kp e => fin its r' hz h' c' kp e) (by simp only [List.size_toArray] <;> omega)
  · obtain ⟨its, r', pl, hz⟩ := I.tuple hq
    have hlen := r'.length
    obtain ⟨o, ho, hc, n, hd⟩ := pl
    exact call_list_seq p (.inr rfl) ho hc hd (fun h' c' kp e => fin its r' hz h' c' kp e) (by simp only [List.size_toArray] <;> omega)
theorem call_tuple_of : CallR X (.type "tuple") (fun xs H Q => ∃ p ys, xs = [.ref p] ∧ ((SqL X.K H p ys ∧ ∀ l, H l = none → Q (.ref l) (upd H l (.tup ys))) ∨ (SqT X.K H p ys ∧ Q (.ref p) H))) := by
  intro pins s σ H xs us Q I r h
  obtain ⟨p, ys, rfl, h⟩ := h
  obtain ⟨u, rfl, rx⟩ := vals1 r
  cases rx
  rcases h with ⟨hq, q⟩ | ⟨hq, q⟩
  · obtain ⟨its, r', pl, hz⟩ := I.list hq
    have hlen := r'.length
    refine call_tuple_list pl.isList (fun h' kp => ?_) (by simp only [List.size_toArray] <;> omega)
    have I1 : Inv X pins σ H { s with heap := h' } := I.kept (t' := s.toks) kp
    have I2 : Inv X pins σ (upd H h'.objs.size (.tup ys)) { s with heap := h'.push { cls := .type "tuple", data := .seq its.toArray } } :=
      I1.laid (t' := s.toks) (fun b o e => Heap.get?_push_of_some _ e) (Nat.le_refl _) (show ObjOk X.prog X.w _ _ _ (.tup ys) from ⟨hz, its, r', IsTup.new _ _⟩)
    exact ⟨.ref h'.objs.size, _, I2, rfl, q _ (I1.hok.fresh (Nat.le_refl _))⟩
  · obtain ⟨its, r', pl, hz⟩ := I.tuple hq
    exact call_tuple_same pl ⟨.ref p, H, I, rfl, q⟩
def tyV (K : PySem.W.Frag) (T : String) (x : V) (H : Hp) : Prop := match x with
  | .str _ => T = "str"
  | .int _ => T = "int"
  | .ref p => (T = "list" ∧ ∃ xs, SqL K H p xs) ∨ (T = "tuple" ∧ ∃ o, K.lookup p = some o ∧ o.cls = .type "tuple" ∧ o.dict = none) ∨
      (T = "dict" ∧ ((∃ kvs, H p = some (.dK kvs)) ∨ ∃ kvs, H p = some (.dT kvs))) ∨ (T = "set" ∧ ∃ S n, H p = some (.set S n))
  | _ => False
theorem tyV_is {pins : List (Addr × Obj)} {σ : St} {H : Hp} {s : Shared} {T : String} {x : V} {v : Value} (I : Inv X pins σ H s) (r : RelV x v) (ty : tyV X.K T x H) :
    s.TypeIs v T ∧ ∀ a, v = .ref a → ∃ ob, s.heap.get? a = some ob ∧ ob.dict = none := by
  cases x with
  | str z =>
    obtain ⟨t, rfl⟩ := r
    cases (show T = "str" from ty)
    exact ⟨typeIs_str s z t, fun _ e => nomatch e⟩
  | int i =>
    obtain ⟨t, rfl⟩ := r
    cases (show T = "int" from ty)
    exact ⟨typeIs_int s i t, fun _ e => nomatch e⟩
  | ref p =>
    cases r
    rcases ty with ⟨rfl, xs, hq⟩ | ⟨rfl, o, hk, hc, hd⟩ | ⟨rfl, hk⟩ | ⟨rfl, S, n, hk⟩
    · obtain ⟨its, _, pl, _⟩ := I.list hq
      refine ⟨pl.isList.typeIs, fun a e => ?_⟩
      cases e
      obtain ⟨o, n, e, c, hd, _⟩ := pl
      exact ⟨o, e, hd⟩
    · refine ⟨⟨o, I.kIn p o hk, hc⟩, fun a e => ?_⟩
      cases e
      exact ⟨o, I.kIn _ o hk, hd⟩
    · have z : ∃ o, s.heap.get? p = some o ∧ o.ExactDict := by
        rcases hk with ⟨kvs, hk⟩ | ⟨kvs, hk⟩
        · obtain ⟨_, _, _, _, o, _, _, e, ex, _⟩ := I.hok p _ hk
          exact ⟨o, e, ex⟩
        · obtain ⟨_, _, _, _, o, _, _, e, ex, _⟩ := I.hok p _ hk
          exact ⟨o, e, ex⟩
      obtain ⟨o, e, ex⟩ := z
      refine ⟨⟨o, e, ex.1⟩, fun a e2 => ?_⟩
      cases e2
      exact ⟨o, e, ex.2.1⟩
    · obtain ⟨o, _, _, _, e, ex, _⟩ := I.hok p _ hk
      refine ⟨⟨o, e, ex.1⟩, fun a e2 => ?_⟩
      cases e2
      exact ⟨o, e, ex.2.1⟩
  | _ => exact False.elim ty
def tBM (K : PySem.W.Frag) (T : String) (r : V → List V → Hp → VK → Prop) (to : TE) (t : TA) : TE := fun σ H Q => to σ H fun x H1 => tyV K T x H1 ∧ t σ H1 fun xs H2 => r x xs H2 Q
variable {o e : Expr} {es : List Expr} {to : TE} {t : TA} {name : Str} {apos cpos : Pos} {T id : String} {r : V → List V → Hp → VK → Prop}
theorem pe_bm (pa : PlainAttrs T) (slot : Slot T name id) (hty : typeOf (.builtin id) = pure (.type "method_descriptor")) (hm : MtR X id r) (ho : PE X o to) (ha : PA X (e :: es) t)
    (hbase : attributeBase o name X.env (eval o X.env) = eval o X.env := by rfl)
    (hfew : ((backTo cpos (starEach (e :: es) X.env)).all (fun x => !x.1) && (backToKw cpos (keywordEach [] X.env)).all (fun x => x.1.isSome)
      && decide ((e :: es).length + ([] : List Keyword).length + (if ([] : List Keyword).isEmpty then 0 else 1) < 30)) = true := by rfl)
    (hline : (apos.endLine == cpos.line) = true := by rfl) (hs : starEach (e :: es) X.env = (false, eval e X.env) :: starEach es X.env := by rfl) (hplain : (backTo cpos (starEach es X.env)).any (·.1) = false := by rfl) :
    PE X (.Call (.Attribute o name apos) (e :: es) [] cpos) (tBM X.K T r to t) := by
  intro pins s σ H Q I h
  refine wpAny_Call_method_late hbase hfew hline rfl (thn (ho pins s σ H _ I h) fun v s1 ⟨x, H1, I1, r1, ty, q1⟩ => ?_)
  obtain ⟨h1, h2⟩ := tyV_is I1 r1 ty
  refine ⟨T, id, pa, slot, hty, h1, h2, ?_⟩
  have hA := ha cpos pins s1 σ H1 _ I1 q1
  rw [hs] at hA ⊢
  refine Calls.callWith_builtin (by show (false || (backTo cpos (starEach es X.env)).any (·.1)) = false; rw [hplain] <;> rfl) (Calls.evalArgs_plain ?_)
  exact thn hA fun us s2 ⟨vs, H2, I2, r2, q2⟩ => hm pins s2 σ H2 x vs v us Q I2 r1 r2 q2
end
end L2
namespace L2
open PySem PySem.Spec PyProof.Rows
def MtM (X : Cx) (id : String) (r : V → List V → Hp → VK → Prop) : Prop :=
  ∀ (pins : List (Addr × Obj)) (s : Shared) (σ : St) (H : Hp) (x : V) (xs : List V) (v : Value) (us : List Value) (Q : VK), Inv X pins σ H s → RelV x v → Vals xs us → r x xs H Q →
    wpAny (model X.prog X.w) X.A (call (.builtin id) (v :: us)) (EP X pins σ Q) X.xe s
theorem Vals.one : ∀ {x : V} {us : List Value}, Vals [x] us → ∃ u, us = [u] ∧ RelV x u
  | _, _, .cons r .nil => ⟨_, rfl, r⟩
theorem Vals.rep {xs : List V} {us : List Value} (h : Vals xs us) : ∀ k : Nat, Vals (List.replicate k xs).flatten (List.replicate k us).flatten
  | 0 => .nil
  | k + 1 => by
    rw [List.replicate_succ, List.replicate_succ, List.flatten_cons, List.flatten_cons]
    exact Vals.append h (Vals.rep h k)
theorem foldl_rep (its : List Value) : ∀ (k : Nat) (acc : List Value),
    List.foldl (fun x1 x2 => x1 ++ x2) acc.toArray (List.replicate k its.toArray) = (acc ++ (List.replicate k its).flatten).toArray
  | 0, acc => by simp
  | k + 1, acc => by
    have e : acc.toArray ++ its.toArray = (acc ++ its).toArray := by simp
    have e2 : (acc ++ its) ++ (List.replicate k its).flatten = acc ++ (List.replicate (k + 1) its).flatten := by
      rw [List.replicate_succ, List.flatten_cons, List.append_assoc]
    rw [← e2, ← foldl_rep its k (acc ++ its), ← e, List.replicate_succ, List.foldl_cons]
section
variable {X : Cx} {pins : List (Addr × Obj)} {σ : St} {H : Hp} {s : Shared} {l b : Addr} {xs ys zs : List V}
theorem Inv.lset {its its' : List Value} {n : Nat} {f : Array Value → Array Value} {t' : Nat} (I : Inv X pins σ H s) (hH : H l = some (.lst xs))
    (e : s.heap.get? l = some { cls := .type "list", data := .seq its.toArray n }) (hf : f its.toArray = its'.toArray) (hv : Vals ys its') (hz : ys.length ≤ sizeLine) :
    Inv X pins σ (upd H l (.lst ys)) { s with heap := s.heap.update l (Obj.mapSeq f), toks := t' } := by
  have q := PySem.IsL.update e f
  rw [hf] at q
  refine I.write (x := l) (e := l) (by rw [hH]; exact trivial) (.inl rfl) (fun b' u hb hu => (Heap.get?_update_other s.heap (Obj.mapSeq f) (Ne.symm hb)).trans hu) ⟨_, q⟩ ?_
  exact ⟨hz, its', _, hv, q⟩
theorem Inv.lnew {its : List Value} {t' : Nat} (I : Inv X pins σ H s) (hv : Vals ys its) (hz : ys.length ≤ sizeLine) :
    Inv X pins σ (upd H s.heap.objs.size (.lst ys)) { s with heap := s.heap.push { cls := .type "list", data := .seq its.toArray }, toks := t' } :=
  I.laid (fun _ _ q => Heap.get?_push_of_some _ q) (Nat.le_refl _) ⟨hz, its, 0, hv, Heap.get?_push_size _ rfl⟩
theorem Inv.fresh (I : Inv X pins σ H s) : H s.heap.objs.size = none := I.hok.fresh (Nat.le_refl _)
theorem Inv.lstM (I : Inv X pins σ H s) (hH : H l = some (.lst xs)) : xs.length ≤ sizeLine ∧ ∃ (its : List Value) (n : Nat), Vals xs its ∧ xs.length = its.length ∧ s.heap.get? l = some { cls := .type "list", data := .seq its.toArray n } := by
  obtain ⟨z, its, n, r, e⟩ := I.hok l _ hH
  exact ⟨z, its, n, r, r.length, e⟩
theorem notLongL {n : Nat} (h : n ≤ sizeLine) : Builtin.List.listTooLong n = false := by
  unfold Builtin.List.listTooLong
  exact decide_eq_false (by omega)
end
section
variable {X : Cx}
def rAppend : V → List V → Hp → VK → Prop := fun x vs H Q => ∃ l xs y, x = .ref l ∧ vs = [y] ∧ H l = some (.lst xs) ∧ xs.length < sizeLine ∧ Q .non (upd H l (.lst (xs ++ [y])))
theorem mt_append : MtM X "list.append" rAppend := by
  intro pins s σ H x vs v us Q I rx rv h
  obtain ⟨l, xs, y, rfl, rfl, hH, hz, q⟩ := h
  cases rx
  obtain ⟨u, rfl, ru⟩ := rv.one
  obtain ⟨z, its, n, r, hl, e⟩ := I.lstM hH
  refine call_meets F.slot_list_append ⟨_, e, rfl⟩ F.entry_list_append (F.args_list_append_2 _ _) (PySem.list_append l its.toArray n u (by rw [List.size_toArray]; omega)) ⟨e, ?_⟩
  refine ⟨.non, _, I.lset (its' := its ++ [u]) hH e (by simp) (r.append (.cons ru .nil)) ?_, rfl, q⟩
  rw [List.length_append, List.length_singleton]
  omega
def rRep : R2 := fun x y H Q => ∃ l k xs, x = .ref l ∧ y = .int k ∧ H l = some (.lst xs) ∧ -(2 ^ 63) ≤ k ∧ k < 2 ^ 63 ∧ xs.length * k.toNat ≤ sizeLine ∧
  ∀ p, H p = none → Q (.ref p) (upd H p (.lst (List.replicate k.toNat xs).flatten))
theorem len_rep {α : Type} (xs : List α) (k : Nat) : (List.replicate k xs).flatten.length = k * xs.length := by
  induction k with
  | zero => simp
  | succ k ih => rw [List.replicate_succ, List.flatten_cons, List.length_append, ih, Nat.succ_mul, Nat.add_comm]
theorem op_rep : OpR X (binaryOp .Mult) rRep := by
  intro pins s σ H x y v u Q I rx ry h
  obtain ⟨l, k, xs, rfl, rfl, hH, h1, h2, hz, q⟩ := h
  cases rx
  obtain ⟨t, rfl⟩ := ry
  obtain ⟨z, its, n, r, hl, e⟩ := I.lstM hH
  have hlen : its.toArray.size * k.toNat ≤ sizeLine := by rw [List.size_toArray, ← hl]; exact hz
  have hcap : ¬ its.toArray.size * k.toNat > (2 ^ 63 - 1) / 8 := by
    have : (sizeLine : Nat) ≤ (2 ^ 63 - 1) / 8 := by decide
    omega
  have hfit : ¬ (!Builtin.List.listFitsIndex k) = true := by
    rw [fitsIndex_both h1 h2]
    exact Bool.false_ne_true
  have hlong : ¬ Builtin.List.listTooLong (its.toArray.size * k.toNat) = true := by
    rw [notLongL hlen]
    exact Bool.false_ne_true
  have hnew : List.foldl (fun x1 x2 => x1 ++ x2) #[] (List.replicate (if its.toArray.isEmpty = true then 0 else k.toNat) its.toArray) = (List.replicate k.toNat its).flatten.toArray := by
    have f0 : ∀ m : Nat, List.foldl (fun x1 x2 => x1 ++ x2) #[] (List.replicate m its.toArray) = (List.replicate m its).flatten.toArray := fun m => by
      have := foldl_rep its m []
      rw [List.nil_append] at this
      exact this
    rw [f0]
    cases its with
    | nil => simp
    | cons a r' => rw [if_neg (by simp)]
  refine wpAny_binaryOp_repeat_ref (T := "list") (U := "int") (by decide) ⟨_, e, rfl⟩ (fun s' => typeIs_int s' k t) noFill_list_mul F.fills_int_mul F.slot_int_rmul repeat_list F.slot_int_index.lookup
    (call_meets F.slot_int_rmul (typeIs_int s k t) F.entry_int_rmul (F.args_int_rmul_2 _ _) (int___rmul___int_list k t l its.toArray n)
      ⟨e, rfl, ⟨_, e, rfl⟩, call_meets F.slot_list_mul ⟨_, e, rfl⟩ F.entry_list_mul (F.args_list_mul_2 _ _) (AutoListH.list___mul___list_int_3 l its.toArray n k t hfit hcap hlong) ⟨e, ?_⟩⟩)
  rw [hnew]
  exact ⟨.ref _, _, I.lnew (t' := s.toks) (r.rep k.toNat) (by rw [len_rep, Nat.mul_comm]; exact hz), rfl, q _ I.fresh⟩
end
section
variable {prog : Program} {w : World} {A : Around} {E : Value → Shared → Prop} {s : Shared}
end
section
variable {X : Cx}
end
end L2
namespace Att
open PySem PySem.W PySem.Calls PyProof.Rows
theorem ints_of_wellAll {P : Params} {h : Heap} : ∀ (ns : List Int) (vs : List Value), WellAll P h vs (ns.map WData.int) → IntsAre vs ns := by
  intro ns
  induction ns with
  | nil =>
    intro vs w
    rw [List.map_nil] at w
    cases w
    exact .nil
  | cons n ns ih =>
    intro vs w
    rw [List.map_cons] at w
    cases w with
    | cons a b =>
      cases a
      exact .cons _ _ (ih _ b)
theorem script_of {l : OpenLaw} {n : Nat} (hn : l.most = some n) {P : Params} {h : Heap} {args : List WData} {vals : List Value}
    (hpre : l.row.toRowW.claim.pre args = true) (hwl : WellAll P h vals args) :
    ∃ a vs ns, vals = [Value.ref a] ∧ args = [WData.list (ns.map WData.int)] ∧ h.get? a = some { cls := .type "list", data := .seq vs.toArray } ∧ IntsAre vs ns ∧ ns.length ≤ n := by
  have hsh : WShape.hasAll [] args [.list .int] = true := (pre_splitW hpre).1
  have hc : l.pre.holds [] { args := args } = true := (pre_splitW hpre).2
  obtain ⟨d, r, rfl, h1, h2⟩ := hasAllW_cons hsh
  obtain rfl := hasAllW_nil h2
  obtain ⟨xs, rfl, h3⟩ := hasW_list h1
  obtain ⟨ns, rfl⟩ := items_int h3
  have hlen : ns.length ≤ n := by
    unfold OpenLaw.pre at hc
    have h4 : (WTm.not (.lt (.lit (.int (n : Int))) (.len (.arg 0)))).holds [] { args := [.list (ns.map .int)] } = true := by
      have h4 := (holds_andW hc).1
      rw [hn] at h4
      exact h4
    have h5 := condW_of h4 (w_not (w_lt w_lit (w_len_list (w_arg rfl))))
    rw [List.length_map] at h5
    refine Nat.le_of_not_lt fun q => ?_
    have q' : (n : Int) < ((ns.length : Nat) : Int) := by omega
    first
      | (rw [decide_eq_true q'] at h5; exact absurd h5 (by decide))
      | (simp at h5; omega)
  cases hwl with
  | cons w1 w2 =>
    cases w2
    cases w1 with
    | list ho hall => exact ⟨_, _, ns, rfl, rfl, ho, ints_of_wellAll ns _ hall, hlen⟩
theorem post_true (l : OpenLaw) (args : List WData) : l.row.toRowW.claim.post args (.bool true) args = true :=
  postW_of (r := l.row.toRowW) (X := (true == true))
    (show WShape.has [] (.bool true) .bool = true by first | rfl | decide | simp [WShape.has, WShape.arms, WShape.armsAll])
    (show (WTm.eq .res (.lit (.bool true))).value [] { args := args, res := some (.bool true), after := args } = some (.bool (true == true)) from w_eq_bool (w_res rfl) w_lit) rfl
theorem attach_call {l : OpenLaw} {n : Nat} {q : Program} {loose : List Str} {XP : (Str → Option Value) → Heap → Prop} {YP : World → Heap → Prop} {d : DefRec}
    (hn : l.most = some n) (hdf : d.params.defaults = [])
    (call : ∀ (w : World) (s₀ s₁ : Shared) (mg mb : Str → Option Value) (fa : Addr) (o : Obj) (pm cd doc : Value) (a : Addr) (vs : List Value) (ns : List Int),
      Ground q loose [] XP w s₀ mg mb s₁.heap → YP w s₁.heap →
      s₁.heap.get? fa = some o → o.data = .func (docDef d.name d.params d.body d.scope pm cd doc) → s₁.heap.CodeRec cd d.name → mg d.name = some (.ref fa) →
      s₁.heap.get? a = some { cls := .type "list", data := .seq vs.toArray } → IntsAre vs ns → ns.length ≤ n → s₁.gens = #[] →
      codeAny (model l.prog w) callerA (.call (.ref fa) ⟨[.ref a], []⟩) (fun r s' => r = .ok (.ret (.bool true)) ∧ OldK s₁.heap s'.heap ∧ s'.os = s₁.os ∧ AllBare s'.gens) s₁) :
    WalkO q loose XP YP l.row.toRowW d [] (fun f vs => PySem.call f vs) := by
  intro w s₀ s₁ mg mb G Y fa o pm cd doc dV kV ho hd hcd hD hmg hg args vals as hpre hlay hrd hwl hlo
  obtain rfl : dV = .none := Dflts.none hD hdf
  obtain rfl : kV = .none := Dflts.noKw hD
  obtain ⟨a, vs, ns, rfl, rfl, hobj, hints, hlen⟩ := script_of hn hpre hwl
  refine enter_call (codeAny_mono (call w s₀ s₁ mg mb fa o pm cd doc a vs ns G Y ho (fd_plain hd) hcd hmg hobj hints hlen hg) fun r s' hq => ?_)
  obtain ⟨rfl, h2, h3, h4⟩ := hq
  exact ⟨.inl ⟨.bool true, .bool true, [], rfl, fun _ => rfl, .bool true, post_true l _, fun _ => ⟨List.Pairwise.nil, fun _ hm => (nomatch hm)⟩⟩, h2, h3, h4⟩
section
variable {prog : Program} {w : World} {A : Around} {E : Value → Shared → Prop} {s : Shared} {K : Frag}
end
end Att
namespace L2
open PySem PySem.Spec PyProof.Rows
theorem vals_ints : ∀ {vs : List Value} {ns : List Int}, IntsAre vs ns → Vals (ns.map V.int) vs
  | _, _, .nil => .nil
  | _, _, .cons n t h => .cons ⟨t, rfl⟩ (vals_ints h)
def Only (H : Hp) : Prop := ∀ b, H b = none ∨ ∃ o xs, H b = some (.frz o (.lst xs))
theorem law_call {P : Program} {w : World} {K : PySem.W.Frag} {mg mb : Str → Option Value} {CX : CXT} {k : Nat} {fa a : Addr} {fd : FuncData} {x : Str} {sp : Sp} {s₁ : Shared} {vs : List Value} {ns : List Int}
    (KX : K.In s₁.heap) (hns : s₁.heap.Ns mainGlobals mg) (hb : s₁.heap.Ns builtinsNs mb) (hbb : ∀ x : Str, x ≠ "__name__" → mb x = bootBuiltins x) (hlim : s₁.heap.NoLimit) (hg : s₁.gens = #[])
    (ha : s₁.heap.get? a = some { cls := .type "list", data := .seq vs.toArray }) (hi : IntsAre vs ns) (hl : ns.length ≤ sizeLine) (hr : Room k callerA)
    (F : ∀ base : Heap, K.In base → base.Ns mainGlobals mg → FnOk P w K mg base CX k fa fd [x] sp) (hbind : ∀ (s : Shared) (u : Value), BindsTo s fd ⟨[u], []⟩ [(x, u)])
    (hsp : ∀ H : Hp, Only H → SqL K H a (ns.map V.int) → sp [.ref a] H (fun v _ => v = .bl true) fun _ _ _ => False)
    (hCX : ∀ H e s', CX [] H s₁ (fun _ _ _ => False) e s' → False) :
    codeAny (model P w) callerA (.call (.ref fa) ⟨[.ref a], []⟩) (fun r s' => r = .ok (.ret (.bool true)) ∧ OldK s₁.heap s'.heap ∧ s'.os = s₁.os ∧ AllBare s'.gens) s₁ := by
  have rv := vals_ints hi
  have lenV := hi.length
  -- from an abstract heap in which nothing but the script may be tracked
  have core : ∀ H : Hp, Only H → SqL K H a (ns.map V.int) → HOk P w H s₁.heap → (∀ b, H b ≠ none → b = a) → (H a ≠ none → K.lookup a = none) →
      codeAny (model P w) callerA (.call (.ref fa) ⟨[.ref a], []⟩) (fun r s' => r = .ok (.ret (.bool true)) ∧ OldK s₁.heap s'.heap ∧ s'.os = s₁.os ∧ AllBare s'.gens) s₁ := by
    intro H hO hS hok hA hK
    have base_of : ∀ {b : Addr} {o : Obj}, s₁.heap.get? b = some o → H b = none → (hidT s₁.heap H).get? b = some o := fun e n => hidT_get e n
    have noA : ∀ {b : Addr} {o : Obj} {es : Array DictEntry} {ep : Nat}, s₁.heap.get? b = some o → o.data = .dict es ep → H b = none := fun {b o es ep} e d => by
      cases q : H b with
      | none => rfl
      | some u =>
        have e' : b = a := hA b (by rw [q]; simp)
        subst e'
        rw [ha] at e; cases e
        have d' : Data.seq vs.toArray _ = Data.dict es ep := d
        cases d'
    have nsK : ∀ {b : Addr} {m : Str → Option Value}, s₁.heap.Ns b m → (hidT s₁.heap H).Ns b m := fun {b m} ⟨o, es, ep, e, d, r⟩ => ⟨o, es, ep, base_of e (noA e d), d, r⟩
    have hKb : K.In (hidT s₁.heap H) := fun b o e => base_of (KX b o e) (by
      cases q : H b with
      | none => rfl
      | some u =>
        have e' : b = a := hA b (by rw [q]; simp)
        subst e'
        rw [hK (by rw [q]; simp)] at e; cases e)
    have hM : Mod K mg (hidT s₁.heap H) := ⟨hKb, nsK hns, ⟨mb, nsK hb, hbb⟩, let ⟨mc, h1, h2⟩ := hlim; ⟨mc, nsK h1, h2⟩⟩
    have e0 : Env0 P w K mg (hidT s₁.heap H) callerA [] s₁ H := ⟨rfl, hM, fun b o e => of_hidT e, Nat.le_of_eq (hidT_size _ _), trivial, fun b hb => absurd (show b ∈ ([] : List Addr) from hb) (by simp), hok, .of_eq hg⟩
    refine codeAny_mono ((F _ hKb (nsK hns)).run callerA [] s₁ H ⟨[.ref a], []⟩ [.ref a] [.ref a] _ _ hr e0 (hbind s₁ (.ref a)) (.cons rfl .nil) (hsp H hO hS)) fun r s' h => ?_
    cases r with
    | error e => exact (hCX H e s' h).elim
    | ok fl =>
      cases fl with
      | next => exact False.elim h
      | brk => exact False.elim h
      | cont => exact False.elim h
      | ret u =>
        obtain ⟨v, H', os, bare, un, hok', r', q⟩ := h
        have q' : v = .bl true := q
        subst q'
        obtain rfl : u = Value.bool true := r'
        refine ⟨rfl, OldK.of_keep fun b o e => ?_, os, bare⟩
        cases q : H b with
        | none => exact un.keep b o e q (by intro z; exact absurd (show b ∈ ([] : List Addr) from z) (by simp)) (by simp)
        | some u =>
          rcases hO b with z | ⟨ob, xs, z⟩
          · rw [q] at z; cases z
          · have z2 := un.frzs b ob _ z
            obtain ⟨e1, _⟩ := hok b _ z
            obtain ⟨e2, _⟩ := hok' b _ z2
            rw [e] at e1; cases e1
            exact e2
  cases hk : K.lookup a with
  | some o =>
    -- the script is one of the module's own objects
    have e := KX a o hk
    rw [ha] at e
    cases e
    refine core (fun _ => none) (fun _ => .inl rfl) (.inr ⟨_, vs.toArray, _, hk, rfl, rfl, rfl, by rw [List.size_toArray, lenV]; exact hl, by simpa using rv⟩) (fun b u z => by have z' : (none : Option HO) = some u := z; cases z') (fun b z => absurd rfl z) fun z => absurd rfl z
  | none =>
    refine core (fun b => if b = a then some (.frz { cls := .type "list", data := .seq vs.toArray } (.lst (ns.map V.int))) else none) (fun b => ?_) (.inl (.inr ⟨{ cls := .type "list", data := .seq vs.toArray }, if_pos rfl⟩)) (fun b u z => ?_) (fun b z => ?_) fun _ => hk
    · by_cases hb : b = a
      · exact .inr ⟨_, _, if_pos hb⟩
      · exact .inl (if_neg hb)
    · by_cases hb : b = a
      · have z' := (if_pos hb).symm.trans z
        cases z'
        subst hb
        exact ⟨ha, by rw [List.length_map]; exact hl, vs, _, rv, ha⟩
      · have z' := (if_neg hb).symm.trans z
        cases z'
    · by_cases hb : b = a
      · exact hb
      · exact absurd (if_neg hb) z
end L2
namespace L2
open PySem PySem.Spec PyProof.Rows
theorem walk_of {l : PySem.W.OpenLaw} {n k : Nat} {q : Program} {loose : List Str} {XP : (Str → Option Value) → Heap → Prop} {YP : World → Heap → Prop} {d : DefRec} {K : Params → PySem.W.Frag} {CX : World → CXT} {sp : World → Sp} {x : Str}
    (hn : l.most = some n) (hn2 : n ≤ sizeLine) (hdf : d.params.defaults = []) (hr : Room k callerA)
    (hY : ∀ (w : World) (h : Heap), YP w h → (K w.params).In h)
    (F : ∀ (w : World) (mg : Str → Option Value) (fa : Addr) (h : Heap), (K w.params).In h → h.Ns mainGlobals mg → mg d.name = some (.ref fa) →
      ∃ fd : FuncData, (∀ (s : Shared) (u : Value), BindsTo s fd ⟨[u], []⟩ [(x, u)]) ∧
        ∀ base : Heap, (K w.params).In base → base.Ns mainGlobals mg → FnOk l.prog w (K w.params) mg base (CX w) k fa fd [x] (sp w))
    (hsp : ∀ (w : World) (H : Hp) (a : Addr) (ns : List Int), ns.length ≤ n → Only H → SqL (K w.params) H a (ns.map V.int) → sp w [.ref a] H (fun v _ => v = .bl true) fun _ _ _ => False)
    (hCX : ∀ (w : World) (H : Hp) (s : Shared) (e : Value) (s' : Shared), CX w [] H s (fun _ _ _ => False) e s' → False) :
    PySem.W.WalkO q loose XP YP l.row.toRowW d [] (fun f vs => PySem.call f vs) := by
  refine Att.attach_call hn hdf fun w s₀ s₁ mg mb fa o pm cd doc a vs ns G Y ho hd hcd hmg hobj hints hlen hg => ?_
  have KX := hY w _ Y
  obtain ⟨fd, hb, hF⟩ := F w mg fa _ KX G.T.g hmg
  exact law_call KX G.T.g G.T.b G.T.builtins G.T.nolimit hg hobj hints (Nat.le_trans hlen hn2) hr hF hb (fun H hO hS => hsp w H a ns hlen hO hS) fun H e s' => hCX w H s₁ e s'
end L2
namespace L2
open PySem PySem.Spec PyProof.Rows
def inClass (s : Stmt) (j : Nat) : Stmt := match s with
  | .ClassDef _ _ _ body _ _ _ _ _ _ _ => body.getD j (.Pass ⟨0, 0, 0, 0⟩)
  | _ => .Pass ⟨0, 0, 0, 0⟩
def defArgs (s : Stmt) : Arguments := match s with
  | .FunctionDef _ a _ _ _ _ _ _ _ _ => a
  | _ => { posonlyargs := [], args := [], vararg := none, kwonlyargs := [], kw_defaults := [], kwarg := none, defaults := [] }
def defBody (s : Stmt) : List Stmt := match s with
  | .FunctionDef _ _ b _ _ _ _ _ _ _ => b
  | _ => []
def defScope (s : Stmt) : Scope := match s with
  | .FunctionDef _ _ _ _ _ _ sc _ _ _ => sc
  | _ => { kind := .function, names := [], isGenerator := false, isCoroutine := false }
abbrev CX0 : CXT := fun _ _ _ _ _ _ => False
abbrev E0 : XK := fun _ _ _ => False
theorem pass0 {X : Cx} : Passes CX0 X E0 := fun _ _ _ _ _ _ _ h => h.elim
structure Fun (K : PySem.W.Frag) (x qual : Str) (st : Stmt) (f : Addr) (fd : FuncData) : Prop where
  ex : ∃ (oc : Value) (od : Option Addr) (kV doc pm : Value) (an : Option Addr) (cdv ct : Value) (osl : Array (Option Value)),
    fd = PySem.W.fnOf x qual (defArgs st) (defBody st) (defScope st) .none kV doc pm an cdv ct ∧ K.lookup f = some ⟨oc, od, .func fd, osl⟩ ∧ PySem.W.codeIn K cdv qual = true
  kp : PySem.W.keepIn K (.ref f) = true
section
variable {P : Program} {w : World} {K : PySem.W.Frag} {mg : Str → Option Value} {base : Heap}
theorem Fun.ok {x qual : Str} {st : Stmt} {f : Addr} {fd : FuncData} {N ps : List Str} {k : Nat} {sp : Sp} (F : Fun K x qual st f fd) (S : FnScope N ps (defScope st)) (len : ∀ vs H Q E, sp vs H Q E → vs.length = ps.length)
    (hbody : ∀ (cdv : Value) (A : Around) (outer : List Env) (s : Shared) (H : Hp) (vs : List V) (Q : VK) (E : XK), Room k (A.deeper (envOfC qual (defScope st) s.heap.objs.size f cdv)) → sp vs H Q E →
      ∃ t, PSs (cxOf CX0 P w K mg base N qual (defScope st) f cdv A outer s H E).nox (defBody st) t ∧ t { nx := fun _ H' => Q .non H', rt := Q } (start N vs) H) : FnOk P w K mg base CX0 (k + 1) f fd ps sp := by
  obtain ⟨oc, od, kV, doc, pm, an, cdv, ct, osl, rfl, lk, hcd⟩ := F.ex
  refine fn_of lk hcd S len fun A outer s H vs Q E hr hsp => ?_
  obtain ⟨t, h, q⟩ := hbody cdv A outer s H vs Q E hr hsp
  exact ⟨t, h.nox, q⟩
theorem Fun.binds {x qual : Str} {st : Stmt} {f : Addr} {fd : FuncData} {ps : List Str} (F : Fun K x qual st f fd)
    (h : ∀ (kV doc pm : Value) (an : Option Addr) (cdv ct : Value) (us : List Value), us.length = ps.length → bindArgs (PySem.W.fnOf x qual (defArgs st) (defBody st) (defScope st) .none kV doc pm an cdv ct) ⟨us, []⟩ = pure (ps.zip us)) : Binds K fd ps [] := by
  obtain ⟨oc, od, kV, doc, pm, an, cdv, ct, osl, rfl, lk, hcd⟩ := F.ex
  exact .all (h kV doc pm an cdv ct)
theorem fun_mk {x qual : Str} {st : Stmt} {f : Addr} {oc : Value} {od an : Option Addr} {osl : Array (Option Value)} {kV doc pm cdv ct : Value} (l : K.lookup f = some ⟨oc, od, .func (PySem.W.fnOf x qual (defArgs st) (defBody st) (defScope st) .none kV doc pm an cdv ct), osl⟩)
    (c : PySem.W.codeIn K cdv qual = true) (k : PySem.W.keepIn K (.ref f) = true) : Fun K x qual st f (PySem.W.fnOf x qual (defArgs st) (defBody st) (defScope st) .none kV doc pm an cdv ct) := ⟨⟨oc, od, kV, doc, pm, an, cdv, ct, osl, rfl, l, c⟩, k⟩
end
section
variable {X : Cx}
theorem pv (i : Nat) {x : Str} {pos : Pos} (hN : X.N[i]? = some x := by rfl) (hv : Vis X.env.scope x := by first | exact Or.inl rfl | exact Or.inr (Or.inl rfl) | exact Or.inr (Or.inr rfl)) (hd : (x == ("__debug__" : Str)) = false := by decide)
    (hcd : (x == ("__classdict__" : Str)) = false := by decide) : PE X (.Name x pos) (tVar i) := pe_var hN hv hd hcd
end
end L2
namespace L2
open PySem PySem.Spec PyProof.Rows
def S (l : List Nat) : Str := ⟨l.toArray⟩
theorem S_cps (l : List Nat) : (S l).cps.toList = l := rfl
theorem S_len (l : List Nat) : (S l).length = l.length := by simp [S, Str.length]
theorem S_app (a b : List Nat) : S a ++ S b = S (a ++ b) := by
  show (⟨a.toArray ++ b.toArray⟩ : Str) = ⟨(a ++ b).toArray⟩
  rw [List.append_toArray]
theorem S_inj {a b : List Nat} (h : S a = S b) : a = b := by
  have h' := congrArg (fun x : Str => x.cps.toList) h
  simpa [S] using h'
theorem S_iff {a b : List Nat} : V.str (S a) = V.str (S b) ↔ a = b := ⟨fun h => S_inj (V.str.inj h), fun h => by rw [h]⟩
theorem S_dec (a b : List Nat) : decide (V.str (S a) = V.str (S b)) = decide (a = b) := by
  by_cases h : a = b
  · rw [decide_eq_true h, decide_eq_true (S_iff.mpr h)]
  · rw [decide_eq_false h, decide_eq_false (fun z => h (S_iff.mp z))]
def cutN {α : Type} (xs : List α) (lo hi : Option Int) : List α := (xs.drop (HT.sIx xs.length 0 lo)).take (HT.sIx xs.length xs.length hi - HT.sIx xs.length 0 lo)
theorem cutN_length_le {α : Type} (xs : List α) (lo hi : Option Int) : (cutN xs lo hi).length ≤ xs.length := by
  unfold cutN
  rw [List.length_take, List.length_drop]
  omega
theorem cutV_cutN (xs : List V) (lo hi : Option Int) : cutV xs lo hi = cutN xs lo hi := rfl
theorem strIx (lo hi : Option Int) (n : Nat) : Builtin.Str.strSliceIndices lo hi 1 n = (List.range (HT.sIx n n hi - HT.sIx n 0 lo)).map (fun k => HT.sIx n 0 lo + k) := by
  have key : ∀ (o : Option Int) (d : Nat), d ≤ n → (match o with | none => (d : Int) | some i => max 0 (min (if i < 0 then i + (n : Int) else i) (n : Int))) = ((HT.sIx n d o : Nat) : Int) := by
    intro o d hd
    cases o with
    | none => rfl
    | some i =>
      show max 0 (min (if i < 0 then i + (n : Int) else i) (n : Int)) = _
      rw [← HT.clip_eq i n d]
      by_cases h : i < 0
      · rw [if_pos h, if_pos h]; omega
      · rw [if_neg h, if_neg h]; omega
  have k1 := key lo 0 (Nat.zero_le _)
  have k2 := key hi n (Nat.le_refl _)
  unfold Builtin.Str.strSliceIndices
  simp only [show (1 : Int) > 0 by decide, if_true]
  refine Eq.trans (congrArg (fun a => sliceRange a _ 1) k1) (Eq.trans (congrArg (fun b => sliceRange _ b 1) k2) ?_)
  unfold sliceRange
  simp only [show (1 : Int) > 0 by decide, if_true]
  generalize HT.sIx n 0 lo = a
  generalize HT.sIx n n hi = b
  have ec : (if (a : Int) < (b : Int) then ((b : Int) - (a : Int) + 1 - 1) / 1 else 0).toNat = b - a := by
    split <;> omega
  rw [ec]
  apply List.map_congr_left
  intro k _
  omega
theorem pick_drop {α : Type} (l : List α) (a m : Nat) : ((List.range m).map (fun k => a + k)).filterMap (fun i => l[i]?) = (l.drop a).take m := by
  induction m generalizing a with
  | zero => simp
  | succ m ih =>
    rw [List.range_succ_eq_map, List.map_cons, List.map_map, List.filterMap_cons]
    have e : ((fun k => a + k) ∘ Nat.succ) = fun k => (a + 1) + k := by funext k; simp; omega
    rw [e, ih (a + 1)]
    cases h : l[a + 0]? with
    | none =>
      have hl : l.length ≤ a := by simpa using List.getElem?_eq_none_iff.mp h
      rw [List.drop_eq_nil_of_le hl, List.drop_eq_nil_of_le (by omega)]; simp
    | some v =>
      have hl : a < l.length := by simpa using (List.getElem?_eq_some_iff.mp h).1
      have hv : l[a] = v := by simpa using (List.getElem?_eq_some_iff.mp h).2
      rw [List.drop_eq_getElem_cons hl, hv]; rfl
theorem slice_S (l : List Nat) (lo hi : Option Int) : Txt.slice (S l) lo hi = S (cutN l lo hi) := by
  have e1 : (Builtin.Str.strSliceIndices lo hi 1 (S l).length).filterMap ((S l).cps[·]?) = cutN l lo hi := by
    rw [strIx, S_len]
    have e : (fun i : Nat => (S l).cps[i]?) = fun i : Nat => l[i]? := by funext i; simp [S]
    rw [e]
    exact pick_drop l _ _
  unfold Txt.slice
  split
  · rename_i h
    have h2 : (Builtin.Str.strSliceIndices lo hi 1 (S l).length).length = (S l).length := by simpa using h
    rw [strIx, S_len, List.length_map, List.length_range] at h2
    have a0 := HT.sIx_le l.length 0 (Nat.zero_le _) lo
    have b0 := HT.sIx_le l.length l.length (Nat.le_refl _) hi
    unfold cutN
    by_cases hz : l.length = 0
    · have : l = [] := List.length_eq_zero_iff.mp hz
      subst this; simp
    · have ha : HT.sIx l.length 0 lo = 0 := by omega
      have hb : HT.sIx l.length l.length hi = l.length := by omega
      rw [ha, hb]
      simp
  · rw [e1]; rfl
theorem cutN_to {α : Type} (l : List α) (k : Nat) : cutN l none (some (k : Int)) = l.take k := by
  unfold cutN
  rw [HT.sIx_nat]
  show (l.drop 0).take (min k l.length - 0) = l.take k
  rw [List.drop_zero, Nat.sub_zero]
  by_cases h : k ≤ l.length
  · rw [Nat.min_eq_left h]
  · rw [Nat.min_eq_right (by omega), List.take_of_length_le (Nat.le_refl _), List.take_of_length_le (by omega)]
theorem cutN_from {α : Type} (l : List α) (k : Nat) : cutN l (some (k : Int)) none = l.drop k := by
  unfold cutN
  rw [HT.sIx_nat]
  show (l.drop (min k l.length)).take (l.length - min k l.length) = l.drop k
  by_cases h : k ≤ l.length
  · rw [Nat.min_eq_left h, List.take_of_length_le (by rw [List.length_drop]; exact Nat.le_refl _)]
  · rw [Nat.min_eq_right (by omega), Nat.sub_self, List.take_zero, List.drop_eq_nil_of_le (by omega)]
theorem cutN_both {α : Type} (l : List α) (i j : Nat) : cutN l (some (i : Int)) (some (j : Int)) = (l.drop i).take (j - i) := by
  unfold cutN
  rw [HT.sIx_nat, HT.sIx_nat]
  by_cases h : i ≤ l.length
  · rw [Nat.min_eq_left h]
    by_cases h2 : j ≤ l.length
    · rw [Nat.min_eq_left h2]
    · rw [Nat.min_eq_right (by omega), List.take_of_length_le (by rw [List.length_drop]; omega), List.take_of_length_le (by rw [List.length_drop]; omega)]
  · have e : min i l.length = l.length := Nat.min_eq_right (by omega)
    rw [e, List.drop_eq_nil_of_le (Nat.le_refl _), List.drop_eq_nil_of_le (by omega), List.take_nil, List.take_nil]
section
variable {X : Cx}
def rSlS : V → Option Int → Option Int → Hp → VK → Prop := fun x lo hi H Q => ∃ l, x = .str (S l) ∧ l.length ≤ sizeLine ∧ Q (.str (S (cutN l lo hi))) H
theorem sl_str : SlR X rSlS := by
  intro pins s σ H x v vl vu lo hi sl Q I rx hs pl pu h
  obtain ⟨l, rfl, hz, q⟩ := h
  obtain ⟨t, rfl⟩ := rx
  refine ⟨"str", _, slot_str_getitem.lookup, typeIs_str s _ t, ?_⟩
  obtain ⟨l', hl', el⟩ : ∃ l' : Option (Int × Tok), vl = partValue l' ∧ l'.map (·.1) = lo := by
    cases pl with
    | none => exact ⟨none, rfl, rfl⟩
    | int i t => exact ⟨some (i, t), rfl, rfl⟩
  obtain ⟨u', hu', eu⟩ : ∃ l' : Option (Int × Tok), vu = partValue l' ∧ l'.map (·.1) = hi := by
    cases pu with
    | none => exact ⟨none, rfl, rfl⟩
    | int i t => exact ⟨some (i, t), rfl, rfl⟩
  subst hl' hu'
  refine wpAny_getItem_str_slice (l := l') (u := u') (st := none) hs rfl ?_
  have hm : ∀ t' k, EP X pins σ Q (.str (Txt.slice (S l) lo hi) t') { s with toks := k } := fun t' k => ⟨.str (S (cutN l lo hi)), H, I.tok _, ⟨t', by rw [slice_S]⟩, q⟩
  have hlen : (Txt.slice (S l) lo hi).length ≤ sizeLine := Nat.le_trans (Txt.slice_le _ _ _) (by rw [S_len]; exact hz)
  subst el eu
  exact post_val_or_str ⟨hlen, hm⟩
def repN {α : Type} (l : List α) (n : Int) : List α := (List.replicate n.toNat l).flatten
theorem foldl_app (k : Nat) (l acc : List Nat) : (List.replicate k l.toArray).foldl (· ++ ·) acc.toArray = (acc ++ (List.replicate k l).flatten).toArray := by
  induction k generalizing acc with
  | zero => simp
  | succ k ih =>
    rw [List.replicate_succ, List.foldl_cons, List.append_toArray, ih (acc ++ l), List.replicate_succ, List.flatten_cons, List.append_assoc]
theorem mul_S (l : List Nat) (n : Int) : Txt.mul (S l) n = S (repN l n) := by
  unfold Txt.mul repN
  by_cases h : n < 1
  · rw [if_pos h]
    have : n.toNat = 0 := by omega
    rw [this]; rfl
  · rw [if_neg h]
    split
    · rename_i h2
      rw [S_len] at h2
      simp only [Bool.or_eq_true, beq_iff_eq] at h2
      rcases h2 with h2 | h2
      · subst h2; simp [S]
      · have : l = [] := List.length_eq_zero_iff.mp h2
        subst this; simp [S]
    · have e := foldl_app n.toNat l []
      show (⟨_⟩ : Str) = _
      have e' : (List.replicate n.toNat (S l).cps).foldl (· ++ ·) #[] = ((List.replicate n.toNat l).flatten).toArray := by
        simpa [S] using e
      rw [e']; rfl
theorem repN_length {α : Type} (l : List α) (n : Int) : (repN l n).length = n.toNat * l.length := by
  unfold repN
  rw [List.length_flatten, List.map_replicate, List.sum_replicate_nat]
theorem op_rep_str : OpR X (binaryOp .Mult) (fun x y H Q => ∃ l n, x = .str (S l) ∧ y = .int n ∧ -1000000 ≤ n ∧ n ≤ 1000000 ∧ n.toNat * l.length ≤ sizeLine ∧ Q (.str (S (repN l n))) H) := by
  intro pins s σ H x y v u Q I rx ry h
  obtain ⟨l, n, rfl, rfl, h1, h2, hz, q⟩ := h
  obtain ⟨t, rfl⟩ := rx
  obtain ⟨t', rfl⟩ := ry
  have hs : sizeLine = 16777216 := sizeLine_eq
  have hz' : n.toNat * l.length ≤ 16777216 := by rw [← hs]; exact hz
  refine SB.mul ⟨?_, fun hn hc => ?_, fun hn hc => ?_⟩ fun t' k => ⟨.str (S (repN l n)), H, I.tok _, ⟨t', by rw [mul_S]⟩, q⟩
  · rw [decide_eq_false (by omega), decide_eq_false (by omega)]; rfl
  · rw [S_len]
    intro hgt
    have hl : l.length ≤ 16777216 := by
      have : 1 * l.length ≤ n.toNat * l.length := Nat.mul_le_mul_right _ (by omega)
      omega
    have hdiv : (2 ^ 63 - 1 : Int) / 1000000 ≤ (2 ^ 63 - 1) / n := by
      apply Int.le_ediv_of_mul_le (by omega)
      have := Int.mul_le_mul_of_nonneg_left h2 (show (0 : Int) ≤ (2 ^ 63 - 1) / 1000000 by decide)
      have e2 : ((2 ^ 63 - 1 : Int) / 1000000) * 1000000 ≤ 2 ^ 63 - 1 := by decide
      omega
    have e3 : (2 ^ 63 - 1 : Int) / 1000000 = 9223372036854 := by decide
    omega
  · rw [S_len]
    have : l.length * n.toNat ≤ 16777216 := by rw [Nat.mul_comm]; exact hz'
    exact decide_eq_false (by omega)
theorem op_le_str : OpR X (compareOp .LtE) (fun x y H Q => ∃ i j, x = .str i ∧ y = .str j ∧ Q (.bl (!decide (j.cps.toList < i.cps.toList))) H) := by
  intro pins s σ H x y v u Q I rx ry h
  obtain ⟨i, j, rfl, rfl, q⟩ := h
  obtain ⟨t, rfl⟩ := rx
  obtain ⟨t', rfl⟩ := ry
  exact PySem.P.le_str ⟨.bl _, H, I, rfl, q⟩
end
end L2
namespace L2
open PySem PySem.Spec PyProof.Rows
def Its (xs : List V) : It := ⟨fun i _ => i < xs.length, fun i H x H' => H' = H ∧ xs[i]? = some x, fun i _ => xs.length = i⟩
theorem go_scalar {M : Model} {A : Around} {E : Value → Shared → Prop} {s : Shared} {tg : Expr} {it : Addr} {u : Value} {Q : Unit → Shared → Prop} (hu : ∀ a, u ≠ .ref a) (hQ : Q () s) : wpAny M A (letOwnedTupleGo tg (.ref it) u) Q E s := by
  unfold letOwnedTupleGo
  cases tg <;> first
    | exact wpAny_pure hQ
    | (cases u <;> first
        | exact wpAny_pure hQ
        | exact absurd rfl (hu _))
theorem turn_walk {P : Program} {w : World} {K : PySem.W.Frag} {tg : Expr} {it : Addr} {xs : List V} {n : Nat} {Pt : Nat → Value → Prop} {St : Nat → Heap → Prop}
    (W : ∀ A : Around, A.handled = none → Walks P w A it [it] [it] n Pt St) (hn : xs.length = n)
    (hv : ∀ i v, i < n → Pt i v → ∃ x, xs[i]? = some x ∧ RelV x v) (hsc : ∀ i v, Pt i v → ∀ a, v ≠ .ref a)
    (hobj : ∀ i h, St i h → ∃ o, h.get? it = some o ∧ ∀ v, o.data ≠ .cell v)
    (hfr : ∀ i h h', St i h → (∀ b ∈ [it], ∀ o, h.get? b = some o → h'.get? b = some o) → St i h')
    (hself : ∀ (A : Around) (i : Nat) (s : Shared) (Q : Value → Shared → Prop) (E : Value → Shared → Prop), St i s.heap → Q (.ref it) s → wpAny (model P w) A (pyIter (.ref it)) Q E s) :
    Turn P w K tg (Its xs) [it] it St where
  mem := by simp
  obj := fun i h st b hb => by
    have e : b = it := by simpa using hb
    subst e
    exact hobj i h st
  keep := fun i h h' st k => hfr i h h' st k
  item := by
    intro X hP hw hK hc i pins s σ H E I hf st hg
    subst hP hw hK
    obtain ⟨f0, f1, f2, f3, f4, f5⟩ := hf it (by simp)
    refine (W X.A (I.ok.hd hc)).item i s _ _ (by rw [← hn]; exact hg) st fun v h' tk hp st' kk => ?_
    obtain ⟨x, hx, rx⟩ := hv i v (by rw [← hn]; exact hg) hp
    have I1 : Inv X pins σ H { s with heap := h', toks := tk } := I.turned (fun b o hb e => kk b o (by simpa using hb) e) f0 f1 f3 f4 f5
    exact ⟨v, rfl, go_scalar (s := { s with heap := h', toks := tk }) (hsc i v hp) ⟨x, H, I1, rx, ⟨rfl, hx⟩, st', fun b hb => (hf b hb).1⟩⟩
  done := by
    intro X hP hw hK hc i pins s σ H E I hf st hg
    subst hP hw hK
    obtain ⟨f0, f1, f2, f3, f4, f5⟩ := hf it (by simp)
    have e : n = i := hn.symm.trans hg
    subst e
    exact (W X.A (I.ok.hd hc)).done s _ _ st fun h' tk kk => ⟨rfl, I.turned (fun b o hb e => kk b o (by simpa using hb) e) f0 f1 f3 f4 f5⟩
  self := hself
section
variable {X : Cx} {tg : Expr}
def signs1 (l : List Nat) : List V := l.map fun c => V.str (S [c])
theorem signs1_get {l : List Nat} {i : Nat} {x : V} (h : (signs1 l)[i]? = some x) : ∃ c, l[i]? = some c ∧ x = .str (S [c]) := by
  unfold signs1 at h
  rw [List.getElem?_map] at h
  cases e : l[i]? with
  | none => rw [e] at h; cases h
  | some c => rw [e] at h; exact ⟨c, rfl, (Option.some.inj h).symm⟩
theorem signs1_len (l : List Nat) : (signs1 l).length = l.length := List.length_map _
end
end L2
namespace L2
open PySem PySem.Spec PyProof.Rows
section
variable {X : Cx}
theorem call_isinst : CallR X (.builtin "isinstance") (fun xs H Q => ∃ x n t b, xs = [x, .ty n] ∧ TyOf X.K H x t ∧ PySem.W.kitOne X.K t (.type n) = some b ∧ Q (.bl b) H) := by
  intro pins s σ H xs us Q I r h
  obtain ⟨x, n, t, b, rfl, ty, e, q⟩ := h
  obtain ⟨u, w', rfl, rx, ry⟩ := vals2 r
  cases (show w' = Value.type n from ry)
  exact isinst_ok I rx ty e fun tk => ⟨.bl b, H, I.tok _, rfl, q⟩
mutual
inductive DV (K : PySem.W.Frag) (H : Hp) : V → PyData → Prop
  | non : DV K H .non .none
  | bl (b : Bool) : DV K H (.bl b) (.bool b)
  | int (i : Int) : DV K H (.int i) (.int i)
  | str (x : Str) : DV K H (.str x) (.str x)
  | lst {a : Addr} {xs : List V} {ds : List PyData} : SqL K H a xs → DVs K H xs ds → DV K H (.ref a) (.list ds)
  | tup {a : Addr} {xs : List V} {ds : List PyData} : SqT K H a xs → DVs K H xs ds → DV K H (.ref a) (.tuple ds)
inductive DVs (K : PySem.W.Frag) (H : Hp) : List V → List PyData → Prop
  | nil : DVs K H [] []
  | cons {x : V} {d : PyData} {xs : List V} {ds : List PyData} : DV K H x d → DVs K H xs ds → DVs K H (x :: xs) (d :: ds)
end
mutual
theorem DV.reads {pins : List (Addr × Obj)} {σ : St} {H : Hp} {s : Shared} (I : Inv X pins σ H s) : ∀ {x : V} {d : PyData} {u : Value}, DV X.K H x d → RelV x u → ∃ as, Reads s.heap u d as
  | _, _, u, .non, r => by cases (show u = Value.none from r); exact ⟨_, .none⟩
  | _, _, u, .bl b, r => by cases (show u = Value.bool b from r); exact ⟨_, .bool b⟩
  | _, _, u, .int i, r => by obtain ⟨t, e⟩ := (show ∃ t, u = Value.int i t from r); subst e; exact ⟨_, .int i t⟩
  | _, _, u, .str x, r => by obtain ⟨t, e⟩ := (show ∃ t, u = Value.str x t from r); subst e; exact ⟨_, .str x t⟩
  | _, _, u, .lst (a := a) hq hs, r => by
    cases (show u = Value.ref a from r)
    obtain ⟨its, rv, pl, _⟩ := I.list hq
    obtain ⟨o, ho, hc, n, hd⟩ := pl.isList
    obtain ⟨as, ra⟩ := DVs.reads I hs rv
    exact ⟨_, .list ho hc hd ra⟩
  | _, _, u, .tup (a := a) hq hs, r => by
    cases (show u = Value.ref a from r)
    obtain ⟨its, rv, pl, _⟩ := I.tuple hq
    obtain ⟨o, ho, hc, n, hd⟩ := pl
    obtain ⟨as, ra⟩ := DVs.reads I hs rv
    exact ⟨_, .tuple ho hc hd ra⟩
theorem DVs.reads {pins : List (Addr × Obj)} {σ : St} {H : Hp} {s : Shared} (I : Inv X pins σ H s) : ∀ {xs : List V} {ds : List PyData} {us : List Value}, DVs X.K H xs ds → Vals xs us → ∃ as, ReadsAll s.heap us ds as
  | _, _, _, .nil, .nil => ⟨_, .nil⟩
  | _, _, _, .cons h hs, .cons r rs => by
    obtain ⟨as, ra⟩ := DV.reads I h r
    obtain ⟨bs, rb⟩ := DVs.reads I hs rs
    exact ⟨_, .cons ra rb⟩
end
def rEqD (K : PySem.W.Frag) (neg : Bool) : R2 := fun x y H Q => ∃ da db, DV K H x da ∧ DV K H y db ∧ SeqAt.shaped da = true ∧ SeqAt.shaped db = true ∧ Q (.bl (if neg then !PyData.eqv da db else PyData.eqv da db)) H
theorem op_eqD (hu : X.A.units + 64 < cLine) : OpR X (compareOp .Eq) (rEqD X.K false) := by
  intro pins s σ H x y v u Q I rx ry h
  obtain ⟨da, db, ha, hb, sa, sb, q⟩ := h
  obtain ⟨as, ra⟩ := DV.reads I ha rx
  obtain ⟨bs, rb⟩ := DV.reads I hb ry
  exact eq_dataH ra rb sa sb hu ⟨.bl _, H, I, rfl, q⟩
theorem op_neD (hu : X.A.units + 64 < cLine) : OpR X (compareOp .NotEq) (rEqD X.K true) := by
  intro pins s σ H x y v u Q I rx ry h
  obtain ⟨da, db, ha, hb, sa, sb, q⟩ := h
  obtain ⟨as, ra⟩ := DV.reads I ha rx
  obtain ⟨bs, rb⟩ := DV.reads I hb ry
  exact ne_dataH ra rb sa sb hu ⟨.bl _, H, I, rfl, q⟩
theorem DVs.ints {K : PySem.W.Frag} {H : Hp} : ∀ ns : List Int, DVs K H (ns.map V.int) (ns.map PyData.int)
  | [] => .nil
  | n :: ns => .cons (.int n) (DVs.ints ns)
end
end L2
namespace L2
open PySem PySem.Spec PyProof.Rows
section
variable {X : Cx} {a b : Expr} {ta tb : TE} {pos : Pos}
theorem pe_strS {x : Str} {l : List Nat} {j : Nat} (h : x = S l) : PE X (.Constant (.str x) j pos) (tC (.str (S l))) := by
  subst h
  exact pe_str
theorem call_lenS : CallR X (.builtin "len") (fun xs H Q => ∃ l, xs = [.str (S l)] ∧ l.length ≤ sizeLine ∧ Q (.int l.length) H) := by
  intro pins s σ H xs us Q I r h
  obtain ⟨l, rfl, hz, q⟩ := h
  exact call_len_str pins s σ H _ us Q I r ⟨S l, rfl, by rw [S_len]; exact hz, by rw [S_len]; exact q⟩
def rIxS' : R2 := fun x y H Q => ∃ l i c, x = .str (S l) ∧ y = .int i ∧ l.length ≤ sizeLine ∧ atI l i = some c ∧ Q (.str (S [c])) H
theorem ix_strS : IxR X rIxS' := by
  intro value slice pins s σ H x y v u Q I rx ry q hs
  obtain ⟨l, i, c, rfl, rfl, hz, ha, q⟩ := q
  exact ix_str value slice pins s σ H _ _ v u Q I rx ry ⟨S l, i, c, rfl, rfl, by rw [S_len]; exact hz, ha, q⟩ hs
theorem op_addS : OpR X (binaryOp .Add) (fun x y H Q => ∃ i j, x = .str (S i) ∧ y = .str (S j) ∧ i.length + j.length ≤ sizeLine ∧ Q (.str (S (i ++ j))) H) := by
  intro pins s σ H x y v u Q I rx ry h
  obtain ⟨i, j, rfl, rfl, hz, q⟩ := h
  exact op_add_str pins s σ H _ _ v u Q I rx ry ⟨S i, S j, rfl, rfl, by rw [S_len, S_len]; exact hz, by rw [S_app]; exact q⟩
theorem op_eqS : OpR X (compareOp .Eq) (fun x y H Q => ∃ i j, x = .str (S i) ∧ y = .str (S j) ∧ Q (.bl (decide (i = j))) H) := by
  intro pins s σ H x y v u Q I rx ry h
  obtain ⟨i, j, rfl, rfl, q⟩ := h
  exact op_eq pins s σ H _ _ v u Q I rx ry ⟨rfl, by rw [S_dec]; exact q⟩
theorem op_neS : OpR X (compareOp .NotEq) (fun x y H Q => ∃ i j, x = .str (S i) ∧ y = .str (S j) ∧ Q (.bl (!decide (i = j))) H) := by
  intro pins s σ H x y v u Q I rx ry h
  obtain ⟨i, j, rfl, rfl, q⟩ := h
  exact op_ne pins s σ H _ _ v u Q I rx ry ⟨rfl, by rw [S_dec]; exact q⟩
theorem op_eqI : OpR X (compareOp .Eq) (rI0 fun i j => .bl (decide (i = j))) := opB0 fun _ _ _ _ _ _ _ q => eq_int (by rw [Bool.beq_eq_decide_eq]; exact q)
theorem op_neI : OpR X (compareOp .NotEq) (rI0 fun i j => .bl (!decide (i = j))) := opB0 fun _ _ _ _ _ _ _ q => ne_int (by rw [bne, Bool.beq_eq_decide_eq]; exact q)
theorem call_lenL : CallR X (.builtin "len") (fun xs H Q => ∃ p ys, xs = [.ref p] ∧ SqL X.K H p ys ∧ Q (.int ys.length) H) := by
  intro pins s σ H xs us Q I r h
  obtain ⟨p, ys, e, hq, q⟩ := h
  exact call_len_seq pins s σ H xs us Q I r ⟨p, ys, e, .inl hq, q⟩
theorem call_lenT : CallR X (.builtin "len") (fun xs H Q => ∃ p ys, xs = [.ref p] ∧ SqT X.K H p ys ∧ Q (.int ys.length) H) := by
  intro pins s σ H xs us Q I r h
  obtain ⟨p, ys, e, hq, q⟩ := h
  exact call_len_seq pins s σ H xs us Q I r ⟨p, ys, e, .inr hq, q⟩
end
structure Cal (P : Program) (w : World) (K : PySem.W.Frag) (mg : Str → Option Value) (base : Heap) (k : Nat) (x : Str) (ps : List Str) (sp : Sp) : Prop where
  ex : ∃ (f : Addr) (fd : FuncData), FnOk P w K mg base CX0 k f fd ps sp ∧ Binds K fd ps [] ∧ PySem.W.keepIn K (.ref f) = true ∧ mg x = some (.ref f) ∧ ∃ oc od osl, K.lookup f = some ⟨oc, od, .func fd, osl⟩
structure DefAt (K : PySem.W.Frag) (mg : Str → Option Value) (x : Str) (st : Stmt) : Prop where
  ex : ∃ (f : Addr) (fd : FuncData), Fun K x x st f fd ∧ mg x = some (.ref f)
section
variable {P : Program} {w : World} {K : PySem.W.Frag} {mg : Str → Option Value} {base : Heap} {x : Str} {st : Stmt} {N ps : List Str} {k : Nat} {sp : Sp}
theorem DefAt.ok (D : DefAt K mg x st) (S : FnScope N ps (defScope st))
    (hb : ∀ (kV doc pm : Value) (an : Option Addr) (cdv ct : Value) (us : List Value), us.length = ps.length → bindArgs (PySem.W.fnOf x x (defArgs st) (defBody st) (defScope st) .none kV doc pm an cdv ct) ⟨us, []⟩ = pure (ps.zip us))
    (len : ∀ vs H Q E, sp vs H Q E → vs.length = ps.length)
    (hbody : ∀ (f : Addr) (cdv : Value) (A : Around) (outer : List Env) (s : Shared) (H : Hp) (vs : List V) (Q : VK) (E : XK), Room k (A.deeper (envOfC x (defScope st) s.heap.objs.size f cdv)) → sp vs H Q E →
      ∃ t, PSs (cxOf CX0 P w K mg base N x (defScope st) f cdv A outer s H E).nox (defBody st) t ∧ t { nx := fun _ H' => Q .non H', rt := Q } (start N vs) H) : Cal P w K mg base (k + 1) x ps sp := by
  obtain ⟨f, fd, F, hm⟩ := D.ex
  have lk : ∃ oc od osl, K.lookup f = some ⟨oc, od, .func fd, osl⟩ := by
    obtain ⟨oc, od, kV, doc, pm, an, cdv, ct, osl, rfl, lk, hcd⟩ := F.ex
    exact ⟨oc, od, osl, lk⟩
  exact ⟨f, fd, F.ok S len fun cdv A outer s H vs Q E hr h => hbody f cdv A outer s H vs Q E hr h, F.binds hb, F.kp, hm, lk⟩
theorem DefAt.mk' {K : PySem.W.Frag} {h : Heap} {mg : Str → Option Value} {x : Str} {st : Stmt} {f : Addr} {oc : Value} {od an : Option Addr} {osl : Array (Option Value)} {kV doc pm cdv ct : Value} (X : K.In h) (G : h.Ns mainGlobals mg)
    (a : PySem.W.nsIn K mainGlobals x = some (some (.ref f))) (l : K.lookup f = some ⟨oc, od, .func (PySem.W.fnOf x x (defArgs st) (defBody st) (defScope st) .none kV doc pm an cdv ct), osl⟩)
    (c : PySem.W.codeIn K cdv x = true) (k : PySem.W.keepIn K (.ref f) = true) : DefAt K mg x st := ⟨f, _, fun_mk (st := st) l c k, PySem.W.mg_of X G a⟩
end
section
variable {X : Cx} {k : Nat} {x : Str} {ps : List Str} {sp : Sp} {p pos : Pos} {e : Expr} {es : List Expr} {t : TA}
theorem pe_cal (C : Cal X.prog X.w X.K X.mg X.base k x ps sp) (hr : Room k X.A) (ha : PA X (e :: es) t) (hg : Gl X x := by rfl) (hdb : (x == ("__debug__" : Str)) = false := by decide) (he : starEach (e :: es) X.env = (false, eval e X.env) :: starEach es X.env := by rfl)
    (hpl : (backTo pos (starEach es X.env)).any (·.1) = false := by rfl) : PE X (.Call (.Name x p) (e :: es) [] pos) (tCall sp [] E0 t) := by
  obtain ⟨f, fd, F, hb, hk, hm, _⟩ := C.ex
  exact pe_call F hr hg hm hk hb .nil pass0 ha hdb he hpl
end
def spLaw (K : PySem.W.Frag) : Sp := fun vs H Q _ => ∃ (a : Addr) (ns : List Int), vs = [.ref a] ∧ SqL K H a (ns.map V.int) ∧ ns.length ≤ 63 ∧ ∀ H', Q (.bl true) H'
theorem law_at {P : Program} {w : World} {K : PySem.W.Frag} {mg : Str → Option Value} {fa : Addr} {st : Stmt} {k : Nat} {x : Str} (hfa : mg "law" = some (.ref fa)) (D : DefAt K mg "law" st)
    (hbind : ∀ (kV doc pm : Value) (an : Option Addr) (cdv ct : Value) (s : Shared) (v : Value), BindsTo s (PySem.W.fnOf "law" "law" (defArgs st) (defBody st) (defScope st) .none kV doc pm an cdv ct) ⟨[v], []⟩ [(x, v)])
    (h : ∀ base : Heap, Cal P w K mg base k "law" [x] (spLaw K)) :
    ∃ fd : FuncData, (∀ (s : Shared) (v : Value), BindsTo s fd ⟨[v], []⟩ [(x, v)]) ∧ ∀ base : Heap, K.In base → base.Ns mainGlobals mg → FnOk P w K mg base CX0 k fa fd [x] (spLaw K) := by
  obtain ⟨f, fd, F, hm⟩ := D.ex
  have e := hfa.symm.trans hm
  cases e
  obtain ⟨oc, od, kV, doc, pm, an, cdv, ct, osl, rfl, lk, hcd⟩ := F.ex
  refine ⟨_, fun s v => hbind kV doc pm an cdv ct s v, fun base kb nb => ?_⟩
  obtain ⟨f', fd', F', _, _, hm', oc', od', osl', lk'⟩ := (h base).ex
  have e := hfa.symm.trans hm'
  cases e
  rw [lk] at lk'
  cases lk'
  exact F'
theorem walk63 {l : PySem.W.OpenLaw} {q : Program} {loose : List Str} {XP : (Str → Option Value) → Heap → Prop} {YP : World → Heap → Prop} {d : DefRec} {K : Params → PySem.W.Frag} {k : Nat} {x : Str} (hn : l.most = some 63) (hdf : d.params.defaults = []) (hr : Room k callerA)
    (hY : ∀ (w : World) (h : Heap), YP w h → (K w.params).In h)
    (F : ∀ (w : World) (mg : Str → Option Value) (fa : Addr) (h : Heap), (K w.params).In h → h.Ns mainGlobals mg → mg d.name = some (.ref fa) →
      ∃ fd : FuncData, (∀ (s : Shared) (u : Value), BindsTo s fd ⟨[u], []⟩ [(x, u)]) ∧ ∀ base : Heap, (K w.params).In base → base.Ns mainGlobals mg → FnOk l.prog w (K w.params) mg base CX0 k fa fd [x] (spLaw (K w.params))) :
    PySem.W.WalkO q loose XP YP l.row.toRowW d [] (fun f vs => PySem.call f vs) :=
  walk_of (n := 63) (k := k) (x := x) (CX := fun _ => CX0) (sp := fun w => spLaw (K w.params)) hn (by decide) hdf hr hY F (fun _ _ a ns hl _ hS => ⟨a, ns, rfl, hS, hl, fun _ => rfl⟩) fun _ _ _ _ _ z => z
end L2
namespace L2
open PySem PySem.Spec PyProof.Rows
theorem atI_map {α β : Type} {f : α → β} {xs : List α} {i : Int} {v : α} (h : atI xs i = some v) : atI (xs.map f) i = some (f v) := by
  unfold atI at h ⊢
  rw [List.length_map]
  cases e : ixN xs.length i with
  | none => rw [e] at h; cases h
  | some j =>
    rw [e] at h
    show (xs.map f)[j]? = some (f v)
    have h' : xs[j]? = some v := h
    rw [List.getElem?_map, h']; rfl
theorem atI_of {α : Type} {xs : List α} {i : Int} {j : Nat} {v : α} (h : xs[j]? = some v) (e : i = (j : Int)) : atI xs i = some v := by subst e; exact atI_nat h
theorem sz (n : Nat) (h : n ≤ 1000000) : n ≤ sizeLine := by rw [sizeLine_eq]; omega
theorem ints_get {ns : List Int} {i : Nat} {x : V} (h : (ns.map V.int)[i]? = some x) : ∃ z, ns[i]? = some z ∧ x = .int z := by
  rw [List.getElem?_map] at h
  cases e : ns[i]? with
  | none => rw [e] at h; cases h
  | some z => rw [e] at h; exact ⟨z, rfl, (Option.some.inj h).symm⟩
end L2
namespace L2
open PySem PySem.Spec PyProof.Rows
section
variable {X : Cx} {st : Stmt} {t : TS}
def tJoin (t : TS) : TS := fun D σ H => ∃ J : St → Hp → Prop, t { D with nx := J } σ H ∧ ∀ σ' H', J σ' H' → D.nx σ' H'
theorem ps_join (h : PS X st t) : PS X st (tJoin t) := by
  intro pins s σ H D I q
  obtain ⟨J, q1, q2⟩ := q
  refine thn (h pins s σ H _ I q1) fun f s' r => ?_
  cases f with
  | next => obtain ⟨σ', H', I', r'⟩ := r; exact ⟨σ', H', I', q2 σ' H' r'⟩
  | brk => exact r
  | cont => exact r
  | ret u => exact r
end
theorem cutN_map {α β : Type} (f : α → β) (xs : List α) (lo hi : Option Int) : cutN (xs.map f) lo hi = (cutN xs lo hi).map f := by
  unfold cutN
  rw [List.length_map, List.map_take, List.map_drop]
theorem cutN_toI {α : Type} (l : List α) {k : Int} (h : 0 ≤ k) : cutN l none (some k) = l.take k.toNat := by
  have e : k = ((k.toNat : Nat) : Int) := by omega
  rw [e, cutN_to]; rfl
end L2
namespace L2
open PySem PySem.Spec PyProof.Rows
section
variable {prog : Program} {w : World} {A : Around} {E : Value → Shared → Prop} {s : Shared} {r : Addr} {a b c : Int} {t u v : Tok} {n : Nat}
end
end L2
namespace L2
open PySem PySem.Spec PyProof.Rows
theorem cellsFrom_cases {x : Str} {c : Addr} : ∀ (names : List (Str × NameKind)) (n : Nat) (acc : List (Str × Addr)), (cellsFrom n names acc).lookup x = some c → (n ≤ c ∧ (x, NameKind.cell) ∈ names) ∨ acc.lookup x = some c
  | [], n, acc, h => .inr h
  | (y, k) :: r, n, acc, h => by
    unfold cellsFrom at h
    split at h
    · rename_i hk
      have hk' : k = .cell := by simpa using hk
      subst hk'
      rcases cellsFrom_cases r (n + 1) ((y, n) :: acc) h with ⟨h1, h2⟩ | h1
      · exact .inl ⟨by omega, List.mem_cons_of_mem _ h2⟩
      · rw [List.lookup_cons] at h1
        cases e : x == y with
        | true =>
          rw [e] at h1
          have : n = c := Option.some.inj h1
          have ex : x = y := by simpa using e
          subst ex
          exact .inl ⟨by omega, List.mem_cons_self⟩
        | false => rw [e] at h1; exact .inr h1
    · rcases cellsFrom_cases r n acc h with ⟨h1, h2⟩ | h1
      · exact .inl ⟨h1, List.mem_cons_of_mem _ h2⟩
      · exact .inr h1
theorem cellsFrom_acc {x : Str} : ∀ (names : List (Str × NameKind)) (n : Nat) (acc : List (Str × Addr)), (x, NameKind.cell) ∉ names → (cellsFrom n names acc).lookup x = acc.lookup x
  | [], _, _, _ => rfl
  | (y, k) :: r, n, acc, h => by
    unfold cellsFrom
    split
    · rename_i hk
      have hk' : k = .cell := by simpa using hk
      subst hk'
      rw [cellsFrom_acc r (n + 1) _ (fun z => h (List.mem_cons_of_mem _ z)), List.lookup_cons]
      have : (x == y) = false := by
        rw [beq_eq_false_iff_ne]
        intro e; subst e; exact h List.mem_cons_self
      rw [this]
    · exact cellsFrom_acc r n acc (fun z => h (List.mem_cons_of_mem _ z))
theorem cellsFrom_inj {x y : Str} {c : Addr} : ∀ (names : List (Str × NameKind)) (n : Nat) (acc : List (Str × Addr)), (∀ z d, acc.lookup z = some d → d < n) →
    (cellsFrom n names acc).lookup x = some c → (cellsFrom n names acc).lookup y = some c → n ≤ c → x = y
  | [], n, acc, ha, h1, h2, hc => absurd (ha x c h1) (Nat.not_lt.mpr hc)
  | (z, k) :: r, n, acc, ha, h1, h2, hc => by
    unfold cellsFrom at h1 h2
    split at h1
    · rename_i hk
      rw [if_pos hk] at h2
      have ha' : ∀ w d, ((z, n) :: acc).lookup w = some d → d < n + 1 := fun w d e => by
        rw [List.lookup_cons] at e
        cases q : w == z with
        | true => rw [q] at e; cases e; exact Nat.lt_succ_self _
        | false => rw [q] at e; exact Nat.lt_succ_of_lt (ha w d e)
      by_cases hcn : n + 1 ≤ c
      · exact cellsFrom_inj r (n + 1) _ ha' h1 h2 hcn
      · have e : c = n := Nat.le_antisymm (Nat.not_lt.mp hcn) hc
        subst e
        have key : ∀ w : Str, (cellsFrom (c + 1) r ((z, c) :: acc)).lookup w = some c → w = z := fun w hw => by
          rcases cellsFrom_cases r (c + 1) _ hw with ⟨q, _⟩ | q
          · exact absurd q (Nat.not_succ_le_self _)
          · rw [List.lookup_cons] at q
            cases q2 : w == z with
            | true => simpa using q2
            | false => rw [q2] at q; exact absurd (ha w c q) (Nat.lt_irrefl _)
        rw [key x h1, key y h2]
    · rename_i hk
      rw [if_neg hk] at h2
      exact cellsFrom_inj r n acc ha h1 h2 hc
def closL (env : Env) : List (Str × NameKind) → List (Str × Addr) → List (Str × Addr)
  | [], acc => acc
  | (n, k) :: r, acc => if (k == .free) = true then closL env r ((n, (env.cells.lookup n).getD 0) :: acc) else closL env r acc
theorem closL_cases {env : Env} {x : Str} {c : Addr} : ∀ (names : List (Str × NameKind)) (acc : List (Str × Addr)), (closL env names acc).lookup x = some c → ((x, NameKind.free) ∈ names ∧ c = (env.cells.lookup x).getD 0) ∨ acc.lookup x = some c
  | [], acc, h => .inr h
  | (y, k) :: r, acc, h => by
    unfold closL at h
    split at h
    · rename_i hk
      have hk' : k = .free := by simpa using hk
      subst hk'
      rcases closL_cases r _ h with ⟨h1, h2⟩ | h1
      · exact .inl ⟨List.mem_cons_of_mem _ h1, h2⟩
      · rw [List.lookup_cons] at h1
        cases e : x == y with
        | true =>
          rw [e] at h1
          have ex : x = y := by simpa using e
          subst ex
          exact .inl ⟨List.mem_cons_self, (Option.some.inj h1).symm⟩
        | false => rw [e] at h1; exact .inr h1
    · rcases closL_cases r acc h with ⟨h1, h2⟩ | h1
      · exact .inl ⟨List.mem_cons_of_mem _ h1, h2⟩
      · exact .inr h1
theorem closL_has {env : Env} {x : Str} : ∀ (names : List (Str × NameKind)) (acc : List (Str × Addr)), ((x, NameKind.free) ∈ names ∨ (acc.lookup x).isSome = true) → ((closL env names acc).lookup x).isSome = true
  | [], acc, h => h.elim (fun z => nomatch z) id
  | (y, k) :: r, acc, h => by
    unfold closL
    split
    · rename_i hk
      refine closL_has r _ ?_
      by_cases e : (x == y) = true
      · exact .inr (by rw [List.lookup_cons, e]; rfl)
      · rcases h with h | h
        · rcases List.mem_cons.mp h with z | z
          · cases z; exact absurd (by simp) e
          · exact .inl z
        · exact .inr (by rw [List.lookup_cons]; rw [Bool.not_eq_true] at e; rw [e]; exact h)
    · rename_i hk
      refine closL_has r acc ?_
      rcases h with h | h
      · rcases List.mem_cons.mp h with z | z
        · cases z; exact absurd rfl hk
        · exact .inl z
      · exact .inr h
theorem closureFor_closL {scope : Scope} {env : Env} (h : ∀ x ∈ scope.names, x.2 = .free → ∃ c, env.cells.lookup x.1 = some c) : closureFor scope env = pure (closL env scope.names []) := by
  unfold closureFor
  have key : ∀ (names : List (Str × NameKind)) (acc : List (Str × Addr)), (∀ x ∈ names, x.2 = .free → ∃ c, env.cells.lookup x.1 = some c) →
      (forIn names acc fun (x : Str × NameKind) (r : List (Str × Addr)) => (if (x.2 == NameKind.free) = true then do let y ← cellOf env x.1; pure (ForInStep.yield ((x.1, y) :: r)) else pure (ForInStep.yield r) : Sem _)) = pure (closL env names acc) := by
    intro names
    induction names with
    | nil => intro acc _; rfl
    | cons p r ih =>
      intro acc hp
      obtain ⟨n, k⟩ := p
      rw [List.forIn_cons]
      have hr : ∀ x ∈ r, x.2 = .free → ∃ c, env.cells.lookup x.1 = some c := fun x hx => hp x (List.mem_cons_of_mem _ hx)
      unfold closL
      by_cases hk : (k == NameKind.free) = true
      · obtain ⟨c, hc⟩ := hp (n, k) List.mem_cons_self (by simpa using hk)
        have hc' : env.cells.lookup n = some c := hc
        have e1 : cellOf env n = pure c := by unfold cellOf; rw [hc']
        simp only [hk, if_true]
        rw [e1, hc']
        simp only [pure_bind]
        exact ih _ hr
      · rw [if_neg hk, if_neg hk]
        simp only [pure_bind]
        exact ih _ hr
  have e := key scope.names [] h
  have e2 : ∀ (m : Sem (List (Str × Addr))), (m >>= fun r => pure r) = m := fun m => bind_pure m
  rw [← e]
  first
    | rfl
    | exact (e2 _)
end L2
namespace L2
open PySem PySem.Spec PyProof.Rows
def compEnv (scope : Scope) (C : Addr) (env : Env) : Env :=
  { scope := relabel scope env, locals := C, globals := env.globals, cells := cellsFrom (C + 1) scope.names (closL env scope.names []), qual := env.qual, func := none, code := env.code, frame := env.frame, builtins := env.builtins }
def compCx (X : Cx) (N' : List Str) (scope : Scope) (s : Shared) (H : Hp) (fp : List Addr) (pins : List (Addr × Obj)) : Cx :=
  { X with N := N', s₀ := s, H₀ := H, env := compEnv scope s.heap.objs.size X.env, outer := X.stack, stack := X.stack, ex := fp, fn := fun x => decide ((x, NameKind.cell) ∈ scope.names), pn := X.pn ++ pins, xe := fun _ _ => False }
def compChk (sc0 : Scope) (N : List Str) (scope : Scope) (N' : List Str) (ix : List (Option Nat)) : Bool :=
  decide (scope.kind = .function) && scope.names.all (fun y => (!decide (y.2 = .local) || decide (scope.names.lookup y.1 = some .local)) &&
    (!decide (y.2 = .free) || ((decide (sc0.names.lookup y.1 = some .cell) || decide (sc0.names.lookup y.1 = some .free)) && !decide ((y.1, NameKind.cell) ∈ scope.names)))) &&
  decide (N'.length = ix.length) && (N'.zip ix).all (fun p => match p.2 with | none => true | some j => decide (N[j]? = some p.1) && decide (scope.names.lookup p.1 = some .free))
structure CompOk (env : Env) (N : List Str) (scope : Scope) (N' : List Str) (ix : List (Option Nat)) : Prop where
  kind : scope.kind = .function
  loc : ∀ y ∈ scope.names, y.2 = .local → scope.names.lookup y.1 = some .local
  free : ∀ y ∈ scope.names, y.2 = .free → (env.kindOf y.1 = some .cell ∨ env.kindOf y.1 = some .free) ∧ (y.1, NameKind.cell) ∉ scope.names
  len : N'.length = ix.length
  slot : ∀ (i : Nat) (x : Str) (j : Nat), N'[i]? = some x → ix[i]? = some (some j) → N[j]? = some x ∧ scope.names.lookup x = some .free
theorem compOk_of {env : Env} {N : List Str} {scope : Scope} {N' : List Str} {ix : List (Option Nat)} (h : compChk env.scope N scope N' ix = true) : CompOk env N scope N' ix := by
  unfold compChk at h
  simp only [Bool.and_eq_true, decide_eq_true_eq, List.all_eq_true] at h
  obtain ⟨⟨⟨h1, h2⟩, h3⟩, h4⟩ := h
  refine ⟨h1, fun y hy e => ?_, fun y hy e => ?_, h3, fun i x j e1 e2 => ?_⟩
  · have := (h2 y hy).1
    rw [e] at this
    simpa using this
  · have := (h2 y hy).2
    rw [e] at this
    simpa [Env.kindOf] using this
  · have hm : (x, some j) ∈ N'.zip ix := by
      refine List.mem_of_getElem? (i := i) ?_
      rw [List.getElem?_zip_eq_some]
      exact ⟨e1, e2⟩
    have := h4 _ hm
    simpa using this
def rlf (env : Env) (p : Str × NameKind) : Str × NameKind := match p with | (n, k) => if (k == NameKind.free && env.scope.kind == .function && env.kindOf n == some .cell) then (n, .cell) else (n, k)
theorem rlf_fst (env : Env) (n : Str) (k : NameKind) : ∃ k', rlf env (n, k) = (n, k') ∧ (k' = k ∨ (k = .free ∧ k' = .cell)) := by
  unfold rlf
  by_cases c : (k == NameKind.free && env.scope.kind == .function && env.kindOf n == some .cell) = true
  · refine ⟨.cell, if_pos c, .inr ⟨?_, rfl⟩⟩
    simp only [Bool.and_eq_true, beq_iff_eq] at c
    exact c.1.1
  · exact ⟨k, if_neg c, .inl rfl⟩
theorem rlf_free {env : Env} : ∀ {names : List (Str × NameKind)} {x : Str}, names.lookup x = some .free → (names.map (rlf env)).lookup x = some .cell ∨ (names.map (rlf env)).lookup x = some .free
  | [], _, h => by simp at h
  | (n, k) :: r, x, h => by
    have ih := @rlf_free env r x
    obtain ⟨k', e, hk'⟩ := rlf_fst env n k
    rw [List.map_cons, e]
    cases hx : x == n with
    | true =>
      simp only [List.lookup_cons, hx] at h ⊢
      have hk : k = .free := Option.some.inj h
      rcases hk' with z | z
      · right; rw [z, hk]
      · left; rw [z.2]
    | false =>
      simp only [List.lookup_cons, hx] at h ⊢
      exact ih h
theorem rlf_back {env : Env} : ∀ {names : List (Str × NameKind)} {x : Str} {k' : NameKind}, (names.map (rlf env)).lookup x = some k' → k' = .cell ∨ k' = .free → names.lookup x = some .cell ∨ names.lookup x = some .free
  | [], _, _, h, _ => by simp at h
  | (n, k) :: r, x, k', h, hk' => by
    have ih := @rlf_back env r x k'
    obtain ⟨k2, e, hk2⟩ := rlf_fst env n k
    rw [List.map_cons, e] at h
    cases hx : x == n with
    | true =>
      simp only [List.lookup_cons, hx] at h ⊢
      have : k2 = k' := Option.some.inj h
      subst this
      rcases hk2 with z | z
      · rw [← z]
        rcases hk' with q | q
        · left; rw [q]
        · right; rw [q]
      · right; rw [z.1]
    | false =>
      simp only [List.lookup_cons, hx] at h ⊢
      exact ih h hk'
theorem cells_own {x : Str} {c : Addr} : ∀ (names : List (Str × NameKind)) (n : Nat) (acc : List (Str × Addr)), (cellsFrom n names acc).lookup x = some c → (x, c) ∈ cellsFrom n names [] ∨ acc.lookup x = some c := by
  have app : ∀ (names : List (Str × NameKind)) (n : Nat) (acc : List (Str × Addr)), cellsFrom n names acc = cellsFrom n names [] ++ acc := by
    intro names
    induction names with
    | nil => intro n acc; rfl
    | cons p r ih =>
      intro n acc
      obtain ⟨y, k⟩ := p
      unfold cellsFrom
      split
      · rw [ih (n + 1) ((y, n) :: acc), ih (n + 1) [(y, n)], List.append_assoc]; rfl
      · exact ih n acc
  intro names n acc h
  rw [app] at h
  rw [List.lookup_append] at h
  cases e : (cellsFrom n names []).lookup x with
  | some d =>
    rw [e] at h
    have : d = c := by simpa using h
    subst this
    exact .inl (mem_of_lookup e)
  | none => rw [e] at h; exact .inr (by simpa using h)
def sub0 (ix : List (Option Nat)) (σ : St) : St := ix.map fun o => match o with
  | none => none
  | some j => match σ[j]? with
    | some v => v
    | none => none
section
variable {X : Cx} {pins : List (Addr × Obj)} {σ : St} {H : Hp} {s : Shared}
theorem comp_inv {N' : List Str} {ix : List (Option Nat)} {scope : Scope} {fp : List Addr} (ok : CompOk X.env X.N scope N' ix) (I : Inv X pins σ H s) (hf : ∀ b ∈ fp, FpOk X pins H b) (hfl : ∀ b ∈ fp, b < s.heap.objs.size) :
    Inv (compCx X N' scope s H fp pins) [] (sub0 ix σ) H { s with heap := pushCells (s.heap.push { cls := .type "dict", data := .dict #[] }) scope.names } := by
  have hk4 : ∀ b o, s.heap.get? b = some o → (pushCells (s.heap.push { cls := .type "dict", data := .dict #[] }) scope.names).get? b = some o := fun b o e => pushCells_keeps _ _ b o (Heap.get?_push_of_some _ e)
  have hclo : ∀ x c, (closL X.env scope.names []).lookup x = some c → X.env.cells.lookup x = some c := fun x c e => by
    rcases closL_cases scope.names [] e with ⟨h1, h2⟩ | h1
    · obtain ⟨d, hd⟩ := I.ok.has x (ok.free _ h1 rfl).1
      rw [hd] at h2 ⊢
      rw [h2]; rfl
    · cases h1
  have hcl : ∀ x c, X.env.cells.lookup x = some c → c < s.heap.objs.size := fun x c e => by
    obtain ⟨v, q⟩ := I.cell x c e
    exact q.lt
  have own := cellsFrom_ok scope.names (s.heap.push { cls := .type "dict", data := .dict #[] }) (s.heap.objs.size + 1) [] ⟨fun _ _ hm => (nomatch hm), List.Pairwise.nil⟩ (by rw [Heap.size_push]; exact Nat.le_refl _)
  rw [Heap.size_push] at own
  have cases : ∀ x c, (cellsFrom (s.heap.objs.size + 1) scope.names (closL X.env scope.names [])).lookup x = some c →
      ((pushCells (s.heap.push { cls := .type "dict", data := .dict #[] }) scope.names).IsCell c none ∧ s.heap.objs.size + 1 ≤ c) ∨ X.env.cells.lookup x = some c := fun x c e => by
    rcases cells_own _ _ _ e with h | h
    · exact .inl (own.empty x c h)
    · exact .inr (hclo x c h)
  have fs' : ∀ b, b ∈ frs X.stack → b < s.heap.objs.size := fun b hb => by
    rcases List.mem_cons.mp (I.stkSub b hb) with z | z
    · rw [z]; exact I.lt
    · by_cases q : b < s.heap.objs.size
      · exact q
      · exact absurd z (I.nofs (Nat.not_lt.mp q))
  have cix : (compCx X N' scope s H fp pins).Ok := by
    refine ⟨I.ok.mod, ok.kind, I.ok.glob, I.ok.blt, Nat.le_refl _, fun x y c h1 h2 => ?_, fun x hx => ?_, fun x c hx e => ?_, I.ok.hd, I.ok.frames, .inl rfl, fun b hb => ⟨Nat.ne_of_lt (hfl b hb), fun x c e => ?_⟩, fun b o e => I.bs b o e, Nat.le_trans I.ok.bsz I.sz, fun b o e hb => ?_, fun b hb => ?_, I.stack, I.stkFree⟩
    · rcases cases x c h1 with ⟨_, z⟩ | z
      · exact cellsFrom_inj scope.names _ _ (fun w d e => Nat.lt_succ_of_lt (hcl w d (hclo w d e))) h1 h2 z
      · rcases cases y c h2 with ⟨_, z2⟩ | z2
        · exact absurd (hcl x c z) (Nat.not_lt.mpr (Nat.le_of_succ_le z2))
        · exact I.ok.inj x y c z z2
    · have hx' : scope.names.lookup x = some .cell ∨ scope.names.lookup x = some .free := by
        rcases hx with z | z
        · exact rlf_back (env := X.env) z (.inl rfl)
        · exact rlf_back (env := X.env) z (.inr rfl)
      rcases hx' with z | z
      · exact Option.isSome_iff_exists.mp (PySem.W.cellsFrom_some scope.names _ _ (.inl z))
      · exact Option.isSome_iff_exists.mp (PySem.W.cellsFrom_some scope.names _ _ (.inr (closL_has _ _ (.inl (mem_of_lookup z)))))
    · have hx' : (x, NameKind.cell) ∈ scope.names := of_decide_eq_true hx
      rcases cases x c e with ⟨_, z⟩ | z
      · exact Nat.le_of_succ_le z
      · rcases cells_own _ _ _ e with h | h
        · exact Nat.le_of_succ_le (own.empty x c h).2
        · rcases closL_cases scope.names [] h with ⟨h1, _⟩ | h1
          · exact absurd hx' (ok.free _ h1 rfl).2
          · cases h1
    · intro z
      rcases cases x c e with ⟨_, z2⟩ | z2
      · rw [z] at z2; exact absurd (hfl b hb) (Nat.not_lt.mpr (Nat.le_of_succ_le z2))
      · exact (hf b hb).2.2.2.2.1 x c z2 z
    · rcases (hf b hb).2.2.2.1 with z | z
      · exact I.ok.noex b o e z
      · exact absurd (Heap.lt_size (I.ok.bs b o e).1) (Nat.not_lt.mpr z)
    · intro z
      rcases List.mem_cons.mp (I.stkSub b z) with q | q
      · exact (hf b hb).2.1 q
      · exact (hf b hb).2.2.1 q
  refine ⟨cix, rfl, I.bare, Un.kept hk4, ⟨fun _ => none, ?_, fun i x v e1 e2 e3 => ?_⟩, fun x c e => ?_, I.hok.fresh (Nat.le_refl _), fun x c e => ?_, fun p hp => ?_, I.hok.kept hk4, ?_⟩
  · exact (Heap.Ns.new s.heap (.type "dict")).keeps (pushCells_keeps _ _)
  · have e2' : ∃ j, ix[i]? = some (some j) ∧ σ[j]? = some (some v) := by
      unfold sub0 at e2
      rw [List.getElem?_map] at e2
      cases q : ix[i]? with
      | none => rw [q] at e2; cases e2
      | some o =>
        rw [q] at e2
        cases o with
        | none => cases (Option.some.inj e2)
        | some j =>
          refine ⟨j, rfl, ?_⟩
          have e2'' : (match σ[j]? with | some v => v | none => none) = some v := Option.some.inj e2
          cases r : σ[j]? with
          | none => rw [r] at e2''; cases e2''
          | some w => rw [r] at e2''; exact congrArg some e2''
    obtain ⟨j, hj, hv⟩ := e2'
    obtain ⟨hN, hfr⟩ := ok.slot i x j e1 hj
    have hk := (ok.free _ (mem_of_lookup hfr) rfl).1
    have hvis : Vis X.env.scope x := by
      rcases hk with z | z
      · exact .inr (.inl z)
      · exact .inr (.inr z)
    obtain ⟨m, hn, hl⟩ := I.loc
    obtain ⟨u, ru, lk⟩ := hl j x v hN hv hvis
    refine ⟨u, ru, .inr ⟨?_, ?_⟩⟩
    · exact rlf_free (env := X.env) hfr
    · rcases lk with ⟨z, _⟩ | ⟨_, c, hc, hcell⟩
      · rcases hk with q | q
        · rw [z] at q; cases q
        · rw [z] at q; cases q
      · refine ⟨c, ?_, hcell.keeps hk4⟩
        show (cellsFrom (s.heap.objs.size + 1) scope.names (closL X.env scope.names [])).lookup x = some c
        rw [cellsFrom_acc scope.names _ _ (ok.free _ (mem_of_lookup hfr) rfl).2]
        obtain ⟨d, hd⟩ := Option.isSome_iff_exists.mp (closL_has (env := X.env) scope.names [] (.inl (mem_of_lookup hfr)))
        rw [hd, ← hclo x d hd, hc]
  · rcases cases x c e with ⟨z, _⟩ | z
    · exact ⟨none, z⟩
    · obtain ⟨v, q⟩ := I.cell x c z
      exact ⟨v, q.keeps hk4⟩
  · rcases cases x c e with ⟨_, z⟩ | z
    · exact I.hok.fresh (Nat.le_of_succ_le z)
    · exact I.freeC x c z
  · have hp' : p ∈ X.pn ++ pins := by simpa [compCx] using hp
    obtain ⟨q1, q2, q3, q4, q5⟩ := I.pin p hp'
    refine ⟨hk4 _ _ q1, q2, Nat.ne_of_lt (Heap.lt_size q1), fun z => ?_, q5⟩
    rcases List.mem_cons.mp (I.stkSub p.1 z) with q | q
    · exact q3 q
    · exact q4 q
  · unfold sub0
    rw [List.length_map]
    exact ok.len.symm
end
end L2
namespace L2
open PySem PySem.Spec PyProof.Rows
section
variable {M : Model} {A : Around} {E : Value → Shared → Prop} {s : Shared}
theorem newFunctionEnv_comp {scope : Scope} {globals : Addr} {cl : List (Str × Addr)} {qual : Str} {func : Option Addr} {code : Value} {env : Env} {Q : Env → Shared → Prop}
    (hQ : Q { scope := scope, locals := s.heap.objs.size, globals := globals, cells := cellsFrom (s.heap.objs.size + 1) scope.names cl, qual := qual, func := func, code := env.code, frame := env.frame, builtins := env.builtins }
      { s with heap := pushCells (s.heap.push { cls := .type "dict", data := .dict #[] }) scope.names }) :
    wpAny M A (newFunctionEnv scope globals cl [] qual func code (some env)) Q E s := by
  simp only [newFunctionEnv, Option.isSome_some, if_true]
  refine wpAny_bind (wpAny_alloc ?_)
  refine wpAny_bind (wpAny_layCells _ (fun name kind cells => by cases hkc : kind == NameKind.cell <;> simp [hkc]) _ _ _ _ ?_)
  rw [show ({ s with heap := s.heap.push { cls := .type "dict", data := .dict #[] } } : Shared).heap.objs.size = s.heap.objs.size + 1 from Heap.size_push ..]
  simp only [List.forIn_nil]
  exact wpAny_bind (wpAny_pure (wpAny_pure hQ))
end
section
variable {prog : Program} {w : World} {A : Around} {R : Result → Shared → Prop} {s : Shared}
theorem codeAny_comp {elt target iter : Expr} {ifs : List Expr} {scope : Scope} {pos : Pos} {it acc : Value} {env : Env} (I : Nat → Shared → Prop)
    (turn : ∀ n s, I n s → wpAny (model prog w) A (pyNext it) (fun r s₁ => match r with
      | none => R (.ok .next) s₁
      | some v => wpAny (model prog w) A (letOwnedTupleGo target it v) (fun _ s₂ => wpAny (model prog w) A (assign target env v) (fun _ s₃ =>
          wpAny (model prog w) A (forIn ifs true fun c r => if r = true then do let ok ← isTrue c env (eval c env); pure (ForInStep.yield ok) else pure (ForInStep.yield r)) (fun ok s₄ =>
            if ok = true then wpAny (model prog w) A (eval elt env) (fun x s₅ =>
              wpAny (model prog w) A (call (.builtin "list.append") [acc, x]) (fun _ s₆ => ∃ m, m < n ∧ I m s₆) (fun _ _ => False) s₅) (fun _ _ => False) s₄
            else ∃ m, m < n ∧ I m s₄) (fun _ _ => False) s₃) (fun _ _ => False) s₂) (fun _ _ => False) s₁) (fun _ _ => False) s)
    (n : Nat) (h : I n s) :
    codeAny (model prog w) A (.compLoop (.ListComp elt [⟨target, iter, ifs, 0⟩] scope pos) 0 it acc env) R s := by
  refine codeAny_loop rfl I (fun n s hI => ?_) n h
  show wpAny _ A ((compTurn (.ListComp elt [⟨target, iter, ifs, 0⟩] scope pos) 0 it acc env).onRaise (fun x => do noteFrame x env; theTreesLotGoes x)) _ _ s
  refine wpAny_noted ?_
  rw [compTurn_list]
  refine wpAny_bind (wpAny_standAt (wpAny_bind (wpAny_mono (turn n s hI) (fun r s₁ h₁ => ?_) fun _ _ h' => h'.elim)))
  cases r with
  | none => exact wpAny_pure h₁
  | some v =>
    refine wpAny_bind (wpAny_mono h₁ (fun _ s₂ h₂ => ?_) fun _ _ h' => h'.elim)
    refine wpAny_bind (wpAny_mono h₂ (fun _ s₃ h₃ => wpAny_bind (wpAny_mono h₃ (fun ok s₄ h₄ => ?_) fun _ _ h' => h'.elim)) fun _ _ h' => h'.elim)
    cases ok with
    | false => exact wpAny_pure ⟨rfl, h₄⟩
    | true =>
      exact wpAny_bind (wpAny_bind (wpAny_mono h₄ (fun x s₅ h₅ => wpAny_bind (wpAny_mono h₅ (fun _ s₆ h₆ => wpAny_pure (wpAny_pure ⟨rfl, h₆⟩)) fun _ _ h' => h'.elim)) fun _ _ h' => h'.elim))
end
def PIf (X : Cx) (ifs : List Expr) (t : TT) : Prop :=
  ∀ (pins : List (Addr × Obj)) (s : Shared) (σ : St) (H : Hp) (Q : Bool → Hp → Prop), Inv X pins σ H s → t σ H Q →
    wpAny (model X.prog X.w) X.A (forIn ifs true fun c r => if r = true then do let ok ← isTrue c X.env (eval c X.env); pure (ForInStep.yield ok) else pure (ForInStep.yield r)) (TP X pins σ Q) X.xe s
def tYes : TT := fun _ H Q => Q true H
section
variable {X : Cx}
theorem pif_nil : PIf X [] tYes := fun _ _ _ H _ I h => wpAny_tests_nil ⟨H, I, h⟩
end
def tComp (ix : List (Option Nat)) (wi : TI) (g : TG) (tts : TT) (te : TE) : TE := fun σ H Q => wi σ H fun J H1 => ∀ D, H1 D = none → ∃ W : Nat → Nat → St → Hp → Prop, (∃ m, W 0 m (sub0 ix σ) (upd H1 D (.lst []))) ∧ ∀ i m τ H2, W i m τ H2 →
  (J.stop i H2 ∧ Q (.ref D) H2) ∨ (J.go i H2 ∧ ∀ x H3, J.yld i H2 x H3 → g x τ H3 fun τ2 H4 => tts τ2 H4 fun ok H5 => if ok = true then te τ2 H5 fun v H6 => ∃ ys, H6 D = some (.lst ys) ∧ ys.length < sizeLine ∧ ∃ m', m' < m ∧ W (i + 1) m' τ2 (upd H6 D (.lst (ys ++ [v])))
    else ∃ m', m' < m ∧ W (i + 1) m' τ2 H5)
section
variable {X : Cx} {tg iter elt : Expr} {ifs : List Expr} {scope : Scope} {N' : List Str} {ix : List (Option Nat)} {wi : TI} {g : TG} {tts : TT} {te : TE}
theorem comp_core {use : Option (Value → Sem Unit)} {Qf : Value → Shared → Prop} {pos p' : Pos} {pins : List (Addr × Obj)} {σ : St} {H : Hp} {s : Shared} {Q : VK} (hc : X.calm = true) (ok : CompOk X.env X.N scope N' ix) (hi : PI X tg iter wi)
    (blk : ∀ s H fp pn, PG (compCx X N' scope s H fp pn) tg g ∧ PIf (compCx X N' scope s H fp pn) ifs tts ∧ PE (compCx X N' scope s H fp pn) elt te)
    (hs : ∀ x, foldedSetIterable iter X.env x = pure x) (I : Inv X pins σ H s) (hw : tComp ix wi g tts te σ H Q)
    (fin : ∀ D C H' s', Inv X pins σ H' s' → Q (.ref D) H' → (∃ m, s'.heap.Ns C m) → H' C = none → X.s₀.heap.objs.size ≤ C → C ≠ X.env.locals → (∀ x c, X.env.cells.lookup x = some c → c ≠ C) → C ∉ X.fs → (∀ p ∈ X.pn ++ pins, p.1 ≠ C) →
      compPost (model X.prog X.w) X.A X.xe use Qf (.ref D) C (.ok .next) s') :
    wpAny (model X.prog X.w) X.A (comprehension (.ListComp elt [⟨tg, iter, ifs, 0⟩] scope pos) scope X.env p' (newList []) false (eval iter X.env) use) Qf X.xe s := by
  have hclos : closureFor scope X.env = pure (closL X.env scope.names []) := closureFor_closL fun y hy e => I.ok.has y.1 (ok.free y hy e).1
  refine wpAny_comprehension_free (use := use) rfl hs hclos ok.kind ok.loc (thn (hi pins s σ H _ I hw) fun v s1 h1 => thn h1 fun itv s2 h2 => ?_)
  obtain ⟨it, fp, tn, J, H2, e, I2, T, st2, f2, hW⟩ := h2
  subst e
  obtain ⟨W, ⟨m0, w0⟩, turn⟩ := hW s2.heap.objs.size (I2.hok.fresh (Nat.le_refl _))
  have hfl : ∀ b ∈ fp, b < s2.heap.objs.size := fun b hb => by
    obtain ⟨o, e, _⟩ := T.obj 0 _ st2 b hb
    exact Heap.lt_size e
  refine wpAny_newObj_type ?_
  have I3 : Inv X pins σ (upd H2 s2.heap.objs.size (.lst [])) { s2 with heap := s2.heap.push { cls := .type "list", dict := none, data := .seq ([] : List Value).toArray } } :=
    I2.laid (t' := s2.toks) (fun b o e => Heap.get?_push_of_some _ e) (Nat.le_refl _) (show ObjOk X.prog X.w _ _ _ (.lst []) from ⟨Nat.zero_le _, [], 0, .nil, Heap.get?_push_size _ rfl⟩)
  have st3 : tn 0 (s2.heap.push { cls := .type "list", dict := none, data := .seq ([] : List Value).toArray }) := T.keep 0 _ _ st2 fun b _ o e => Heap.get?_push_of_some _ e
  have f3 : ∀ b ∈ fp, FpOk X pins (upd H2 s2.heap.objs.size (.lst [])) b := fun b hb => ⟨by rw [upd_ne (Nat.ne_of_lt (hfl b hb))]; exact (f2 b hb).1, (f2 b hb).2⟩
  have hfl3 : ∀ b ∈ fp, b < (s2.heap.push { cls := .type "list", dict := none, data := .seq ([] : List Value).toArray }).objs.size := fun b hb => by rw [Heap.size_push]; exact Nat.lt_succ_of_lt (hfl b hb)
  generalize hs3 : ({ s2 with heap := s2.heap.push { cls := .type "list", dict := none, data := .seq ([] : List Value).toArray } } : Shared) = s3 at I3 ⊢
  have eh3 : s3.heap = s2.heap.push { cls := .type "list", dict := none, data := .seq ([] : List Value).toArray } := by rw [← hs3]
  rw [← eh3] at st3 hfl3
  generalize hH3 : upd H2 s2.heap.objs.size (.lst []) = H3 at I3 f3 w0
  generalize hD : s2.heap.objs.size = D at *
  refine newFunctionEnv_comp ?_
  have I4 := comp_inv ok I3 f3 hfl3
  obtain ⟨hg, ht, he⟩ := blk s3 H3 fp pins
  have st4 : tn 0 (pushCells (s3.heap.push { cls := .type "dict", data := .dict #[] }) scope.names) := T.keep 0 _ _ st3 fun b _ o e => pushCells_keeps _ _ b o (Heap.get?_push_of_some _ e)
  have stat : ∀ {H' : Hp}, (∀ b ∈ fp, H' b = none) → ∀ b ∈ fp, FpOk (compCx X N' scope s3 H3 fp pins) [] H' b := fun hn b hb => by
    refine ⟨hn b hb, Nat.ne_of_lt (hfl3 b hb), I4.ok.exfs b hb, .inl hb, (I4.ok.exf b hb).2, fun p hp => ?_⟩
    have hp' : p ∈ X.pn ++ pins := by simpa [compCx] using hp
    exact (f2 b hb).2.2.2.2.2 p hp'
  have loop : ∀ (s4 : Shared), Inv (compCx X N' scope s3 H3 fp pins) [] (sub0 ix σ) H3 s4 → tn 0 s4.heap →
      codeAny (model X.prog X.w) X.A (.compLoop (.ListComp elt [⟨tg, iter, ifs, 0⟩] scope pos) 0 (.ref it) (.ref D) (compEnv scope s3.heap.objs.size X.env)) (compPost (model X.prog X.w) X.A X.xe use Qf (.ref D) s3.heap.objs.size) s4 := by
    intro s4 I4 st4
    refine codeAny_comp (fun n s' => ∃ i τ H', Inv (compCx X N' scope s3 H3 fp pins) [] τ H' s' ∧ tn i s'.heap ∧ (∀ b ∈ fp, H' b = none) ∧ W i n τ H') ?_ m0 ⟨0, _, H3, I4, st4, fun b hb => (f3 b hb).1, w0⟩
    rintro n s5 ⟨i, τ, H5, I5, st5, fr5, w5⟩
    rcases turn i n τ H5 w5 with ⟨stop, qn⟩ | ⟨go, step⟩
    · refine thn (T.done (compCx X N' scope s3 H3 fp pins) rfl rfl rfl hc i [] s5 τ H5 (fun _ _ => False) I5 (stat fr5) st5 stop) fun r s6 ⟨hr, I6⟩ => ?_
      subst hr
      have I7 : Inv X pins σ H5 s6 := I3.call' (ch := fp) I6.os I6.base I6.hok I6.bare fun b hb => ⟨(f2 b hb).2.2.2.1, (f2 b hb).2.1, (f2 b hb).2.2.2.2.1, (f2 b hb).2.2.2.2.2⟩
      obtain ⟨m6, hn6, _⟩ := I6.loc
      refine fin D s3.heap.objs.size H5 s6 I7 qn ⟨m6, hn6⟩ I6.free ?_ ?_ ?_ ?_ ?_
      · exact I3.sz
      · exact Nat.ne_of_gt I3.lt
      · intro x c e z
        obtain ⟨v, q⟩ := I3.cell x c e
        have := q.lt
        rw [z] at this
        exact Nat.lt_irrefl _ this
      · exact I3.nofs (Nat.le_refl _)
      · intro p hp z
        have := Heap.lt_size (I3.pin p hp).1
        rw [z] at this
        exact Nat.lt_irrefl _ this
    · refine thn (T.item (compCx X N' scope s3 H3 fp pins) rfl rfl rfl hc i [] s5 τ H5 (fun _ _ => False) I5 (stat fr5) st5 go) fun r s6 ⟨u, hr, h6⟩ => ?_
      subst hr
      refine thn h6 fun _ s7 ⟨x, H7, I7, r7, y7, st7, fr7⟩ => ?_
      have I7' := I7.pinned (stat fr7) (T.obj _ _ st7)
      have again : ∀ {s8 : Shared} {τ8 : St} {H8 : Hp}, Inv (compCx X N' scope s3 H3 fp pins) ([] ++ pinsAt fp s7.heap) τ8 H8 s8 → (∃ m', m' < n ∧ W (i + 1) m' τ8 H8) →
          ∃ m, m < n ∧ ∃ i τ H', Inv (compCx X N' scope s3 H3 fp pins) [] τ H' s8 ∧ tn i s8.heap ∧ (∀ b ∈ fp, H' b = none) ∧ W i m τ H' := fun {s8 τ8 H8} I8 ⟨m', hm, w8⟩ => by
        refine ⟨m', hm, i + 1, τ8, H8, I8.unpinned, T.keep _ _ _ st7 fun b hb o e => (I8.pin (b, o) (List.mem_append_right _ (List.mem_append_right _ (mem_pinsAt hb e)))).1, fun b hb => ?_, w8⟩
        obtain ⟨o, e, d⟩ := T.obj _ _ st7 b hb
        exact (I8.pin (b, o) (List.mem_append_right _ (List.mem_append_right _ (mem_pinsAt hb e)))).2.1
      refine thn (hg _ s7 τ H7 x u _ I7' r7 (step x H7 y7)) fun _ s8 ⟨τ8, H8, I8, q8⟩ => ?_
      refine thn (ht _ s8 τ8 H8 _ I8 q8) fun okb s9 ⟨H9, I9, q9⟩ => ?_
      cases okb with
      | false =>
        rw [if_neg Bool.false_ne_true] at q9
        rw [if_neg Bool.false_ne_true]
        exact again I9 q9
      | true =>
        rw [if_pos rfl] at q9
        rw [if_pos rfl]
        refine thn (he _ s9 τ8 H9 _ I9 q9) fun v10 s10 ⟨x10, H10, I10, r10, q10⟩ => ?_
        obtain ⟨ys, hD10, hz, m', hm, w10⟩ := q10
        refine thn (mt_append (X := compCx X N' scope s3 H3 fp pins) _ s10 τ8 H10 (.ref D) [x10] (.ref D) [v10] (fun _ H' => ∃ m', m' < n ∧ W (i + 1) m' τ8 H') I10 rfl (.cons r10 .nil) ⟨D, ys, x10, rfl, rfl, hD10, hz, m', hm, w10⟩) fun _ s11 ⟨_, H11, I11, _, q11⟩ => ?_
        exact again I11 q11
  exact codeAny_compStart_list (loop _ I4 st4) (T.self X.A 0 _ _ _ st4 (loop _ I4 st4))
theorem pe_comp {pos : Pos} (N' : List Str) (ix : List (Option Nat)) (hc : X.calm = true) (hi : PI X tg iter wi)
    (blk : ∀ s H fp pn, PG (compCx X N' scope s H fp pn) tg g ∧ PIf (compCx X N' scope s H fp pn) ifs tts ∧ PE (compCx X N' scope s H fp pn) elt te)
    (chk : compChk X.env.scope X.N scope N' ix = true) (hs : ∀ x, foldedSetIterable iter X.env x = pure x := by intro _; rfl) :
    PE X (.ListComp elt [⟨tg, iter, ifs, 0⟩] scope pos) (tComp ix wi g tts te) := by
  intro pins s σ H Q I hw
  rw [eval_ListComp]
  refine comp_core (use := none) hc (compOk_of chk) hi blk hs I hw fun D C H' s' I' q hm hn h1 h2 h3 h4 h5 => ?_
  obtain ⟨m, hm⟩ := hm
  refine ⟨m, hm, fun h' sb => ⟨.ref D, H', ?_, rfl, q⟩⟩
  exact I'.turned (t' := s'.toks) (fun b o hb e => (sb.2 b hb).trans e) hn h2 (.inr h1) h3 h5
end
end L2
namespace L2
open PySem PySem.Spec PyProof.Rows
section
variable {X : Cx} {tg iter elt : Expr} {ifs : List Expr} {scope : Scope} {N' : List Str} {ix : List (Option Nat)} {wi : TI} {g : TG} {tts : TT} {te : TE}
end
end L2
namespace L2
open PySem PySem.Spec PyProof.Rows
section
variable {X : Cx}
end
end L2
namespace L2
open PySem PySem.Spec PyProof.Rows
section
variable {prog : Program} {w : World} {A : Around} {E : Value → Shared → Prop} {s : Shared} {I l : Addr} {items : Array Value}
end
section
variable {X : Cx} {e : Expr} {te : TE} {p p1 p2 pos : Pos}
end
end L2
namespace L2
open PySem PySem.Spec PyProof.Rows
def RowIs (k : Bool) (h : Heap) (a : Addr) (its : Array Value) : Prop := ∃ o, h.get? a = some o ∧ o.cls = .type (cond k "tuple" "list") ∧ ∃ n, o.data = .seq its n
def WalkIs (k : Bool) (h : Heap) (it a : Addr) (i : Nat) : Prop := ∃ o, h.get? it = some o ∧ o.cls = .type (cond k "tuple_iterator" "list_iterator") ∧ o.data = .fields #[.ref a, .int i 0]
theorem RowIs.mv {k : Bool} {h h' : Heap} {a : Addr} {its : Array Value} (r : RowIs k h a its) (f : ∀ o, h.get? a = some o → h'.get? a = some o) : RowIs k h' a its := let ⟨o, e, q⟩ := r; ⟨o, f o e, q⟩
theorem WalkIs.mv {k : Bool} {h h' : Heap} {it a : Addr} {i : Nat} (r : WalkIs k h it a i) (f : ∀ o, h.get? it = some o → h'.get? it = some o) : WalkIs k h' it a i := let ⟨o, e, q⟩ := r; ⟨o, f o e, q⟩
section
variable {P : Program} {w : World} {A : Around} {E : Value → Shared → Prop} {s : Shared} {k : Bool} {it a : Addr} {i : Nat} {its : Array Value}
theorem tupNext_item {x : Value} {Q : Value → Shared → Prop} (W : s.heap.IsTupleIter it a i) (R : s.heap.IsTuple a its) (hx : its[i]? = some x)
    (hQ : ∀ h', h'.IsTupleIter it a (i + 1) → Heap.SameBut it s.heap h' → Q x { s with heap := h' }) : wpAny (model P w) A (Builtin.SmallTypes.nextOf (.ref it)) Q E s := by
  have hT := W.typeIs
  obtain ⟨o, ho, c, d⟩ := W
  obtain ⟨ol, hol, _, nl, dl⟩ := R
  unfold Builtin.SmallTypes.nextOf
  refine wpAny_bind (wpAny_callSpecial?_slot (name := Str.ofString "__next__") hT F.slot_tuple_iterator_next (wpAny_call_entry F.slot_tuple_iterator_next hT F.entry_tuple_iterator_next ?_ (F.args_tuple_iterator_next_1 _)))
  refine wpAny_bind (m := field (.ref it) 0) (wpAny_field ho d (x := .ref a) rfl ?_)
  have nn : ¬ ((Value.ref a == Value.none) = true) := Bool.false_ne_true
  show wpAny _ _ (if (Value.ref a == Value.none) = true then _ else _) _ _ s
  rw [if_neg nn]
  refine wpAny_bind (m := field (.ref it) 1) (wpAny_field ho d (x := .int i 0) rfl ?_)
  refine wpAny_bind (m := seqItems? (.ref a)) (wpAny_seqItems hol dl ?_)
  simp only [Int.toNat_natCast, hx]
  exact wpAny_bind (wpAny_setField ho d (by simp) (wpAny_pure ⟨x, rfl, wpAny_pure (hQ _ ⟨_, Heap.get?_update_self _ ho (Obj.isFreed_of_fields (Obj.data_mapFields d _)), (Obj.cls_mapFields ..).trans c, by rw [Obj.data_mapFields d]; simp [rawInt]⟩ (Heap.SameBut.update ..))⟩))
theorem tupNext_end {Q : Value → Shared → Prop} (hh : A.handled = none) (W : s.heap.IsTupleIter it a i) (R : s.heap.IsTuple a its) (hx : its[i]? = none)
    (hE : ∀ h' e, Heap.ExtBut it s.heap h' → (∃ o, h'.get? e = some o ∧ o.cls = .type "StopIteration") → E (.ref e) { s with heap := h' }) : wpAny (model P w) A (Builtin.SmallTypes.nextOf (.ref it)) Q E s := by
  have hT := W.typeIs
  obtain ⟨o, ho, c, d⟩ := W
  obtain ⟨ol, hol, _, nl, dl⟩ := R
  unfold Builtin.SmallTypes.nextOf
  refine wpAny_bind (wpAny_callSpecial?_slot (name := Str.ofString "__next__") hT F.slot_tuple_iterator_next (wpAny_call_entry F.slot_tuple_iterator_next hT F.entry_tuple_iterator_next ?_ (F.args_tuple_iterator_next_1 _)))
  refine wpAny_bind (m := field (.ref it) 0) (wpAny_field ho d (x := .ref a) rfl ?_)
  have nn : ¬ ((Value.ref a == Value.none) = true) := Bool.false_ne_true
  show wpAny _ _ (if (Value.ref a == Value.none) = true then _ else _) _ _ s
  rw [if_neg nn]
  refine wpAny_bind (m := field (.ref it) 1) (wpAny_field ho d (x := .int i 0) rfl ?_)
  refine wpAny_bind (m := seqItems? (.ref a)) (wpAny_seqItems hol dl ?_)
  simp only [Int.toNat_natCast, hx]
  refine wpAny_bind (wpAny_rule (wpAny_bind (wpAny_setField ho d (by simp) (wpAny_bind (m := newExc (.type "StopIteration") []) ?_))))
  simp only [newExc, newTuple]
  refine wpAny_bind (wpAny_newObj_type (wpAny_bind (m := firstArgMember _ _) (wpAny_of_eq (a := Value.none) (by first | rfl | (simp only [firstArgMember]; rfl)) (wpAny_newObj_type ?_ (by size_fits)))) (by size_fits))
  simp only [raiseNew]
  refine wpAny_bind (wpAny_handled ?_)
  first | rw [show A.in1.handled = none from hh] | rw [hh]
  exact wpAny_bind (wpAny_pure (wpAny_throw (hE _ _ (((Heap.SameBut.update ..).extBut.push _).push _) ⟨_, Heap.get?_push_size _ rfl, rfl⟩)))
theorem rowNext_item {x : Value} {Q : Value → Shared → Prop} (W : WalkIs k s.heap it a i) (R : RowIs k s.heap a its) (hx : its[i]? = some x)
    (hQ : ∀ h', WalkIs k h' it a (i + 1) → Heap.SameBut it s.heap h' → Q x { s with heap := h' }) : wpAny (model P w) A (Builtin.SmallTypes.nextOf (.ref it)) Q E s := by
  cases k with
  | false => exact wpAny_nextOf_list_item W R hx hQ
  | true => exact tupNext_item W R hx hQ
theorem rowNext_end {Q : Value → Shared → Prop} (hh : A.handled = none) (W : WalkIs k s.heap it a i) (R : RowIs k s.heap a its) (hx : its[i]? = none)
    (hE : ∀ h' e, Heap.ExtBut it s.heap h' → (∃ o, h'.get? e = some o ∧ o.cls = .type "StopIteration") → E (.ref e) { s with heap := h' }) : wpAny (model P w) A (Builtin.SmallTypes.nextOf (.ref it)) Q E s := by
  cases k with
  | false => exact wpAny_nextOf_list_end hh W R hx hE
  | true => exact tupNext_end hh W R hx hE
end
end L2
namespace L2
open PySem PySem.Spec PyProof.Rows
section
variable {P : Program} {w : World} {A : Around} {E : Value → Shared → Prop} {s : Shared} {k l : Bool} {z U V i j a c : Addr} {n : Nat} {xs ys : Array Value} {x y u v : Value}
end
end L2
namespace L2
open PySem PySem.Spec PyProof.Rows
def Sq (k : Bool) (K : PySem.W.Frag) (H : Hp) (a : Addr) (xs : List V) : Prop := cond k (SqT K H a xs) (SqL K H a xs)
section
variable {X : Cx} {pins : List (Addr × Obj)} {σ : St} {H : Hp} {s : Shared} {k l : Bool} {a b c : Addr} {xs ys : List V}
theorem Inv.row (I : Inv X pins σ H s) (h : Sq k X.K H a xs) : ∃ its : List Value, Vals xs its ∧ RowIs k s.heap a its.toArray ∧ xs.length ≤ sizeLine := by
  cases k with
  | false => obtain ⟨its, r, p, z⟩ := I.list h; exact ⟨its, r, p.isList, z⟩
  | true => obtain ⟨its, r, p, z⟩ := I.tuple h; exact ⟨its, r, p, z⟩
theorem Inv.row_inj (I : Inv X pins σ H s) (h : Sq k X.K H a xs) (h' : Sq k X.K H a ys) : xs = ys := by
  cases k with
  | false => exact I.list_inj h h'
  | true => exact I.tuple_inj h h'
theorem rd_some {u : HO} (r : Rd H a u) : ∃ v, H a = some v := by
  rcases r with r | ⟨o, r⟩ <;> exact ⟨_, r⟩
theorem Inv.row_ne (I : Inv X pins σ H s) (h : Sq k X.K H a xs) (f : FpOk X pins H b) : a ≠ b := by
  have kk : ∀ o, X.K.lookup a = some o → a ≠ b := fun o e z => by
    have e1 := I.ok.mod.kin a o e
    rcases f.2.2.2.1 with q | q
    · exact I.ok.noex a o e1 (z ▸ q)
    · exact absurd (Nat.lt_of_lt_of_le (Heap.lt_size (I.ok.bs a o e1).1) (z ▸ q)) (Nat.lt_irrefl _)
  have hh : ∀ u, H a = some u → a ≠ b := fun u e z => by rw [z, f.1] at e; cases e
  cases k with
  | false =>
    rcases h with r | ⟨o, its, n, e, _⟩
    · obtain ⟨v, e⟩ := rd_some r; exact hh v e
    · exact kk o e
  | true =>
    rcases h with r | ⟨o, its, n, e, _⟩
    · obtain ⟨v, e⟩ := rd_some r; exact hh v e
    · exact kk o e
theorem Inv.yielded {h' : Heap} {T : Addr} {zs : List V} {t' : Nat} {ch : List Addr} (I : Inv X pins σ H s) (hf : ∀ b ∈ ch, FpOk X pins H b) (hT : s.heap.objs.size ≤ T)
    (kp : ∀ b o, b ∉ ch → s.heap.get? b = some o → h'.get? b = some o) (new : ObjOk X.prog X.w (upd H T (.tup zs)) h' T (.tup zs)) : Inv X pins σ (upd H T (.tup zs)) { s with heap := h', toks := t' } := by
  have hn : H T = none := I.hok.fresh hT
  have nT : ∀ b u, H b = some u → b ≠ T := fun b u e z => by rw [z, hn] at e; cases e
  have oT : ∀ b o, s.heap.get? b = some o → b ≠ T := fun b o e z => absurd (Nat.lt_of_lt_of_le (Heap.lt_size e) (z ▸ hT)) (Nat.lt_irrefl _)
  have nc : ∀ b u, H b = some u → b ∉ ch := fun b u e z => by rw [(hf b z).1] at e; cases e
  refine I.step (g' := s.gens) (d' := s.drawn) (ch := ch) (fun b hb => ⟨(hf b hb).2.2.2.1, (hf b hb).2.1, (hf b hb).2.2.2.2.1, (hf b hb).2.2.2.2.2⟩) (fun b o _ _ hc e _ => kp b o hc e) (fun b o _ _ hc e _ => ⟨o.slots, kp b o hc e⟩)
    (fun b o _ e n => by rw [upd_ne (oT b o e)]; exact n) (fun b o hc e => ⟨o, kp b o hc e⟩) (fun b xs e => by rw [upd_ne (nT b _ e)]; exact e) (fun b o u e => by rw [upd_ne (nT b _ e)]; exact e)
    (fun b ps e => ⟨#[], by rw [upd_ne (nT b _ e), e]; simp⟩) (fun m hm => ?_) (fun b u e => ?_) I.bare
  · obtain ⟨o, es, ep, ho, r⟩ := hm
    exact ⟨o, es, ep, kp _ o (fun z => (hf _ z).2.1 rfl) ho, r⟩
  · by_cases hb : b = T
    · subst hb; rw [upd_same] at e; cases e; exact new
    · rw [upd_ne hb] at e
      refine (I.hok b u e).stay (fun c v hc q => kp c v ?_ q) (fun c q => by rw [upd_ne (nT c _ q)]; exact q) fun c xs q => by rw [upd_ne (nT c _ q)]; exact q
      rcases hc with z | z
      · rw [z]; exact nc b u e
      · exact nc c _ z
end
section
variable {P : Program} {w : World} {A : Around} {E : Value → Shared → Prop} {s : Shared} {k l : Bool}
abbrev rowIt (k : Bool) (a : Addr) : Obj := { cls := .type (cond k "tuple_iterator" "list_iterator"), data := .fields #[.ref a, .int 0 0] }
theorem pyIter_row {a : Addr} {its : Array Value} {Q : Value → Shared → Prop} (R : RowIs k s.heap a its) (hQ : Q (.ref s.heap.objs.size) { s with heap := s.heap.push (rowIt k a) }) : wpAny (model P w) A (pyIter (.ref a)) Q E s := by
  cases k with
  | false => exact wpAny_pyIter_list R hQ
  | true => exact wpAny_pyIter_tuple R hQ
end
section
variable {X : Cx} {es : List Expr} {ct : Nat} {tp : Pos}
end
end L2
namespace L2
open PySem PySem.Spec PyProof.Rows
theorem subAt_S (a b : List Nat) (i : Nat) : Builtin.Str.subAt (S a) (S b) i = decide ((a.drop i).take b.length = b) := by
  unfold Builtin.Str.subAt
  rw [S_len]
  have e1 : ((S a).cps.extract i (i + b.length)) = ((a.drop i).take b.length).toArray := by
    show a.toArray.extract _ _ = _
    rw [List.extract_toArray, List.extract_eq_take_drop]
    congr 2
    omega
  rw [e1]
  show (((a.drop i).take b.length).toArray == b.toArray) = _
  by_cases h : (a.drop i).take b.length = b
  · rw [decide_eq_true h, h]; simp
  · rw [decide_eq_false h, beq_eq_false_iff_ne]
    intro z
    exact h (by simpa using congrArg Array.toList z)
section
variable {X : Cx}
end
end L2
namespace L2
open PySem PySem.Spec PyProof.Rows
section
variable {prog : Program} {w : World} {A : Around} {E : Value → Shared → Prop} {s : Shared}
end
section
variable {X : Cx} {tg : Expr}
def Itk (k : Bool) (K : PySem.W.Frag) (a : Addr) : It := cond k (Itt K a) (Itl K a)
def rCatL (K : PySem.W.Frag) : R2 := fun x y H Q => ∃ l b xs zs, x = .ref l ∧ y = .ref b ∧ SqL K H l xs ∧ SqL K H b zs ∧ xs.length + zs.length ≤ sizeLine ∧ ∀ p, H p = none → Q (.ref p) (upd H p (.lst (xs ++ zs)))
theorem op_catL : OpR X (binaryOp .Add) (rCatL X.K) := by
  intro pins s σ H x y v u Q I rx ry h
  obtain ⟨l, b, xs, zs, rfl, rfl, hH, hB, hz, q⟩ := h
  cases rx
  cases ry
  obtain ⟨its, r, pl, hl⟩ := I.list hH
  obtain ⟨its2, r2, pl2, hl2⟩ := I.list hB
  obtain ⟨⟨cls, dd, data, sl⟩, ho, hc, n, hd⟩ := pl.isList
  obtain ⟨⟨cls2, dd2, data2, sl2⟩, ho2, hc2, n2, hd2⟩ := pl2.isList
  simp only at hc hd hc2 hd2
  subst hc hd hc2 hd2
  have n1 := r.length
  have n2' := r2.length
  have ea : its.toArray ++ its2.toArray = (its ++ its2).toArray := by simp
  have fin : EP X pins σ Q (.ref s.heap.objs.size) { s with heap := s.heap.push { cls := .type "list", data := .seq (its.toArray ++ its2.toArray) } } := by
    rw [ea]
    exact ⟨.ref _, _, I.lnew (t' := s.toks) (r.append r2) (by rw [List.length_append]; omega), rfl, q _ I.fresh⟩
  exact concat_meets ⟨_, ho, rfl⟩ ⟨_, ho2, rfl⟩ noFill_list_add seq_list_add PySem.F.slot_list_add PySem.F.entry_list_add (PySem.F.args_list_add_2 _ _) (list_addW l b its.toArray its2.toArray n n2 dd dd2 sl sl2 (by simp; omega)) ⟨ho, ho2, fin⟩
end
end L2
namespace L2
open PySem PySem.Spec PyProof.Rows
def tx (l : List Nat) : V := .str (S l)
def Flat (n : Nat) (d : PyData) : Prop := d.canLay0 = true ∧ d.depth ≤ n
theorem Flat.shaped {n : Nat} {d : PyData} (h : Flat n d) (hn : n ≤ 64) : SeqAt.shaped d = true := by
  unfold SeqAt.shaped
  rw [h.1, decide_eq_true (Nat.le_trans h.2 hn)]; rfl
theorem flatAll {n : Nat} : ∀ {ds : List PyData}, (∀ d ∈ ds, Flat n d) → PyData.canLayAll0 ds = true ∧ PyData.depthAll ds ≤ n
  | [], _ => ⟨rfl, Nat.zero_le _⟩
  | d :: ds, h => by
    obtain ⟨a, b⟩ := flatAll (ds := ds) fun x hx => h x (List.mem_cons_of_mem _ hx)
    obtain ⟨c, e⟩ := h d List.mem_cons_self
    simp only [PyData.canLayAll0, PyData.depthAll, a, c]
    exact ⟨rfl, Nat.max_le.mpr ⟨e, b⟩⟩
theorem Flat.tuple {n : Nat} {ds : List PyData} (h : ∀ d ∈ ds, Flat n d) : Flat (n + 1) (.tuple ds) := by
  obtain ⟨a, b⟩ := flatAll h
  exact ⟨by simp only [PyData.canLay0]; exact a, by simp only [PyData.depth]; omega⟩
def Lts (l : List Nat) : Prop := ∀ c ∈ l, 97 ≤ c ∧ c ≤ 122
theorem Lts.nil : Lts [] := fun c h => nomatch h
theorem Lts.app {a b : List Nat} (x : Lts a) (y : Lts b) : Lts (a ++ b) := fun c h => (List.mem_append.mp h).elim (x c) (y c)
theorem Lts.one {c : Nat} (h : 97 ≤ c ∧ c ≤ 122) : Lts [c] := fun d hd => by
  have : d = c := by simpa using hd
  subst this; exact h
theorem Lts.take {a : List Nat} (x : Lts a) (n : Nat) : Lts (a.take n) := fun c h => x c (List.mem_of_mem_take h)
theorem Lts.drop {a : List Nat} (x : Lts a) (n : Nat) : Lts (a.drop n) := fun c h => x c (List.mem_of_mem_drop h)
theorem Lts.cut {a : List Nat} (x : Lts a) (lo hi : Option Int) : Lts (cutN a lo hi) := (x.drop _).take _
theorem Lts.rep {a : List Nat} (x : Lts a) (n : Int) : Lts (repN a n) := fun c h => by
  unfold repN at h
  obtain ⟨l, h1, h2⟩ := List.mem_flatten.mp h
  rw [List.eq_of_mem_replicate h1] at h2
  exact x c h2
theorem Flat.str {l : List Nat} (h : Lts l) : Flat 0 (.str (S l)) := by
  refine ⟨?_, by simp [PyData.depth]⟩
  simp only [PyData.canLay0, PyData.strOk, S]
  rw [Array.all_eq_true]
  intro i hi
  have := h l[i] (List.getElem_mem _)
  simp only [List.getElem_toArray, decide_eq_true_eq]
  omega
theorem flat_texts {ws : List (List Nat)} (h : ∀ w ∈ ws, Lts w) : ∀ d ∈ ws.map (fun w => PyData.str (S w)), Flat 0 d := fun d hd => by
  obtain ⟨i, hi, rfl⟩ := List.mem_map.mp hd
  exact Flat.str (h i hi)
theorem eqv_same {d : PyData} (h : SeqAt.shaped d = true) : PyData.eqv d d = true := SeqAt.eqv_refl d (SeqAt.canLay_of_shaped h)
end L2
namespace L2
open PySem PySem.Spec PyProof.Rows
section
variable {κ : Type} [DecidableEq κ]
theorem KV.length {kvs : List (κ × V)} {vs : List (κ × Value)} (r : KV kvs vs) : kvs.length = vs.length := Paired.length r
end
section
variable {P : Program} {w : World} {H : Hp} {h : Heap} {a : Addr}
theorem rd_of {u : HO} (ok : HOk P w H h) (e : Rd H a u) : ObjOk P w H h a u := e.ok ok
theorem dk_rd {kvs : List (Key × V)} (ok : HOk P w H h) (e : Rd H a (.dK kvs)) : kvs.length ≤ sizeLine ∧ (a == sysModules) = false ∧ ∃ vs, KV kvs vs ∧ h.DictOf (mixKind P w) a vs :=
  show ObjOk P w H h a (.dK kvs) from rd_of ok e
end
section
variable {X : Cx} {pins : List (Addr × Obj)} {σ : St} {H : Hp} {s : Shared} {a : Addr} {y v : V} {u r : Value} {o : Option V} {A : Around} {E : Value → Shared → Prop}
end
section
variable {X : Cx} {pins : List (Addr × Obj)} {σ : St} {H : Hp} {s : Shared} {a : Addr} {kvs : List (Key × V)} {k : Key} {u : Value} {A : Around} {E : Value → Shared → Prop}
theorem d_len {Q : Value → Shared → Prop} (I : Inv X pins σ H s) (e : Rd H a (.dK kvs)) (h : ∀ t s', Inv X pins σ H s' → Q (.int kvs.length t) s') : wpAny (model X.prog X.w) A (call (.builtin "len") [.ref a]) Q E s := by
  obtain ⟨z, hd, vs, rel, dd⟩ := dk_rd I.hok e
  refine call_len_dict hd dd (by rw [← rel.length]; rw [sizeLine_eq] at z; omega) ?_
  rw [← rel.length]
  exact h _ _ (I.tok _)
end
section
variable {X : Cx} {o i e value : Expr} {pos pos' tpos : Pos} {td ty tv : TE}
end
section
variable {X : Cx} {pos : Pos}
end
section
variable {X : Cx} {pins : List (Addr × Obj)} {σ : St} {H : Hp} {s : Shared} {a : Addr} {y d : V} {u r : Value} {o : Option V} {A : Around} {E : Value → Shared → Prop}
end
section
variable {X : Cx} {o e f : Expr} {apos cpos : Pos} {td ty tx : TE}
end
section
variable {X : Cx} {pins : List (Addr × Obj)} {σ : St} {H : Hp} {s : Shared} {a : Addr} {kvs : List (Key × V)} {A : Around} {E : Value → Shared → Prop}
end
section
variable {X : Cx} {pins : List (Addr × Obj)} {σ : St} {H : Hp} {s : Shared} {a : Addr} {y : V} {u : Value} {A : Around} {E : Value → Shared → Prop}
end
end L2
namespace L2
open PySem PySem.Spec PyProof.Rows
section
variable {X : Cx}
theorem pe_globI {x : Str} {i : Int} {pos : Pos} (hg : Gl X x) (h : ∃ t, X.mg x = some (.int i t)) (hd : (x == ("__debug__" : Str)) = false := by decide) : PE X (.Name x pos) (tC (.int i)) := by
  obtain ⟨t, e⟩ := h
  exact pe_glob (u := .int i t) hg e ⟨t, rfl⟩ hd
end
structure CalD (P : Program) (w : World) (K : PySem.W.Frag) (mg : Str → Option Value) (base : Heap) (k : Nat) (x : Str) (ps : List Str) (dvs : List V) (sp : Sp) : Prop where
  ex : ∃ (f : Addr) (fd : FuncData), FnOk P w K mg base CX0 k f fd ps sp ∧ (∀ n, n ≤ dvs.length → ∃ ds, Vals (dvs.drop n) ds ∧ Binds K fd ps ds) ∧ PySem.W.keepIn K (.ref f) = true ∧ mg x = some (.ref f)
structure DefAtD (K : PySem.W.Frag) (mg : Str → Option Value) (x : Str) (st : Stmt) (dvs : List V) : Prop where
  ex : ∃ (f dT : Addr) (oc : Value) (od an dd : Option Addr) (kV doc pm cdv ct : Value) (osl sl : Array (Option Value)) (items : List Value) (n : Nat),
    K.lookup f = some ⟨oc, od, .func (PySem.W.fnOf x x (defArgs st) (defBody st) (defScope st) (.ref dT) kV doc pm an cdv ct), osl⟩ ∧ PySem.W.codeIn K cdv x = true ∧ PySem.W.keepIn K (.ref f) = true ∧ mg x = some (.ref f) ∧
    K.lookup dT = some ⟨.type "tuple", dd, .seq items.toArray n, sl⟩ ∧ Vals dvs items
section
variable {P : Program} {w : World} {K : PySem.W.Frag} {mg : Str → Option Value} {base : Heap} {x : Str} {st : Stmt} {N ps : List Str} {k : Nat} {sp : Sp} {dvs : List V}
theorem DefAtD.ok (D : DefAtD K mg x st dvs) (S : FnScope N ps (defScope st))
    (hb : ∀ (dT : Addr) (kV doc pm : Value) (an : Option Addr) (cdv ct : Value) (items : List Value) (us : List Value) (n : Nat), items.length = dvs.length → n ≤ dvs.length → (us ++ items.drop n).length = ps.length →
      ∃ k, bindArgs (PySem.W.fnOf x x (defArgs st) (defBody st) (defScope st) (.ref dT) kV doc pm an cdv ct) ⟨us, []⟩ = seqItems? (.ref dT) >>= k ∧ k (some items.toArray) = pure (ps.zip (us ++ items.drop n)))
    (len : ∀ vs H Q E, sp vs H Q E → vs.length = ps.length)
    (hbody : ∀ (f : Addr) (cdv : Value) (A : Around) (outer : List Env) (s : Shared) (H : Hp) (vs : List V) (Q : VK) (E : XK), Room k (A.deeper (envOfC x (defScope st) s.heap.objs.size f cdv)) → sp vs H Q E →
      ∃ t, PSs (cxOf CX0 P w K mg base N x (defScope st) f cdv A outer s H E).nox (defBody st) t ∧ t { nx := fun _ H' => Q .non H', rt := Q } (start N vs) H) : CalD P w K mg base (k + 1) x ps dvs sp := by
  obtain ⟨f, dT, oc, od, an, dd, kV, doc, pm, cdv, ct, osl, sl, items, n, lk, hcd, kp, hm, lt, rv⟩ := D.ex
  have hl := rv.length
  refine ⟨f, _, fn_of lk hcd S len fun A outer s H vs Q E hr hsp => ?_, fun j hj => ⟨items.drop j, rv.drop j, fun s us X hlen => ?_⟩, kp, hm⟩
  · obtain ⟨t, h, q⟩ := hbody f cdv A outer s H vs Q E hr hsp
    exact ⟨t, h.nox, q⟩
  · obtain ⟨k, h1, h2⟩ := hb dT kV doc pm an cdv ct items us j hl.symm hj hlen
    exact BindsTo.of_defaults rfl (X dT _ lt) rfl h1 h2
end
section
variable {X : Cx} {k : Nat} {x : Str} {ps : List Str} {sp : Sp} {p pos : Pos} {e : Expr} {es : List Expr} {t : TA} {dvs : List V}
theorem pe_calD (j : Nat) (C : CalD X.prog X.w X.K X.mg X.base k x ps dvs sp) (hr : Room k X.A) (hj : j ≤ dvs.length) (ha : PA X (e :: es) t) (hg : Gl X x := by rfl) (hdb : (x == ("__debug__" : Str)) = false := by decide) (he : starEach (e :: es) X.env = (false, eval e X.env) :: starEach es X.env := by rfl)
    (hpl : (backTo pos (starEach es X.env)).any (·.1) = false := by rfl) : PE X (.Call (.Name x p) (e :: es) [] pos) (tCall sp (dvs.drop j) E0 t) := by
  obtain ⟨f, fd, F, hb, hk, hm⟩ := C.ex
  obtain ⟨ds, rv, hb⟩ := hb j hj
  exact pe_call F hr hg hm hk hb rv pass0 ha hdb he hpl
theorem range_all_get (bs : List Bool) : (List.range bs.length).all (fun i => bs.getD i false) = bs.all id := by
  induction bs with
  | nil => rfl
  | cons b bs ih => rw [List.length_cons, List.range_succ_eq_map, List.all_cons, List.all_map, List.all_cons, ← ih]; rfl
theorem bls_get {bs : List Bool} {its : List Value} (r : Vals (bs.map V.bl) its) {i : Nat} {v : Value} (h : its.toArray[i]? = some v) : v = .bool (bs.getD i false) := by
  have h' : its[i]? = some v := by simpa using h
  have hl := r.length
  rw [List.length_map] at hl
  have hi : i < bs.length := by have := (List.getElem?_eq_some_iff.mp h').1; omega
  obtain ⟨u, e1, e2⟩ := r.get (i := i) (x := V.bl bs[i]) (by rw [List.getElem?_map, List.getElem?_eq_getElem hi]; rfl)
  rw [h'] at e1
  cases e1
  rw [show v = Value.bool bs[i] from e2, List.getD_eq_getElem?_getD, List.getElem?_eq_getElem hi]; rfl
theorem call_all (hc : X.calm = true) : CallR X (.builtin "all") (fun xs H Q => ∃ (p : Addr) (bs : List Bool), xs = [.ref p] ∧ SqL X.K H p (bs.map V.bl) ∧ Q (.bl (bs.all id)) H) := by
  intro pins s σ H xs us Q I r h
  obtain ⟨p, bs, rfl, hS, q⟩ := h
  obtain ⟨u, rfl, ru⟩ := vals1 r
  cases (show u = Value.ref p from ru)
  obtain ⟨its, rv, pl, hz⟩ := I.list hS
  have hl := rv.length
  rw [List.length_map] at hl
  have hps : p < s.heap.objs.size := let ⟨o, ho, _⟩ := pl.isList; Heap.lt_size ho
  obtain ⟨f0, f1, f2, f3, f4, f5⟩ := I.fpOk (H' := H) (Nat.le_refl s.heap.objs.size) (I.hok.fresh (Nat.le_refl _))
  refine call_all_walk (wpAny_pyIter_list pl.isList ⟨s.heap.objs.size, _, _, its.toArray.size, _, _, fun i => bs.getD i false, rfl, Walks.list (by exact I.ok.hd hc) s.heap.objs.size p (Nat.ne_of_lt hps) its.toArray, ⟨⟨_, Heap.get?_push_size _ rfl, rfl, rfl⟩, pl.isList.push _⟩, fun i v s Q E hP hQ => ?_, fun h' tk hk => ?_⟩)
  · rw [bls_get rv hP]; exact wpAny_truthy_bool hQ
  · have I1 : Inv X pins σ H { s with heap := s.heap.push { cls := .type "list_iterator", data := .fields #[.ref p, .int 0 0] } } := I.kept (t' := s.toks) fun b o e => Heap.get?_push_of_some _ e
    have I2 := I1.turned (h' := h') (t' := tk) (it := s.heap.objs.size) (fun b o hb e => hk b o (by simpa using hb) e) f0 f1 f3 f4 f5
    refine ⟨.bl (bs.all id), H, I2, ?_, q⟩
    show Value.bool _ = Value.bool _
    rw [List.size_toArray, ← hl, range_all_get]
end
end L2
namespace L2
open PySem PySem.Spec PyProof.Rows
end L2
namespace L2
open PySem PySem.Spec PyProof.Rows
end L2
namespace L2
open PySem PySem.Spec PyProof.Rows
section
variable {X : Cx} {p : Pos}
end
end L2
namespace L2
open PySem PySem.Spec PyProof.Rows
section
variable {X : Cx} {pins : List (Addr × Obj)} {σ : L2.St} {H : Hp} {s : Shared} {a : Addr} {kvs : List (Key × V)} {k : Key} {d : V} {u r : Value} {A : Around} {E : Value → Shared → Prop}
end
section
variable {X : Cx} {o e f : Expr} {apos cpos : Pos} {td ty tx : TE}
theorem call_lenD : CallR X (.builtin "len") (fun xs H Q => ∃ p kvs, xs = [.ref p] ∧ Rd H p (.dK kvs) ∧ Q (.int kvs.length) H) := by
  intro pins s σ H xs us Q I r h
  obtain ⟨p, kvs, rfl, hd, q⟩ := h
  obtain ⟨u, rfl, ru⟩ := vals1 r
  cases (show u = Value.ref p from ru)
  exact d_len I hd fun t s' I' => ⟨.int kvs.length, H, I', ⟨t, rfl⟩, q⟩
end
def clsOf (K : PySem.W.Frag) (x : Str) : Addr := match PySem.W.nsIn K mainGlobals x with
  | some (some (.ref C)) => C
  | _ => 0
theorem clsOf_is {K : PySem.W.Frag} {x : Str} {C : Addr} (h : PySem.W.nsIn K mainGlobals x = some (some (.ref C))) : clsOf K x = C := by unfold clsOf; rw [h]
section
variable {P : Program} {w : World} {K : PySem.W.Frag} {mg : Str → Option Value} {base : Heap} {x m qual : Str} {C : Addr} {st : Stmt} {N ps : List Str} {k : Nat} {sp : Sp}
end
section
variable {X : Cx} {k : Nat} {x m : Str} {C : Addr} {ps : List Str} {sp : Sp} {p pos apos : Pos} {o e : Expr} {es : List Expr} {ta : TE} {t : TA}
end
end L2
namespace L2
open PySem PySem.Spec PyProof.Rows
theorem draws_row {prog : Program} {w : World} {A : Around} (k : Bool) (hh : A.handled = none) (it a : Addr) (hne : a ≠ it) (its : Array Value) :
    Draws prog w A it [it, a] its.size (fun i v => its[i]? = some v) (fun i h => WalkIs k h it a i ∧ RowIs k h a its) where
  live := fun _ _ st => let ⟨o, ho, _⟩ := st.1; ⟨o, ho⟩
  frame := fun _ _ _ st hk => ⟨st.1.mv fun o e => hk it (by simp) o e, st.2.mv fun o e => hk a (by simp) o e⟩
  item := fun i s Q E hi st hQ => by
    refine rowNext_item st.1 st.2 (x := its[i]) (by simp [hi]) fun h' hit' hs' => ?_
    exact hQ _ h' s.toks (by simp [hi]) ⟨hit', st.2.mv fun o e => hs'.extBut _ o hne e⟩ hs'
  done := fun s Q E st hE => rowNext_end hh st.1 st.2 (by simp) hE
def Ite (k : Bool) (K : PySem.W.Frag) (a : Addr) : It :=
  ⟨fun i H => ∃ xs x, Sq k K H a xs ∧ xs[i]? = some x,
   fun i H p H' => ∃ T x, H T = none ∧ p = .ref T ∧ (∀ xs, Sq k K H a xs → xs[i]? = some x) ∧ H' = upd H T (.tup [.int (i : Int), x]),
   fun i H => ∃ xs, Sq k K H a xs ∧ xs.length ≤ i⟩
theorem turn_enum {P : Program} {w : World} {K : PySem.W.Frag} {es : List Expr} {ct : Nat} {tp : Pos} {k : Bool} {a e it : Addr} (hei : e ≠ it) :
    Turn P w K (.Tuple es ct tp) (Ite k K a) [e, it] e (fun n h => (∃ old, IsEnum h e it ((n : Nat) : Int) old) ∧ WalkIs k h it a n) where
  mem := by simp
  obj := fun n h st b hb => by
    obtain ⟨⟨old, he⟩, o1, g1, c1, d1⟩ := st
    simp only [List.mem_cons, List.not_mem_nil, or_false] at hb
    rcases hb with rfl | rfl
    · exact ⟨_, he, fun v q => by cases q⟩
    · exact ⟨_, g1, fun v q => by rw [d1] at q; cases q⟩
  keep := fun n h h' st kk => by
    obtain ⟨⟨old, he⟩, w1⟩ := st
    exact ⟨⟨old, kk e (by simp) _ he⟩, w1.mv fun o q => kk it (by simp) o q⟩
  item := by
    intro X hP hw hK hc n pins s σ H E I hf st hg
    subst hP hw hK
    obtain ⟨xs, x, q1, hx⟩ := hg
    obtain ⟨⟨old, he⟩, w1⟩ := st
    obtain ⟨its, rv, p, _⟩ := I.row q1
    obtain ⟨ux, hux, rx⟩ := rv.get hx
    have ne := I.row_ne q1 (hf e (by simp))
    have ni := I.row_ne q1 (hf it (by simp))
    have hlt : n < its.toArray.size := by
      have := (List.getElem?_eq_some_iff.mp hux).1
      simpa using this
    have hhd : X.A.in1.handled = none := by exact I.ok.hd hc
    refine wpAny_pyNext_enum_itemD (draws_row k hhd it a ni its.toArray) he ⟨w1, p⟩ hlt hei (by simp [hei, Ne.symm ne]) fun y h' tk hP ho hst ht hsz hk => ?_
    have hy : y = ux := by
      have h1 : its[n]? = some y := by simpa using hP
      rw [hux] at h1; exact (Option.some.inj h1).symm
    subst hy
    refine ⟨_, rfl, wpAny_letOwnedTupleGo_enum ho fun g ge gs => ?_⟩
    have lt : ∀ {b o}, s.heap.get? b = some o → s.heap.objs.size ≠ b := fun q => Nat.ne_of_gt (Heap.lt_size q)
    have kp : ∀ b o, b ∉ [e, it] → s.heap.get? b = some o → g.get? b = some o := fun b o hb q => by
      simp only [List.mem_cons, List.not_mem_nil, or_false, not_or] at hb
      exact gs.extBut _ _ hb.1 (hk b o hb.1 hb.2 q)
    have I2 : Inv X pins σ (upd H s.heap.objs.size (.tup [.int (n : Int), x])) { s with heap := g, toks := tk + 1 } := I.yielded (ch := [e, it]) (fun b hb => hf b hb) (Nat.le_refl _) kp
      ⟨by show 2 ≤ sizeLine; decide, [.int (n : Int) tk, y], .cons ⟨tk, rfl⟩ (.cons rx .nil), _, gs.extBut _ _ (lt he) ht, rfl, _, rfl⟩
    refine ⟨.ref s.heap.objs.size, _, I2, rfl, ⟨_, x, I.hok.fresh (Nat.le_refl _), rfl, fun xs' q => by rw [I.row_inj q q1]; exact hx, rfl⟩, ⟨⟨y, by simpa using ge⟩, hst.1.mv fun o q => gs.extBut _ o (Ne.symm hei) q⟩, fun b hb => ?_⟩
    rw [upd_ne ?_]
    · exact (hf b hb).1
    · intro q
      subst q
      simp only [List.mem_cons, List.not_mem_nil, or_false] at hb
      obtain ⟨o1, g1, _⟩ := w1
      rcases hb with q | q
      · exact lt he q
      · exact lt g1 q
  done := by
    intro X hP hw hK hc n pins s σ H E I hf st hg
    subst hP hw hK
    obtain ⟨xs, q1, hend⟩ := hg
    obtain ⟨⟨old, he⟩, w1⟩ := st
    obtain ⟨its, rv, p, _⟩ := I.row q1
    have e1 := rv.length
    have ni := I.row_ne q1 (hf it (by simp))
    have hhd : X.A.in1.handled = none := by exact I.ok.hd hc
    obtain ⟨f0, f1, f2, f3, f4, f5⟩ := hf it (by simp)
    -- the walk's end is wherever the row has no item
    have hT : s.TypeIs (.ref e) "enumerate" := ⟨_, he, rfl⟩
    unfold pyNext
    refine wpAny_bind (wpAny_attempt (wpAny_callSpecial?_slot (name := Str.ofString "__next__") hT F.slot_enumerate_next
      (wpAny_call_entry F.slot_enumerate_next hT F.entry_enumerate_next ?_ (F.args_enumerate_next_1 _))))
    show wpAny _ _ (field (.ref e) 2 >>= _) _ _ _
    refine wpAny_bind (wpAny_field he rfl (x := .ref it) rfl ?_)
    refine wpAny_bind (rowNext_end hhd w1 p (by simp; omega) fun h' x he' hx' => ?_)
    obtain ⟨o, ho, hcl⟩ := hx'
    refine wpAny_bind (wpAny_isInstance (T := "StopIteration") (b := true) ⟨o, ho, hcl⟩ isSubtype_stop ?_)
    exact wpAny_pure ⟨rfl, I.turned (t' := s.toks) (fun b o hb q => he' b o hb q) f0 f1 f3 f4 f5⟩
  self := fun _ _ _ _ _ st h => let ⟨⟨_, he⟩, _⟩ := st; wpAny_pyIter_enum he h
section
variable {P : Program} {w : World} {A : Around} {E : Value → Shared → Prop} {s : Shared} {k : Bool}
theorem enumMade (k : Bool) (a : Addr) (xs : Array Value) : Meets (Builtin.«enumerate.__new__» ⟨[.type "enumerate", .ref a], []⟩) (fun _ R s => RowIs k s.heap a xs ∧
      R (.ok (.ret (.ref (s.heap.push (rowIt k a)).objs.size))) { s with heap := (s.heap.push (rowIt k a)).push { cls := .type "enumerate", data := .fields #[.none, .bool false, .ref s.heap.objs.size, rawInt 0, .none, .none] } }) :=
  .of_wp fun prog w A R s h => by
    obtain ⟨hp, g, d, tk, os⟩ := s
    obtain ⟨r1, h⟩ := h
    have hsub := sub_enumerate
    have R1 : RowIs k (Shared.heap ⟨hp, g, d, tk, os⟩) a xs := r1
    obtain ⟨⟨cls, dd, data, sl⟩, ho, hc, n, hd⟩ := id r1
    simp only at hc hd
    subst hc hd
    wp_walk using AutoSeq1.wpAny_loadPart' ho
    refine wpAny_stack_any fun st => wpAny_pure ?_
    split
    · rename_i c _ _ _ _ _
      cases (c == Value.type "enumerate")
      · wp_walk using AutoSeq1.wpAny_loadPart' ho, pyIter_row R1
        exact ⟨_, rfl, h⟩
      · wp_walk using AutoSeq1.wpAny_loadPart' ho, pyIter_row R1
        exact ⟨_, rfl, h⟩
    · wp_walk using AutoSeq1.wpAny_loadPart' ho, pyIter_row R1
      exact ⟨_, rfl, h⟩
theorem enumCall {a : Addr} {xs : Array Value} {Q : Value → Shared → Prop} (r1 : RowIs k s.heap a xs)
    (h : ∀ h', IsEnum h' (s.heap.objs.size + 1) s.heap.objs.size 0 .none → WalkIs k h' s.heap.objs.size a 0 → (∀ b o, s.heap.get? b = some o → h'.get? b = some o) → Q (.ref (s.heap.objs.size + 1)) { s with heap := h' }) :
    wpAny (model P w) A (call (.type "enumerate") [.ref a]) Q E s := by
  refine callType_new F.called_enumerate (by decide) (F.typeCall_enumerate_1 _) (F.newCall_enumerate_1 _) (fun obj => F.args_object_init_2 obj _) F.entry_enumerate_new (enumMade k a xs) ⟨r1, ?_⟩
  have z1 : (s.heap.push (rowIt k a)).objs.size = s.heap.objs.size + 1 := Heap.size_push ..
  have g2 : ((s.heap.push (rowIt k a)).push { cls := .type "enumerate", data := .fields #[.none, .bool false, .ref s.heap.objs.size, rawInt 0, .none, .none] }).get? (s.heap.push (rowIt k a)).objs.size = some _ := Heap.get?_push_size _ rfl
  have g1 := Heap.get?_push_of_some { cls := .type "enumerate", data := .fields #[.none, .bool false, .ref s.heap.objs.size, rawInt 0, .none, .none] } (Heap.get?_push_size s.heap (o := rowIt k a) rfl)
  show _ ∧ _
  rw [z1] at g2 ⊢
  exact ⟨⟨_, g2, rfl⟩, h _ g2 ⟨_, g1, rfl, rfl⟩ fun b o q => Heap.get?_push_of_some _ (Heap.get?_push_of_some _ q)⟩
end
section
variable {X : Cx} {es : List Expr} {ct : Nat} {tp : Pos}
def iEnum (K : PySem.W.Frag) (ta : TA) : TI := fun σ H R => ta σ H fun vs H1 => ∃ k a, vs = [.ref a] ∧ (∃ xs, Sq k K H1 a xs) ∧ R (Ite k K a) H1
theorem pi_enum {a : Expr} {ta : TA} {p pos : Pos} (hg : Gl X "enumerate") (hm : X.mg "enumerate" = none) (ha : PA X [a] ta) (hs : starEach [a] X.env = [(false, eval a X.env)] := by rfl) :
    PI X (.Tuple es ct tp) (.Call (.Name "enumerate" p) [a] [] pos) (iEnum X.K ta) := by
  intro pins s σ H R I h
  refine Call_ (ld_blt I hg hm boot_enumerate (PyProof.Rows.callWith_type1 (thn (ha pos pins s σ H _ I h) fun us s1 ⟨vs, H1, I1, r1, q1⟩ => ?_) hs rfl))
  obtain ⟨k, a, e, ⟨xs, q1⟩, q⟩ := q1
  subst e
  cases r1 with
  | cons r rr =>
    cases rr
    cases r
    obtain ⟨its, rv, p, _⟩ := I1.row q1
    refine enumCall p fun h' g1 g2 kk => wpAny_pyIter_enum g1 ?_
    have I2 : Inv X pins σ H1 { s1 with heap := h', toks := s1.toks } := I1.kept kk
    refine ⟨s1.heap.objs.size + 1, [s1.heap.objs.size + 1, s1.heap.objs.size], _, _, H1, rfl, I2, turn_enum (k := k) (a := a) (it := s1.heap.objs.size) (Nat.ne_of_gt (Nat.lt_succ_self _)), ⟨⟨_, g1⟩, g2⟩, fun b hb => ?_, q⟩
    have hle : s1.heap.objs.size ≤ b := by
      simp only [List.mem_cons, List.not_mem_nil, or_false] at hb
      rcases hb with e | e
      · rw [e]; exact Nat.le_add_right _ _
      · rw [e]; exact Nat.le_refl _
    exact I1.fpOk hle (I1.hok.fresh hle)
end
end L2
namespace L2
open PySem PySem.Spec PyProof.Rows
section
variable {X : Cx}
theorem strs_of : ∀ {ws : List (List Nat)} {us : List Value}, Vals (ws.map tx) us → StrsAre us (ws.map S)
  | [], _, .nil => .nil
  | w :: ws, _, .cons r rr => by
    obtain ⟨t, e⟩ := r
    subst e
    exact .cons _ _ (strs_of rr)
end
end L2
namespace L2
open PySem PySem.Spec PyProof.Rows
section
variable {X : Cx} {es : List Expr} {ct : Nat} {tp : Pos}
end
end L2
namespace L2
open PySem PySem.Spec PyProof.Rows
section
variable {X : Cx} {e : Expr} {ta : TE} {f : Str} {pos : Pos}
def rLenL (K : PySem.W.Frag) : List V → Hp → VK → Prop := fun xs H Q => ∃ p ys, xs = [.ref p] ∧ SqL K H p ys ∧ Q (.int ys.length) H
def rLenT (K : PySem.W.Frag) : List V → Hp → VK → Prop := fun xs H Q => ∃ p ys, xs = [.ref p] ∧ SqT K H p ys ∧ Q (.int ys.length) H
def rIsI (K : PySem.W.Frag) : List V → Hp → VK → Prop := fun xs H Q => ∃ x n t b, xs = [x, .ty n] ∧ TyOf K H x t ∧ PySem.W.kitOne K t (.type n) = some b ∧ Q (.bl b) H
def rListOf (K : PySem.W.Frag) : List V → Hp → VK → Prop := fun xs H Q => ∃ p ys, xs = [.ref p] ∧ (SqL K H p ys ∨ SqT K H p ys) ∧ ∀ l, H l = none → Q (.ref l) (upd H l (.lst ys))
end
end L2
namespace L2
open PySem PySem.Spec PyProof.Rows
section
variable {X : Cx} {o e : Expr} {es : List Expr} {to : TE} {t : TA} {name : Str} {apos cpos : Pos} {T id : String} {r : V → List V → Hp → VK → Prop}
theorem pe_bmK (K : PySem.W.Frag) (eK : X.K = K) (pa : PlainAttrs T) (slot : Slot T name id) (hty : typeOf (.builtin id) = pure (.type "method_descriptor")) (hm : MtR X id r) (ho : PE X o to) (ha : PA X (e :: es) t)
    (hbase : attributeBase o name X.env (eval o X.env) = eval o X.env := by rfl)
    (hfew : ((backTo cpos (starEach (e :: es) X.env)).all (fun x => !x.1) && (backToKw cpos (keywordEach [] X.env)).all (fun x => x.1.isSome)
      && decide ((e :: es).length + ([] : List Keyword).length + (if ([] : List Keyword).isEmpty then 0 else 1) < 30)) = true := by rfl)
    (hline : (apos.endLine == cpos.line) = true := by rfl) (hs : starEach (e :: es) X.env = (false, eval e X.env) :: starEach es X.env := by rfl) (hplain : (backTo cpos (starEach es X.env)).any (·.1) = false := by rfl) :
    PE X (.Call (.Attribute o name apos) (e :: es) [] cpos) (tBM K T r to t) := eK ▸ pe_bm pa slot hty hm ho ha hbase hfew hline hs hplain
end
end L2
namespace L2
open PySem PySem.Spec PyProof.Rows
def PIte (c : Bool) (A B : Prop) : Prop := match c with | true => A | false => B
theorem pite {c : Bool} {A B : Prop} (h1 : c = true → A) (h2 : c = false → B) : PIte c A B := by
 cases c with
 | true => exact h1 rfl
 | false => exact h2 rfl
theorem piteD {p : Prop} [Decidable p] {A B : Prop} (h1 : p → A) (h2 : ¬ p → B) : PIte (decide p) A B := pite (fun h => h1 (of_decide_eq_true h)) (fun h => h2 (of_decide_eq_false h))
theorem piteN {p : Prop} [Decidable p] {A B : Prop} (h1 : ¬ p → A) (h2 : p → B) : PIte (!decide p) A B := pite (fun h => h1 fun z => by rw [decide_eq_true z] at h; cases h) (fun h => h2 (by
 by_cases z : p
 ·exact z
 ·rw [decide_eq_false z] at h; cases h))
theorem piteNT {p : Prop} [Decidable p] {A B : Prop} (h : ¬ p) (hA : A) : PIte (!decide p) A B := piteN (fun _ => hA) (fun z => absurd z h)
theorem piteNF {p : Prop} [Decidable p] {A B : Prop} (h : p) (hB : B) : PIte (!decide p) A B := piteN (fun z => absurd h z) (fun _ => hB)
theorem pitNT {c : Bool} {A B : Prop} (h : c = false) (hA : A) : PIte (!c) A B := by subst h; exact hA
theorem pitNF {c : Bool} {A B : Prop} (h : c = true) (hB : B) : PIte (!c) A B := by subst h; exact hB
inductive D where
 | non | bl (b : Bool) | int (i : Int) | str (l : List Nat) | ty (n : String)
 | lst (ds : List D) | tup (ds : List D) | scr (ns : List Int) | dic (ks : List Key) (ds : List D) | obj (c : Str) (ns : List Str) (ds : List D) | exc (c : Str) (ns : List Str) (ds : List D)
def XAt (x C : Addr) (dd : Option Addr) (new : Bool) (h : Heap) : Prop := ∃ o vs, h.get? x = some o ∧ o.cls = .ref C ∧ o.dict = dd ∧ o.data = .fields vs ∧ 1 < vs.size ∧ (new = true → vs[1]? = some .none)
def plus (A : Addr → Prop) (a : Addr) : Addr → Prop := fun b => A b ∨ b = a
def SqLo (K : PySem.W.Frag) (O : Addr → Prop) (H : Hp) (a : Addr) (xs : List V) : Prop :=
 (¬ O a ∧ Rd H a (.lst xs)) ∨ ∃ (o : Obj) (its : Array Value) (n : Nat), K.lookup a = some o ∧ o.cls = .type "list" ∧ o.dict = none ∧ o.data = .seq its n ∧ its.size ≤ sizeLine ∧ Vals xs its.toList
theorem SqLo.sq {K : PySem.W.Frag} {O : Addr → Prop} {H : Hp} {a : Addr} {xs : List V} (h : SqLo K O H a xs) : SqL K H a xs := h.elim (fun z => .inl z.2) .inr
def Keeps (O : Addr → Prop) (H : Hp) (O' : Addr → Prop) (H' : Hp) : Prop := ∀ b o, ¬ O b → H b = some o → ¬ O' b ∧ H' b = some o
theorem Rd.keeps {O O' : Addr → Prop} {H H' : Hp} {a : Addr} {u : HO} (k : Keeps O H O' H') (n : ¬ O a) (r : Rd H a u) : ¬ O' a ∧ Rd H' a u := by
 rcases r with e | ⟨o, e⟩
 ·exact ⟨(k _ _ n e).1, .inl (k _ _ n e).2⟩
 ·exact ⟨(k _ _ n e).1, .inr ⟨o, (k _ _ n e).2⟩⟩
theorem SqLo.keeps {K : PySem.W.Frag} {O O' : Addr → Prop} {H H' : Hp} {a : Addr} {xs : List V} (k : Keeps O H O' H') (h : SqLo K O H a xs) : SqLo K O' H' a xs := by
 rcases h with ⟨n, r⟩ | r
 ·exact .inl (r.keeps k n)
 ·exact .inr r
mutual
inductive FV (K : PySem.W.Frag) (O : Addr → Prop) (H : Hp) : V → D → Prop
 | non : FV K O H .non .non
 | bl (b : Bool) : FV K O H (.bl b) (.bl b)
 | int (i : Int) : FV K O H (.int i) (.int i)
 | str (l : List Nat) : l.length ≤ 1000000 → FV K O H (.str (S l)) (.str l)
 | ty (n : String) : FV K O H (.ty n) (.ty n)
 | scr {a : Addr} {ns : List Int} : SqLo K O H a (ns.map V.int) → FV K O H (.ref a) (.scr ns)
 | lst {a : Addr} {xs : List V} {ds : List D} : ¬ O a → H a = some (.lst xs) → FVs K O H xs ds → FV K O H (.ref a) (.lst ds)
 | tup {a : Addr} {xs : List V} {ds : List D} : ¬ O a → H a = some (.tup xs) → FVs K O H xs ds → FV K O H (.ref a) (.tup ds)
 | dic {a : Addr} {kvs : List (Key × V)} {ks : List Key} {ds : List D} : ¬ O a → H a = some (.dK kvs) → kvs.map Prod.fst = ks → FVs K O H (kvs.map Prod.snd) ds → FV K O H (.ref a) (.dic ks ds)
 | obj {a dx : Addr} {c : Str} {fs : List (Str × V)} {ns : List Str} {ds : List D} : ¬ O a → H a = some (.ins (clsOf K c) dx fs) → fs.map Prod.fst = ns → FVs K O H (fs.map Prod.snd) ds → FV K O H (.ref a) (.obj c ns ds)
 | exc0 {a : Addr} {c : Str} {new : Bool} : ¬ O a → H a = some (.ext (XAt a (clsOf K c) none new)) → FV K O H (.ref a) (.exc c [] [])
 | exc1 {a dx : Addr} {c : Str} {new : Bool} {fs : List (Str × V)} {ns : List Str} {ds : List D} : ¬ O a → ¬ O dx → H a = some (.ext (XAt a (clsOf K c) (some dx) new)) → H dx = some (.xd fs) → fs.map Prod.fst = ns → FVs K O H (fs.map Prod.snd) ds → FV K O H (.ref a) (.exc c ns ds)
inductive FVs (K : PySem.W.Frag) (O : Addr → Prop) (H : Hp) : List V → List D → Prop
 | nil : FVs K O H [] []
 | cons {x : V} {d : D} {xs : List V} {ds : List D} : FV K O H x d → FVs K O H xs ds → FVs K O H (x :: xs) (d :: ds)
end
section
variable {K : PySem.W.Frag} {O O' : Addr → Prop} {H H' : Hp}
mutual
theorem FV.keeps (k : Keeps O H O' H') : ∀ {v : V} {d : D}, FV K O H v d → FV K O' H' v d
 | _, _, .non => .non
 | _, _, .bl b => .bl b
 | _, _, .int i => .int i
 | _, _, .str l h => .str l h
 | _, _, .ty n => .ty n
 | _, _, .scr s => .scr (s.keeps k)
 | _, _, .lst n e f => .lst (k _ _ n e).1 (k _ _ n e).2 (FVs.keeps k f)
 | _, _, .tup n e f => .tup (k _ _ n e).1 (k _ _ n e).2 (FVs.keeps k f)
 | _, _, .dic n e m f => .dic (k _ _ n e).1 (k _ _ n e).2 m (FVs.keeps k f)
 | _, _, .obj n e m f => .obj (k _ _ n e).1 (k _ _ n e).2 m (FVs.keeps k f)
 | _, _, .exc0 n e => .exc0 (k _ _ n e).1 (k _ _ n e).2
 | _, _, .exc1 n n2 e e2 m f => .exc1 (k _ _ n e).1 (k _ _ n2 e2).1 (k _ _ n e).2 (k _ _ n2 e2).2 m (FVs.keeps k f)
theorem FVs.keeps (k : Keeps O H O' H') : ∀ {vs : List V} {ds : List D}, FVs K O H vs ds → FVs K O' H' vs ds
 | _, _, .nil => .nil
 | _, _, .cons a b => .cons (FV.keeps k a) (FVs.keeps k b)
end
theorem FVs.length : ∀ {vs : List V} {ds : List D}, FVs K O H vs ds → vs.length = ds.length
 | _, _, .nil => rfl
 | _, _, .cons _ b => by rw [List.length_cons, List.length_cons, b.length]
theorem FVs.get : ∀ {vs : List V} {ds : List D} {i : Nat} {v : V}, FVs K O H vs ds → vs[i]? = some v → ∃ d, ds[i]? = some d ∧ FV K O H v d
 | _, _, 0, _, .cons a _, e => by simp at e; subst e; exact ⟨_, rfl, a⟩
 | _, _, i + 1, v, .cons _ b, e => by
  obtain ⟨d, h1, h2⟩ := b.get (i := i) (v := v) (by simpa using e)
  exact ⟨d, by simpa using h1, h2⟩
theorem FVs.getD : ∀ {vs : List V} {ds : List D} {i : Nat} {d : D}, FVs K O H vs ds → ds[i]? = some d → ∃ v, vs[i]? = some v ∧ FV K O H v d
 | _, _, 0, _, .cons a _, e => by simp at e; subst e; exact ⟨_, rfl, a⟩
 | _, _, i + 1, v, .cons _ b, e => by
  obtain ⟨d, h1, h2⟩ := b.getD (i := i) (d := v) (by simpa using e)
  exact ⟨d, by simpa using h1, h2⟩
theorem FVs.append : ∀ {vs ws : List V} {ds es : List D}, FVs K O H vs ds → FVs K O H ws es → FVs K O H (vs ++ ws) (ds ++ es)
 | _, _, _, _, .nil, s => s
 | _, _, _, _, .cons a b, s => .cons a (b.append s)
theorem FVs.set {v : V} {d : D} (f : FV K O H v d) : ∀ {vs : List V} {ds : List D} (i : Nat), FVs K O H vs ds → FVs K O H (vs.set i v) (ds.set i d)
 | _, _, _, .nil => .nil
 | _, _, 0, .cons _ t => .cons f t
 | _, _, i + 1, .cons q t => .cons q (FVs.set f i t)
theorem FVs.take : ∀ {vs : List V} {ds : List D} (n : Nat), FVs K O H vs ds → FVs K O H (vs.take n) (ds.take n)
 | _, _, 0, _ => .nil
 | _, _, _ + 1, .nil => .nil
 | _, _, n + 1, .cons r t => .cons r (t.take n)
theorem FVs.drop : ∀ {vs : List V} {ds : List D} (n : Nat), FVs K O H vs ds → FVs K O H (vs.drop n) (ds.drop n)
 | _, _, 0, r => r
 | _, _, _ + 1, .nil => .nil
 | _, _, n + 1, .cons _ t => t.drop n
theorem FVs.of_ints : ∀ ns : List Int, FVs K O H (ns.map V.int) (ns.map D.int)
 | [] => .nil
 | n :: r => .cons (.int n) (FVs.of_ints r)
theorem FVs.strs : ∀ {vs : List V} {ws : List (List Nat)}, FVs K O H vs (ws.map D.str) → vs = ws.map tx
 | _, [], .nil => rfl
 | _, n :: r, h => by
  cases h with
  | cons a b => cases a; rw [FVs.strs b]; rfl
theorem FVs.of_strs : ∀ ws : List (List Nat), (∀ w ∈ ws, w.length ≤ 1000000) → FVs K O H (ws.map tx) (ws.map D.str)
 | [], _ => .nil
 | n :: r, h => .cons (.str n (h n (List.mem_cons_self ..))) (FVs.of_strs r fun w hw => h w (List.mem_cons_of_mem _ hw))
theorem FVs.bls : ∀ {vs : List V} {bs : List Bool}, FVs K O H vs (bs.map D.bl) → vs = bs.map V.bl
 | _, [], .nil => rfl
 | _, n :: r, h => by
  cases h with
  | cons a b => cases a; rw [FVs.bls b]; rfl
end
inductive PV where
 | dat (d : D) | own (ds : List D) | ins (c : Str) (ns : List Str) (ds : List D)
def PV.isOwn : PV → Bool
 | .dat _ => false
 | _ => true
def PV.d : PV → D
 | .dat d => d
 | .own ds => .lst ds
 | .ins c ns ds => .obj c ns ds
abbrev PSt := List (Option PV)
def Wr (ρ : PSt) (σ : St) (b : Addr) : Prop := ∃ (i : Nat) (p : PV), ρ[i]? = some (some p) ∧ p.isOwn = true ∧ σ[i]? = some (some (.ref b))
def OO (A : Addr → Prop) (ρ : PSt) (σ : St) (b : Addr) : Prop := A b ∨ Wr ρ σ b
def RS (K : PySem.W.Frag) (O : Addr → Prop) (H : Hp) : PV → V → Prop
 | .dat d, v => FV K O H v d
 | .own ds, v => ∃ a xs, v = .ref a ∧ H a = some (.lst xs) ∧ FVs K O H xs ds
 | .ins c ns ds, v => ∃ a dx fs, v = .ref a ∧ H a = some (.ins (clsOf K c) dx fs) ∧ fs.map Prod.fst = ns ∧ FVs K O H (fs.map Prod.snd) ds
structure Rel (K : PySem.W.Frag) (A : Addr → Prop) (ρ : PSt) (σ : St) (H : Hp) : Prop where
 len : ρ.length = σ.length
 get : ∀ (i : Nat) (p : PV), ρ[i]? = some (some p) → ∃ v, σ[i]? = some (some v) ∧ RS K (OO A ρ σ) H p v
 dj : ∀ (i j : Nat) (p q : PV) (v : V), ρ[i]? = some (some p) → ρ[j]? = some (some q) → p.isOwn = true → q.isOwn = true → σ[i]? = some (some v) → σ[j]? = some (some v) → i = j
 dom : ∀ b, A b → H b ≠ none
 sep : ∀ b, A b → ¬ Wr ρ σ b
structure Fr (ρ : PSt) (σ : St) (H : Hp) (ρ' : PSt) (H' : Hp) : Prop where
 kp : ∀ b o, ¬ Wr ρ σ b → H b = some o → H' b = some o
 dm : ∀ b, H b ≠ none → H' b ≠ none
 ow : ∀ b, Wr ρ' σ b → Wr ρ σ b
theorem Fr.refl (ρ : PSt) (σ : St) (H : Hp) : Fr ρ σ H ρ H := ⟨fun _ _ _ h => h, fun _ h => h, fun _ h => h⟩
theorem Fr.trans {ρ ρ1 ρ2 : PSt} {σ : St} {H H1 H2 : Hp} (a : Fr ρ σ H ρ1 H1) (b : Fr ρ1 σ H1 ρ2 H2) : Fr ρ σ H ρ2 H2 :=
 ⟨fun c o n h => b.kp c o (fun z => n (a.ow c z)) (a.kp c o n h), fun c h => b.dm c (a.dm c h), fun c h => a.ow c (b.ow c h)⟩
theorem Fr.keeps {ρ ρ' : PSt} {σ : St} {H H' : Hp} {A : Addr → Prop} (f : Fr ρ σ H ρ' H') : Keeps (OO A ρ σ) H (OO A ρ' σ) H' := fun b o n h =>
 ⟨fun z => z.elim (fun z => n (.inl z)) (fun z => n (.inr (f.ow b z))), f.kp b o (fun z => n (.inr z)) h⟩
theorem Fr.new {ρ : PSt} {σ : St} {H : Hp} {p : Addr} {o : HO} (h : H p = none) : Fr ρ σ H ρ (upd H p o) :=
 ⟨fun b u _ e => by rw [upd_ne (ne_of_none e h)]; exact e, fun b e => by
  by_cases z : b = p
  ·rw [z, upd_same]; exact nofun
  ·rw [upd_ne z]; exact e, fun _ h => h⟩
theorem Keeps.fresh {O : Addr → Prop} {H : Hp} {p : Addr} {o : HO} (h : H p = none) : Keeps O H (plus O p) (upd H p o) := fun b u n e =>
 ⟨fun z => z.elim n (fun z => by rw [z, h] at e; cases e), by rw [upd_ne (ne_of_none e h)]; exact e⟩
theorem Keeps.less {O O' : Addr → Prop} {H : Hp} (h : ∀ b, O' b → O b) : Keeps O H O' H := fun b o n e => ⟨fun z => n (h b z), e⟩
theorem RS.keeps {K : PySem.W.Frag} {O O' : Addr → Prop} {H H' : Hp} {p : PV} {v : V} (k : Keeps O H O' H') (w : p.isOwn = true → ∀ a, v = .ref a → H' a = H a) (h : RS K O H p v) : RS K O' H' p v := by
 cases p with
 | dat d => exact FV.keeps k h
 | own ds =>
  obtain ⟨a, xs, e, g, f⟩ := h
  exact ⟨a, xs, e, by rw [w rfl a e]; exact g, f.keeps k⟩
 | ins c ns ds =>
  obtain ⟨a, dx, fs, e, g, m, f⟩ := h
  exact ⟨a, dx, fs, e, by rw [w rfl a e]; exact g, m, f.keeps k⟩
theorem RS.ref {K : PySem.W.Frag} {O : Addr → Prop} {H : Hp} {p : PV} {v : V} (h : RS K O H p v) (o : p.isOwn = true) : ∃ a u, v = .ref a ∧ H a = some u := by
 cases p with
 | dat d => cases o
 | own ds => obtain ⟨a, xs, e, g, f⟩ := h; exact ⟨a, _, e, g⟩
 | ins c ns ds => obtain ⟨a, dx, fs, e, g, m, f⟩ := h; exact ⟨a, _, e, g⟩
theorem Rel.wr {K : PySem.W.Frag} {A : Addr → Prop} {ρ : PSt} {σ : St} {H : Hp} (R : Rel K A ρ σ H) {b : Addr} (h : Wr ρ σ b) : H b ≠ none := by
 obtain ⟨i, p, e, o, s⟩ := h
 obtain ⟨v, s', r⟩ := R.get i p e
 rw [s] at s'; cases s'
 obtain ⟨a, u, e1, e2⟩ := r.ref o
 cases e1
 rw [e2]; exact nofun
theorem Rel.oo {K : PySem.W.Frag} {A : Addr → Prop} {ρ : PSt} {σ : St} {H : Hp} (R : Rel K A ρ σ H) {b : Addr} (h : H b = none) : ¬ OO A ρ σ b := fun z => z.elim (fun z => R.dom b z h) (fun z => R.wr z h)
theorem Rel.grow {K : PySem.W.Frag} {A : Addr → Prop} {ρ : PSt} {σ : St} {H : Hp} (R : Rel K A ρ σ H) {p : Addr} {o : HO} (h : H p = none) : Rel K A ρ σ (upd H p o) := by
 have k : Keeps (OO A ρ σ) H (OO A ρ σ) (upd H p o) := Fr.keeps (Fr.new h)
 refine ⟨R.len, fun i q e => ?_, R.dj, fun b z => (Fr.new (ρ := ρ) (σ := σ) h).dm b (R.dom b z), R.sep⟩
 obtain ⟨v, s, r⟩ := R.get i q e
 refine ⟨v, s, r.keeps k fun ow a ea => ?_⟩
 obtain ⟨a', u, e1, e2⟩ := r.ref ow
 rw [ea] at e1; cases e1
 rw [upd_ne (ne_of_none e2 h)]
theorem Rel.less {K : PySem.W.Frag} {A A' : Addr → Prop} {ρ : PSt} {σ : St} {H : Hp} (R : Rel K A ρ σ H) (h : ∀ b, A' b → A b) : Rel K A' ρ σ H := by
 refine ⟨R.len, fun i q e => ?_, R.dj, fun b z => R.dom b (h b z), fun b z => R.sep b (h b z)⟩
 obtain ⟨v, s, r⟩ := R.get i q e
 exact ⟨v, s, r.keeps (Keeps.less fun b z => z.imp (h b) id) fun _ _ _ => rfl⟩
theorem Rel.write {K : PySem.W.Frag} {A : Addr → Prop} {ρ : PSt} {σ : St} {H : Hp} (R : Rel K A ρ σ H) {i : Nat} {p q : PV} {a : Addr} {o : HO} (e : ρ[i]? = some (some p)) (ow : p.isOwn = true) (ow' : q.isOwn = true) (es : σ[i]? = some (some (.ref a)))
  (new : RS K (OO A ρ σ) (upd H a o) q (.ref a)) : Rel K A (ρ.set i (some q)) σ (upd H a o) ∧ Fr ρ σ H (ρ.set i (some q)) (upd H a o) := by
 have hi : i < ρ.length := (List.getElem?_eq_some_iff.mp e).1
 have wa : Wr ρ σ a := ⟨i, p, e, ow, es⟩
 have weq : ∀ b, Wr (ρ.set i (some q)) σ b ↔ Wr ρ σ b := fun b => by
  constructor
  ·rintro ⟨j, r, e1, o1, s1⟩
   by_cases z : i = j
   ·subst z; exact ⟨i, p, e, ow, s1⟩
   ·rw [List.getElem?_set_ne z] at e1; exact ⟨j, r, e1, o1, s1⟩
  ·rintro ⟨j, r, e1, o1, s1⟩
   by_cases z : i = j
   ·subst z; exact ⟨i, q, List.getElem?_set_self hi, ow', s1⟩
   ·exact ⟨j, r, by rw [List.getElem?_set_ne z]; exact e1, o1, s1⟩
 have oeq : OO A (ρ.set i (some q)) σ = OO A ρ σ := funext fun b => propext (or_congr Iff.rfl (weq b))
 have kp : ∀ b u, ¬ Wr ρ σ b → H b = some u → upd H a o b = some u := fun b u n h => by rw [upd_ne (fun z => n (by rw [z]; exact wa))]; exact h
 have k : Keeps (OO A ρ σ) H (OO A ρ σ) (upd H a o) := fun b u n h => ⟨n, kp b u (fun z => n (.inr z)) h⟩
 have dm : ∀ b, H b ≠ none → upd H a o b ≠ none := fun b n => by
  by_cases z : b = a
  ·rw [z, upd_same]; exact nofun
  ·rw [upd_ne z]; exact n
 refine ⟨⟨by rw [List.length_set]; exact R.len, fun j r e1 => ?_, fun j l p1 q1 v e1 e2 o1 o2 s1 s2 => ?_, fun b z => dm b (R.dom b z), fun b z w => R.sep b z ((weq b).mp w)⟩, ⟨kp, dm, fun b w => (weq b).mp w⟩⟩
 ·rw [oeq]
  by_cases z : i = j
  ·subst z
   rw [List.getElem?_set_self hi] at e1
   cases e1
   exact ⟨_, es, new⟩
  ·rw [List.getElem?_set_ne z] at e1
   obtain ⟨v, s, rr⟩ := R.get j r e1
   refine ⟨v, s, rr.keeps k fun ow2 b eb => ?_⟩
   rw [upd_ne]
   intro zz
   subst zz
   rw [eb] at s
   exact z (R.dj i j p r _ e e1 ow ow2 es s)
 ·have ex : ∀ (m : Nat) (x : PV), (ρ.set i (some q))[m]? = some (some x) → x.isOwn = true → ∃ y : PV, ρ[m]? = some (some y) ∧ y.isOwn = true := fun m x em ox => by
   by_cases z : i = m
   ·subst z; exact ⟨p, e, ow⟩
   ·rw [List.getElem?_set_ne z] at em; exact ⟨x, em, ox⟩
  obtain ⟨y1, h1, h2⟩ := ex j p1 e1 o1
  obtain ⟨y2, h3, h4⟩ := ex l q1 e2 o2
  exact R.dj j l y1 y2 v h1 h3 h2 h4 s1 s2
theorem Rel.frz {K : PySem.W.Frag} {A : Addr → Prop} {ρ : PSt} {σ : St} {H : Hp} (R : Rel K A ρ σ H) {i : Nat} {p : PV} (e : ρ[i]? = some (some p)) :
  Rel K A (ρ.set i (some (.dat p.d))) σ H ∧ Fr ρ σ H (ρ.set i (some (.dat p.d))) H := by
 have hi : i < ρ.length := (List.getElem?_eq_some_iff.mp e).1
 have ex : ∀ (m : Nat) (x : PV), (ρ.set i (some (.dat p.d)))[m]? = some (some x) → x.isOwn = true → m ≠ i ∧ ρ[m]? = some (some x) := fun m x em ox => by
  by_cases z : i = m
  ·subst z; rw [List.getElem?_set_self hi] at em; cases em; cases ox
  ·rw [List.getElem?_set_ne z] at em; exact ⟨fun q => z q.symm, em⟩
 have ow : ∀ b, Wr (ρ.set i (some (.dat p.d))) σ b → Wr ρ σ b := fun b ⟨j, r, e1, o1, s1⟩ => ⟨j, r, (ex j r e1 o1).2, o1, s1⟩
 have k : Keeps (OO A ρ σ) H (OO A (ρ.set i (some (.dat p.d))) σ) H := Keeps.less fun b z => z.imp id (ow b)
 refine ⟨⟨by rw [List.length_set]; exact R.len, fun j r e1 => ?_, fun j l p1 q1 v e1 e2 o1 o2 s1 s2 => R.dj j l p1 q1 v (ex j p1 e1 o1).2 (ex l q1 e2 o2).2 o1 o2 s1 s2, R.dom, fun b z w => R.sep b z (ow b w)⟩, ⟨fun _ _ _ h => h, fun _ h => h, ow⟩⟩
 by_cases z : i = j
 ·subst z
  rw [List.getElem?_set_self hi] at e1
  cases e1
  obtain ⟨v, s, r⟩ := R.get i p e
  refine ⟨v, s, ?_⟩
  have na : ∀ a, v = .ref a → p.isOwn = true → ¬ OO A (ρ.set i (some (.dat p.d))) σ a := fun a ea oo z => by
   subst ea
   rcases z with z | ⟨j, r, e1, o1, s1⟩
   ·exact R.sep a z ⟨i, p, e, oo, s⟩
   ·obtain ⟨n1, n2⟩ := ex j r e1 o1
    exact n1 (R.dj j i r p _ n2 e o1 oo s1 s)
  cases p with
  | dat d => exact FV.keeps k r
  | own ds =>
   obtain ⟨a, xs, rfl, g, f⟩ := r
   exact .lst (na a rfl rfl) g (f.keeps k)
  | ins c ns ds =>
   obtain ⟨a, dx, fs, rfl, g, m, f⟩ := r
   exact .obj (na a rfl rfl) g m (f.keeps k)
 ·rw [List.getElem?_set_ne z] at e1
  obtain ⟨v, s, r⟩ := R.get j _ e1
  exact ⟨v, s, r.keeps k fun _ _ _ => rfl⟩
end L2
namespace L2
open PySem PySem.Spec PyProof.Rows
abbrev PKt := PV → PSt → Prop
abbrev PTE := PSt → PKt → Prop
abbrev PTT := PSt → (Bool → PSt → Prop) → Prop
inductive AV where
 | v (d : D) | sl (i : Nat)
abbrev PA1 := PSt → (AV → PSt → Prop) → Prop
abbrev PTA := PSt → (List AV → PSt → Prop) → Prop
def Out (K : PySem.W.Frag) (A : Addr → Prop) (ρ : PSt) (σ : St) (H0 H : Hp) : PV → V → Prop
 | .dat d, v => Rel K A ρ σ H ∧ FV K (OO A ρ σ) H v d
 | .own ds, v => ∃ a xs, v = .ref a ∧ ¬ A a ∧ H0 a = none ∧ H a = some (.lst xs) ∧ Rel K (plus A a) ρ σ H ∧ FVs K (OO (plus A a) ρ σ) H xs ds
 | .ins c ns ds, v => ∃ a dx fs, v = .ref a ∧ ¬ A a ∧ H0 a = none ∧ H a = some (.ins (clsOf K c) dx fs) ∧ fs.map Prod.fst = ns ∧ Rel K (plus A a) ρ σ H ∧ FVs K (OO (plus A a) ρ σ) H (fs.map Prod.snd) ds
def LE (K : PySem.W.Frag) (te : TE) (pe : PTE) : Prop := ∀ (A : Addr → Prop) (ρ : PSt) (σ : St) (H : Hp) (Q : PKt) (Q' : VK), Rel K A ρ σ H → pe ρ Q →
 (∀ v H' p ρ', Q p ρ' → Fr ρ σ H ρ' H' → Out K A ρ' σ H H' p v → Q' v H') → te σ H Q'
def LT (K : PySem.W.Frag) (tt : TT) (pt : PTT) : Prop := ∀ (A : Addr → Prop) (ρ : PSt) (σ : St) (H : Hp) (Q : Bool → PSt → Prop) (Q' : Bool → Hp → Prop), Rel K A ρ σ H → pt ρ Q →
 (∀ b H' ρ', Q b ρ' → Fr ρ σ H ρ' H' → Rel K A ρ' σ H' → Q' b H') → tt σ H Q'
def AOk (K : PySem.W.Frag) (O : Addr → Prop) (σ : St) (H : Hp) : AV → V → Prop
 | .v d, v => FV K O H v d
 | .sl i, v => σ[i]? = some (some v)
def LA1 (K : PySem.W.Frag) (te : TE) (pa : PA1) : Prop := ∀ (A : Addr → Prop) (ρ : PSt) (σ : St) (H : Hp) (Q : AV → PSt → Prop) (Q' : VK), Rel K A ρ σ H → pa ρ Q →
 (∀ v H' av ρ', Q av ρ' → Fr ρ σ H ρ' H' → Rel K A ρ' σ H' → AOk K (OO A ρ' σ) σ H' av v → Q' v H') → te σ H Q'
inductive AOks (K : PySem.W.Frag) (O : Addr → Prop) (σ : St) (H : Hp) : List AV → List V → Prop
 | nil : AOks K O σ H [] []
 | cons {a : AV} {v : V} {as : List AV} {vs : List V} : AOk K O σ H a v → AOks K O σ H as vs → AOks K O σ H (a :: as) (v :: vs)
def LAs (K : PySem.W.Frag) (ta : TA) (pa : PTA) : Prop := ∀ (A : Addr → Prop) (ρ : PSt) (σ : St) (H : Hp) (Q : List AV → PSt → Prop) (Q' : List V → Hp → Prop), Rel K A ρ σ H → pa ρ Q →
 (∀ vs H' as ρ', Q as ρ' → Fr ρ σ H ρ' H' → Rel K A ρ' σ H' → AOks K (OO A ρ' σ) σ H' as vs → Q' vs H') → ta σ H Q'
section
variable {K : PySem.W.Frag} {A O O' : Addr → Prop} {ρ ρ' : PSt} {σ : St} {H H' H0 : Hp}
theorem AOk.keeps {a : AV} {v : V} (k : Keeps O H O' H') (h : AOk K O σ H a v) : AOk K O' σ H' a v := by
 cases a with
 | v d => exact FV.keeps k h
 | sl i => exact h
theorem Out.frz {p : PV} {v : V} (h : Out K A ρ σ H0 H p v) : Rel K A ρ σ H ∧ FV K (OO A ρ σ) H v p.d := by
 cases p with
 | dat d => exact h
 | own ds =>
  obtain ⟨a, xs, rfl, na, _, e, R, f⟩ := h
  refine ⟨R.less fun b z => .inl z, .lst (fun z => ?_) e (f.keeps (Keeps.less fun b z => z.imp .inl id))⟩
  exact z.elim na (fun z => R.sep a (.inr rfl) z)
 | ins c ns ds =>
  obtain ⟨a, dx, fs, rfl, na, _, e, m, R, f⟩ := h
  refine ⟨R.less fun b z => .inl z, .obj (fun z => ?_) e m (f.keeps (Keeps.less fun b z => z.imp .inl id))⟩
  exact z.elim na (fun z => R.sep a (.inr rfl) z)
theorem Out.h0 {p : PV} {v : V} {H1 : Hp} (h : Out K A ρ σ H0 H p v) (dm : ∀ b, H1 b ≠ none → H0 b ≠ none) : Out K A ρ σ H1 H p v := by
 have k : ∀ a, H0 a = none → H1 a = none := fun a e => by
  cases z : H1 a with
  | none => rfl
  | some o => exact absurd e (dm a (by rw [z]; exact nofun))
 cases p with
 | dat d => exact h
 | own ds => obtain ⟨a, xs, e1, na, e2, r⟩ := h; exact ⟨a, xs, e1, na, k a e2, r⟩
 | ins c ns ds => obtain ⟨a, dx, fs, e1, na, e2, r⟩ := h; exact ⟨a, dx, fs, e1, na, k a e2, r⟩
def Gr (H H' : Hp) : Prop := ∀ b o, H b = some o → H' b = some o
theorem Gr.fr (g : Gr H H') : Fr ρ σ H ρ H' := ⟨fun b o _ h => g b o h, fun b h => by
 cases e : H b with
 | none => exact absurd e h
 | some o => rw [g b o e]; exact nofun, fun _ h => h⟩
theorem Gr.new {p : Addr} {o : HO} (h : H p = none) : Gr H (upd H p o) := fun b u e => by rw [upd_ne (ne_of_none e h)]; exact e
theorem Gr.refl (H : Hp) : Gr H H := fun _ _ h => h
theorem Rel.gr (R : Rel K A ρ σ H) (g : Gr H H') : Rel K A ρ σ H' := by
 refine ⟨R.len, fun i q e => ?_, R.dj, fun b z => (g.fr (ρ := ρ) (σ := σ)).dm b (R.dom b z), R.sep⟩
 obtain ⟨v, s, r⟩ := R.get i q e
 refine ⟨v, s, r.keeps (g.fr (ρ := ρ) (σ := σ)).keeps fun ow a ea => ?_⟩
 obtain ⟨a', u, e1, e2⟩ := r.ref ow
 rw [ea] at e1; cases e1
 rw [e2]; exact g _ _ e2
theorem Rel.grA (R : Rel K A ρ σ H) (g : Gr H H') {p : Addr} (h : H p = none) (h' : H' p ≠ none) : Rel K (plus A p) ρ σ H' := by
 have k : Keeps (OO A ρ σ) H (OO (plus A p) ρ σ) H' := fun b u n e => by
  refine ⟨fun z => ?_, g _ _ e⟩
  rcases z with (z | z) | z
  ·exact n (.inl z)
  ·rw [z, h] at e; cases e
  ·exact n (.inr z)
 refine ⟨R.len, fun i q e => ?_, R.dj, fun b z => ?_, fun b z w => ?_⟩
 ·obtain ⟨v, s, r⟩ := R.get i q e
  refine ⟨v, s, r.keeps k fun ow a ea => ?_⟩
  obtain ⟨a', u, e1, e2⟩ := r.ref ow
  rw [ea] at e1; cases e1
  rw [e2]; exact g _ _ e2
 ·rcases z with z | z
  ·exact (g.fr (ρ := ρ) (σ := σ)).dm b (R.dom b z)
  ·rw [z]; exact h'
 ·rcases z with z | z
  ·exact R.sep b z w
  ·exact R.wr w (by rw [z]; exact h)
def OutV (K : PySem.W.Frag) (O : Addr → Prop) (H0 H : Hp) : PV → V → Prop
 | .dat d, v => FV K O H v d
 | .own ds, v => ∃ a xs, v = .ref a ∧ H0 a = none ∧ H a = some (.lst xs) ∧ FVs K (plus O a) H xs ds
 | .ins c ns ds, v => ∃ a dx fs, v = .ref a ∧ H0 a = none ∧ H a = some (.ins (clsOf K c) dx fs) ∧ fs.map Prod.fst = ns ∧ FVs K (plus O a) H (fs.map Prod.snd) ds
theorem OutV.out {p : PV} {v : V} (R : Rel K A ρ σ H) (g : Gr H H') (h : OutV K (OO A ρ σ) H H' p v) : Out K A ρ σ H H' p v := by
 cases p with
 | dat d => exact ⟨R.gr g, h⟩
 | own ds =>
  obtain ⟨a, xs, rfl, e0, e, f⟩ := h
  refine ⟨a, xs, rfl, fun z => R.dom a z e0, e0, e, R.grA g e0 (by rw [e]; exact nofun), f.keeps (Keeps.less fun b z => ?_)⟩
  rcases z with (z | z) | z
  ·exact .inl (.inl z)
  ·exact .inr z
  ·exact .inl (.inr z)
 | ins c ns ds =>
  obtain ⟨a, dx, fs, rfl, e0, e, m, f⟩ := h
  refine ⟨a, dx, fs, rfl, fun z => R.dom a z e0, e0, e, m, R.grA g e0 (by rw [e]; exact nofun), f.keeps (Keeps.less fun b z => ?_)⟩
  rcases z with (z | z) | z
  ·exact .inl (.inl z)
  ·exact .inr z
  ·exact .inl (.inr z)
def FVc (K : PySem.W.Frag) (O : Addr → Prop) (H : Hp) (v : V) (d : D) : Prop := FV K O H v d ∨ (∃ a xs ds, v = .ref a ∧ d = .lst ds ∧ H a = some (.lst xs) ∧ FVs K O H xs ds) ∨
 ∃ a dx c fs ns ds, v = .ref a ∧ d = .obj c ns ds ∧ H a = some (.ins (clsOf K c) dx fs) ∧ fs.map Prod.fst = ns ∧ FVs K O H (fs.map Prod.snd) ds
def cont (ρ : PSt) : AV → Option D
 | .v d => some d
 | .sl i => match ρ[i]? with | some (some p) => some p.d | _ => none
theorem Rel.cont {av : AV} {v : V} {d : D} (R : Rel K A ρ σ H) (h : AOk K (OO A ρ σ) σ H av v) (e : L2.cont ρ av = some d) : FVc K (OO A ρ σ) H v d := by
 cases av with
 | v d' => cases e; exact .inl h
 | sl i =>
  have h : σ[i]? = some (some v) := h
  simp only [L2.cont] at e
  split at e
  ·rename_i p ep
   cases e
   obtain ⟨v', s, r⟩ := R.get i p ep
   rw [h] at s; cases s
   cases p with
   | dat d => exact .inl r
   | own ds => obtain ⟨a, xs, e1, e2, f⟩ := r; exact .inr (.inl ⟨a, xs, ds, e1, rfl, e2, f⟩)
   | ins c ns ds => obtain ⟨a, dx, fs, e1, e2, m, f⟩ := r; exact .inr (.inr ⟨a, dx, c, fs, ns, ds, e1, rfl, e2, m, f⟩)
  ·cases e
theorem FVc.lst {v : V} {ds : List D} (h : FVc K O H v (.lst ds)) : ∃ a xs, v = .ref a ∧ H a = some (.lst xs) ∧ FVs K O H xs ds := by
 rcases h with h | ⟨a, xs, ds', e1, e2, e3, f⟩ | ⟨a, dx, c, fs, ns, ds', e1, e2, _⟩
 ·cases h with
  | lst n s f => exact ⟨_, _, rfl, s, f⟩
 ·cases e2; exact ⟨a, xs, e1, e3, f⟩
 ·cases e2
theorem FVc.fv {v : V} {d : D} (h : FVc K O H v d) (n : ∀ ds, d ≠ .lst ds) (n' : ∀ c ns ds, d ≠ .obj c ns ds) : FV K O H v d := by
 rcases h with h | ⟨a, xs, ds', e1, e2, e3, f⟩ | ⟨a, dx, c, fs, ns, ds', e1, e2, _⟩
 ·exact h
 ·exact absurd e2 (n _)
 ·exact absurd e2 (n' _ _ _)
theorem FVc.tup {v : V} {ds : List D} (h : FVc K O H v (.tup ds)) : ∃ a xs, v = .ref a ∧ ¬ O a ∧ H a = some (.tup xs) ∧ FVs K O H xs ds := by
 cases h.fv nofun nofun with
 | tup n s f => exact ⟨_, _, rfl, n, s, f⟩
theorem FVc.scr {v : V} {ns : List Int} (h : FVc K O H v (.scr ns)) : ∃ a, v = .ref a ∧ SqL K H a (ns.map V.int) := by
 cases h.fv nofun nofun with
 | scr s => exact ⟨_, rfl, s.sq⟩
theorem FVc.int {v : V} {i : Int} (h : FVc K O H v (.int i)) : v = .int i := by cases h.fv nofun nofun; rfl
theorem FVc.str {v : V} {i : List Nat} (h : FVc K O H v (.str i)) : v = .str (S i) ∧ i.length ≤ 1000000 := by
 cases h.fv nofun nofun with
 | str _ z => exact ⟨rfl, z⟩
end
def pC (d : D) : PTE := fun ρ Q => Q (.dat d) ρ
def pVar (i : Nat) : PTE := fun ρ Q => match ρ[i]? with
 | some (some (.dat d)) => Q (.dat d) ρ
 | some (some (.own ds)) => Q (.dat (.lst ds)) (ρ.set i (some (.dat (.lst ds))))
 | some (some (.ins c ns ds)) => Q (.dat (.obj c ns ds)) (ρ.set i (some (.dat (.obj c ns ds))))
 | _ => False
def pSl (i : Nat) : PA1 := fun ρ Q => match ρ[i]? with
 | some (some (.dat d)) => Q (.v d) ρ
 | some (some (.own _)) => Q (.sl i) ρ
 | some (some (.ins _ _ _)) => Q (.sl i) ρ
 | _ => False
def pFz (pe : PTE) : PA1 := fun ρ Q => pe ρ fun p ρ1 => Q (.v p.d) ρ1
def paNil : PTA := fun ρ Q => Q [] ρ
def paCons (pa : PA1) (pr : PTA) : PTA := fun ρ Q => pa ρ fun a ρ1 => pr ρ1 fun as ρ2 => Q (a :: as) ρ2
section
variable {K : PySem.W.Frag} {ta tb tc : TE} {pa pb pc : PA1} {pe pe' : PTE} {tr : TA} {pr : PTA}
theorem le_C {v : V} {d : D} (h : ∀ O H, FV K O H v d) : LE K (tC v) (pC d) := fun A ρ σ H Q Q' R q k => k v H (.dat d) ρ q (Fr.refl _ _ _) ⟨R, h _ _⟩
theorem le_int {i : Int} : LE K (tC (.int i)) (pC (.int i)) := le_C fun _ _ => .int i
theorem le_bl {i : Bool} : LE K (tC (.bl i)) (pC (.bl i)) := le_C fun _ _ => .bl i
theorem le_non : LE K (tC .non) (pC .non) := le_C fun _ _ => .non
theorem le_str {l : List Nat} (h : l.length ≤ 1000000 := by decide) : LE K (tC (.str (S l))) (pC (.str l)) := le_C fun _ _ => .str l h
theorem le_var {i : Nat} : LE K (tVar i) (pVar i) := by
 intro A ρ σ H Q Q' R q k
 unfold pVar at q
 split at q
 ·rename_i d e
  obtain ⟨v, s, r⟩ := R.get i _ e
  exact ⟨v, s, k v H (.dat d) ρ q (Fr.refl _ _ _) ⟨R, r⟩⟩
 ·rename_i ds e
  obtain ⟨R', f⟩ := R.frz e
  obtain ⟨v, s, r⟩ := R'.get i _ (List.getElem?_set_self (List.getElem?_eq_some_iff.mp e).1)
  exact ⟨v, s, k v H (.dat (.lst ds)) _ q f ⟨R', r⟩⟩
 ·rename_i c ns ds e
  obtain ⟨R', f⟩ := R.frz e
  obtain ⟨v, s, r⟩ := R'.get i _ (List.getElem?_set_self (List.getElem?_eq_some_iff.mp e).1)
  exact ⟨v, s, k v H (.dat (.obj c ns ds)) _ q f ⟨R', r⟩⟩
 ·exact q.elim
theorem la_sl {i : Nat} : LA1 K (tVar i) (pSl i) := by
 intro A ρ σ H Q Q' R q k
 unfold pSl at q
 split at q
 ·rename_i d e
  obtain ⟨v, s, r⟩ := R.get i _ e
  exact ⟨v, s, k v H _ ρ q (Fr.refl _ _ _) R r⟩
 ·rename_i e
  obtain ⟨v, s, r⟩ := R.get i _ e
  exact ⟨v, s, k v H _ ρ q (Fr.refl _ _ _) R s⟩
 ·rename_i e
  obtain ⟨v, s, r⟩ := R.get i _ e
  exact ⟨v, s, k v H _ ρ q (Fr.refl _ _ _) R s⟩
 ·exact q.elim
theorem la_fz (h : LE K ta pe) : LA1 K ta (pFz pe) := fun A ρ σ H Q Q' R q k => h A ρ σ H _ Q' R q fun v H' p ρ' q f o => k v H' _ ρ' q f o.frz.1 o.frz.2
theorem las_nil : LAs K tNil paNil := fun A ρ σ H Q Q' R q k => k [] H [] ρ q (Fr.refl _ _ _) R .nil
theorem las_cons (h : LA1 K ta pa) (hr : LAs K tr pr) : LAs K (tCons ta tr) (paCons pa pr) := fun A ρ σ H Q Q' R q k =>
 h A ρ σ H _ _ R q fun v H1 a ρ1 q1 f1 R1 o1 => hr A ρ1 σ H1 _ _ R1 q1 fun vs H2 as ρ2 q2 f2 R2 o2 => k _ H2 _ ρ2 q2 (f1.trans f2) R2 (.cons (o1.keeps f2.keeps) o2)
def LO (K : PySem.W.Frag) (r : R2) (f : D → D → (PV → Prop) → Prop) : Prop := ∀ (O : Addr → Prop) (H : Hp) (x y : V) (a b : D) (Q : PV → Prop) (Q' : VK), (∀ b, O b → H b ≠ none) → FVc K O H x a → FVc K O H y b → f a b Q →
 (∀ v H' p, Q p → Gr H H' → OutV K O H H' p v → Q' v H') → r x y H Q'
def op2 (f : D → D → (PV → Prop) → Prop) (ρ : PSt) (x y : AV) (Q : PKt) : Prop := match cont ρ x, cont ρ y with
 | some a, some b => f a b fun p => Q p ρ
 | _, _ => False
def pOp (f : D → D → (PV → Prop) → Prop) (pa pb : PA1) : PTE := fun ρ Q => pa ρ fun x ρ1 => pb ρ1 fun y ρ2 => op2 f ρ2 x y Q
theorem Rel.dom2 {A : Addr → Prop} {ρ : PSt} {σ : St} {H : Hp} (R : Rel K A ρ σ H) : ∀ b, OO A ρ σ b → H b ≠ none := fun b z => z.elim (R.dom b) R.wr
theorem le_op {r : R2} {f : D → D → (PV → Prop) → Prop} (o : LO K r f) (ha : LA1 K ta pa) (hb : LA1 K tb pb) : LE K (tOp r ta tb) (pOp f pa pb) := fun A ρ σ H Q Q' R q k =>
 ha A ρ σ H _ _ R q fun v H1 a ρ1 q1 f1 R1 o1 => hb A ρ1 σ H1 _ _ R1 q1 fun w H2 b ρ2 q2 f2 R2 o2 => by
  unfold op2 at q2
  split at q2
  ·rename_i da db e1 e2
   exact o _ H2 v w da db _ _ R2.dom2 (R2.cont (o1.keeps f2.keeps) e1) (R2.cont o2 e2) q2 fun z H3 p q3 g ov => k z H3 p ρ2 q3 ((f1.trans f2).trans g.fr) ((ov.out R2 g).h0 fun b z => f2.dm b (f1.dm b z))
  ·exact q2.elim
inductive FVcs (K : PySem.W.Frag) (O : Addr → Prop) (H : Hp) : List V → List D → Prop
 | nil : FVcs K O H [] []
 | cons {x : V} {d : D} {xs : List V} {ds : List D} : FVc K O H x d → FVcs K O H xs ds → FVcs K O H (x :: xs) (d :: ds)
def conts (ρ : PSt) : List AV → Option (List D)
 | [] => some []
 | a :: r => match cont ρ a, conts ρ r with
  | some d, some ds => some (d :: ds)
  | _, _ => none
theorem Rel.conts {A : Addr → Prop} {ρ : PSt} {σ : St} {H : Hp} (R : Rel K A ρ σ H) : ∀ {as : List AV} {vs : List V} {ds : List D}, AOks K (OO A ρ σ) σ H as vs → L2.conts ρ as = some ds → FVcs K (OO A ρ σ) H vs ds
 | _, _, _, .nil, e => by cases e; exact .nil
 | _, _, _, .cons a b, e => by
  unfold L2.conts at e
  split at e
  ·rename_i e1 e2
   cases e
   exact .cons (R.cont a e1) (R.conts b e2)
  ·cases e
def LC (K : PySem.W.Frag) (r : List V → Hp → VK → Prop) (f : List D → (PV → Prop) → Prop) : Prop := ∀ (O : Addr → Prop) (H : Hp) (xs : List V) (as : List D) (Q : PV → Prop) (Q' : VK), (∀ b, O b → H b ≠ none) → FVcs K O H xs as → f as Q →
 (∀ v H' p, Q p → Gr H H' → OutV K O H H' p v → Q' v H') → r xs H Q'
def opN (f : List D → (PV → Prop) → Prop) (ρ : PSt) (as : List AV) (Q : PKt) : Prop := match conts ρ as with
 | some ds => f ds fun p => Q p ρ
 | _ => False
def pCB (f : List D → (PV → Prop) → Prop) (pr : PTA) : PTE := fun ρ Q => pr ρ fun as ρ1 => opN f ρ1 as Q
theorem le_cb {r : List V → Hp → VK → Prop} {f : List D → (PV → Prop) → Prop} (o : LC K r f) (ha : LAs K tr pr) : LE K (tCB r tr) (pCB f pr) := fun A ρ σ H Q Q' R q k =>
 ha A ρ σ H _ _ R q fun vs H1 as ρ1 q1 f1 R1 o1 => by
  unfold opN at q1
  split at q1
  ·rename_i ds e1
   exact o _ H1 vs ds _ _ R1.dom2 (R1.conts o1 e1) q1 fun z H3 p q3 g ov => k z H3 p ρ1 q3 (f1.trans g.fr) ((ov.out R1 g).h0 fun b z => f1.dm b z)
  ·exact q1.elim
def avD : List AV → Option (List D)
 | [] => some []
 | .v d :: r => match avD r with | some ds => some (d :: ds) | none => none
 | .sl _ :: _ => none
theorem AOks.avD {O : Addr → Prop} {σ : St} {H : Hp} : ∀ {as : List AV} {vs : List V} {ds : List D}, AOks K O σ H as vs → L2.avD as = some ds → FVs K O H vs ds
 | _, _, _, .nil, e => by cases e; exact .nil
 | .v d :: r, _, _, .cons a b, e => by
  simp only [L2.avD] at e
  split at e
  ·rename_i e1; cases e; exact .cons a (b.avD e1)
  ·cases e
 | .sl i :: r, _, _, .cons a b, e => by cases e
def pLst (pr : PTA) : PTE := fun ρ Q => pr ρ fun as ρ1 => match avD as with
 | some ds => ds.length ≤ 1000000 ∧ Q (.own ds) ρ1
 | _ => False
def pTup (pr : PTA) : PTE := fun ρ Q => pr ρ fun as ρ1 => match avD as with
 | some ds => ds.length ≤ 1000000 ∧ Q (.dat (.tup ds)) ρ1
 | _ => False
theorem le_lst (ha : LAs K tr pr) : LE K (tLst tr) (pLst pr) := fun A ρ σ H Q Q' R q k =>
 ha A ρ σ H _ _ R q fun vs H1 as ρ1 q1 f1 R1 o1 => by
  split at q1
  ·rename_i ds e1
   have fs := o1.avD e1
   refine ⟨sz _ (by rw [fs.length]; exact q1.1), fun p hp => k _ _ (.own ds) ρ1 q1.2 (f1.trans (Fr.new hp)) ?_⟩
   have g : Gr H1 (upd H1 p (.lst vs)) := Gr.new hp
   exact (OutV.out (p := .own ds) R1 g ⟨p, vs, rfl, hp, upd_same, fs.keeps (Keeps.fresh hp)⟩).h0 fun b z => f1.dm b z
  ·exact q1.elim
theorem le_tup (ha : LAs K tr pr) : LE K (tTup tr) (pTup pr) := fun A ρ σ H Q Q' R q k =>
 ha A ρ σ H _ _ R q fun vs H1 as ρ1 q1 f1 R1 o1 => by
  split at q1
  ·rename_i ds e1
   have fs := o1.avD e1
   refine ⟨sz _ (by rw [fs.length]; exact q1.1), fun p hp => k _ _ (.dat (.tup ds)) ρ1 q1.2 (f1.trans (Fr.new hp)) ⟨R1.grow hp, ?_⟩⟩
   exact .tup (R1.oo hp) upd_same (fs.keeps (Fr.new hp).keeps)
  ·exact q1.elim
def pB (pe : PTE) : PTT := fun ρ Q => pe ρ fun p ρ1 => match p with
 | .dat (.bl b) => Q b ρ1
 | _ => False
theorem lt_B (h : LE K ta pe) : LT K (tB ta) (pB pe) := fun A ρ σ H Q Q' R q k => h A ρ σ H _ _ R q fun v H1 p ρ1 q1 f1 o1 => by
 split at q1
 ·rename_i b
  obtain ⟨R1, f⟩ := o1
  cases f
  exact ⟨b, rfl, k b H1 ρ1 q1 f1 R1⟩
 ·exact q1.elim
theorem lt_T (h : LE K ta pe) : LT K (tTest ta) (pB pe) := lt_B h
def pAnd (a b : PTT) : PTT := fun ρ Q => a ρ fun c ρ1 => PIte c (b ρ1 Q) (Q false ρ1)
def pOr (a b : PTT) : PTT := fun ρ Q => a ρ fun c ρ1 => PIte c (Q true ρ1) (b ρ1 Q)
def pNot (a : PTT) : PTT := fun ρ Q => a ρ fun c ρ1 => Q (!c) ρ1
variable {tta ttb : TT} {pta ptb : PTT}
theorem lt_and (ha : LT K tta pta) (hb : LT K ttb ptb) : LT K (tAnd tta ttb) (pAnd pta ptb) := fun A ρ σ H Q Q' R q k => ha A ρ σ H _ _ R q fun c H1 ρ1 q1 f1 R1 => by
 cases c with
 | true => exact hb A ρ1 σ H1 _ _ R1 q1 fun b H2 ρ2 q2 f2 R2 => k b H2 ρ2 q2 (f1.trans f2) R2
 | false => exact k false H1 ρ1 q1 f1 R1
theorem lt_or (ha : LT K tta pta) (hb : LT K ttb ptb) : LT K (tOr tta ttb) (pOr pta ptb) := fun A ρ σ H Q Q' R q k => ha A ρ σ H _ _ R q fun c H1 ρ1 q1 f1 R1 => by
 cases c with
 | false => exact hb A ρ1 σ H1 _ _ R1 q1 fun b H2 ρ2 q2 f2 R2 => k b H2 ρ2 q2 (f1.trans f2) R2
 | true => exact k true H1 ρ1 q1 f1 R1
theorem lt_not (ha : LT K tta pta) : LT K (tNot tta) (pNot pta) := fun A ρ σ H Q Q' R q k => ha A ρ σ H _ _ R q fun c H1 ρ1 q1 f1 R1 => k _ H1 ρ1 q1 f1 R1
def pAndV (a b : PTE) : PTE := fun ρ Q => a ρ fun p ρ1 => match p with
 | .dat (.bl c) => PIte c (b ρ1 Q) (Q (.dat (.bl false)) ρ1)
 | _ => False
theorem le_and (ha : LE K ta pe) (hb : LE K tb pe') : LE K (tAndV ta tb) (pAndV pe pe') := fun A ρ σ H Q Q' R q k => ha A ρ σ H _ _ R q fun v H1 p ρ1 q1 f1 o1 => by
 split at q1
 ·rename_i c
  obtain ⟨R1, f⟩ := o1
  cases f
  refine ⟨c, rfl, ?_⟩
  cases c with
  | true => exact hb A ρ1 σ H1 _ _ R1 q1 fun b H2 p2 ρ2 q2 f2 o2 => k b H2 p2 ρ2 q2 (f1.trans f2) (o2.h0 fun b z => f1.dm b z)
  | false => exact k _ H1 _ ρ1 q1 f1 ⟨R1, .bl false⟩
 ·exact q1.elim
end
end L2
namespace L2
open PySem PySem.Spec PyProof.Rows
abbrev F2 := D → D → (PV → Prop) → Prop
def fI0 (g : Int → Int → D) : F2
 | .int i, .int j, Q => Q (.dat (g i j))
 | _, _, _ => False
def fI (C : Int → Int → Prop) (g : Int → Int → D) : F2
 | .int i, .int j, Q => C i j ∧ Q (.dat (g i j))
 | _, _, _ => False
section
variable {K : PySem.W.Frag} {X : Cx}
theorem lo_I0 {g : Int → Int → V} {g' : Int → Int → D} (h : ∀ i j O H, FV K O H (g i j) (g' i j)) : LO K (rI0 g) (fI0 g') := by
 intro O H x y a b Q Q' dom fx fy q k
 unfold fI0 at q
 split at q
 ·rename_i i j; exact ⟨i, j, fx.int, fy.int, k _ H _ q (Gr.refl _) (h i j _ _)⟩
 ·exact q.elim
theorem lo_I {C : Int → Int → Prop} {g : Int → Int → V} {g' : Int → Int → D} (h : ∀ i j O H, FV K O H (g i j) (g' i j)) : LO K (rI C g) (fI C g') := by
 intro O H x y a b Q Q' dom fx fy q k
 unfold fI at q
 split at q
 ·rename_i i j; exact ⟨i, j, fx.int, fy.int, q.1, k _ H _ q.2 (Gr.refl _) (h i j _ _)⟩
 ·exact q.elim
theorem out_lst {O : Addr → Prop} {H : Hp} {xs : List V} {ds : List D} {p : Addr} (hp : H p = none) (f : FVs K O H xs ds) : OutV K O H (upd H p (.lst xs)) (.own ds) (.ref p) :=
 ⟨p, xs, rfl, hp, upd_same, f.keeps (Keeps.fresh hp)⟩
theorem out_tup {O : Addr → Prop} {H : Hp} {xs : List V} {ds : List D} {p : Addr} (dom : ∀ b, O b → H b ≠ none) (hp : H p = none) (f : FVs K O H xs ds) : OutV K O H (upd H p (.tup xs)) (.dat (.tup ds)) (.ref p) :=
 .tup (fun z => dom p z hp) upd_same (f.keeps fun b o n e => ⟨n, by rw [upd_ne (ne_of_none e hp)]; exact e⟩)
def rAddS : R2 := fun x y H Q => ∃ i j, x = .str (S i) ∧ y = .str (S j) ∧ i.length + j.length ≤ sizeLine ∧ Q (.str (S (i ++ j))) H
def rAddU (K : PySem.W.Frag) : R2 := fun x y H Q => rI0 (fun i j => .int (i + j)) x y H Q ∨ rAddS x y H Q ∨ rCatL K x y H Q ∨ rCatT K x y H Q
theorem u_add (K : PySem.W.Frag) (e : X.K = K) : OpR X (binaryOp .Add) (rAddU K) := by
 subst e
 exact OpR.or op_add (OpR.or op_addS (OpR.or op_catL op_catT))
def fAdd : F2
 | .int i, .int j, Q => Q (.dat (.int (i + j)))
 | .str a, .str b, Q => a.length + b.length ≤ 1000000 ∧ Q (.dat (.str (a ++ b)))
 | .lst a, .lst b, Q => a.length + b.length ≤ 1000000 ∧ Q (.own (a ++ b))
 | .scr a, .lst b, Q => a.length + b.length ≤ 1000000 ∧ Q (.own (a.map .int ++ b))
 | .tup a, .tup b, Q => a ≠ [] ∧ a.length + b.length ≤ 1000000 ∧ Q (.dat (.tup (a ++ b)))
 | _, _, _ => False
theorem lo_add : LO K (rAddU K) fAdd := by
 intro O H x y a b Q Q' dom fx fy q k
 unfold fAdd at q
 split at q
 ·rename_i i j; exact .inl ⟨i, j, fx.int, fy.int, k _ H _ q (Gr.refl _) (.int _)⟩
 ·rename_i i j; exact .inr (.inl ⟨i, j, fx.str.1, fy.str.1, sz _ q.1, k _ H _ q.2 (Gr.refl _) (.str _ (by rw [List.length_append]; exact q.1))⟩)
 ·rename_i i j
  obtain ⟨a, xs, rfl, e1, f1⟩ := fx.lst
  obtain ⟨b, ys, rfl, e2, f2⟩ := fy.lst
  exact .inr (.inr (.inl ⟨a, b, xs, ys, rfl, rfl, SqL.of e1, SqL.of e2, sz _ (by rw [f1.length, f2.length]; exact q.1), fun p hp => k _ _ _ q.2 (Gr.new hp) (out_lst hp (f1.append f2))⟩))
 ·rename_i i j
  obtain ⟨a, rfl, e1⟩ := fx.scr
  obtain ⟨b, ys, rfl, e2, f2⟩ := fy.lst
  exact .inr (.inr (.inl ⟨a, b, _, ys, rfl, rfl, e1, SqL.of e2, sz _ (by rw [List.length_map, f2.length]; exact q.1), fun p hp => k _ _ _ q.2 (Gr.new hp) (out_lst hp ((FVs.of_ints i).append f2))⟩))
 ·rename_i i j
  obtain ⟨a, xs, rfl, n1, e1, f1⟩ := fx.tup
  obtain ⟨b, ys, rfl, n2, e2, f2⟩ := fy.tup
  have l1 := f1.length
  have l2 := f2.length
  refine .inr (.inr (.inr ⟨a, b, xs, ys, rfl, rfl, SqT.of e1, SqT.of e2, fun z => q.1 ?_, sz _ (by rw [l1, l2]; exact q.2.1), fun z => ?_, fun _ p hp => k _ _ _ q.2.2 (Gr.new hp) (out_tup dom hp (f1.append f2))⟩))
  ·exact List.length_eq_zero_iff.mp (by rw [← l1, z]; rfl)
  ·have : j = [] := List.length_eq_zero_iff.mp (by rw [← l2, z]; rfl)
   subst this
   exact k _ H _ q.2.2 (Gr.refl _) (by rw [List.append_nil]; exact .tup n1 e1 f1)
 ·exact q.elim
theorem lo_sub : LO K (rI0 fun i j => .int (i - j)) (fI0 fun i j => .int (i - j)) := lo_I0 fun _ _ _ _ => .int _
theorem lo_mod : LO K (rI (fun _ j => 0 < j) fun i j => .int (i % j)) (fI (fun _ j => 0 < j) fun i j => .int (i % j)) := lo_I fun _ _ _ _ => .int _
theorem lo_fdiv : LO K (rI CDiv fun i j => .int (i / j)) (fI (fun _ j => 0 < j ∧ j < 1073741824) fun i j => .int (i / j)) := lo_I fun _ _ _ _ => .int _
def rRepS : R2 := fun x y H Q => ∃ l n, x = .str (S l) ∧ y = .int n ∧ -1000000 ≤ n ∧ n ≤ 1000000 ∧ n.toNat * l.length ≤ sizeLine ∧ Q (.str (S (repN l n))) H
def rMulU : R2 := fun x y H Q => rI CMul (fun i j => .int (i * j)) x y H Q ∨ rRepS x y H Q ∨ rRep x y H Q
theorem u_mul : OpR X (binaryOp .Mult) rMulU := OpR.or op_mul (OpR.or op_rep_str op_rep)
def fMul : F2
 | .int i, .int j, Q => ((-(2 ^ 64) < i ∧ i < 2 ^ 64) ∨ (-(2 ^ 64) < j ∧ j < 2 ^ 64)) ∧ Q (.dat (.int (i * j)))
 | .str a, .int n, Q => (-1000000 ≤ n ∧ n ≤ 1000000 ∧ n.toNat * a.length ≤ 1000000) ∧ Q (.dat (.str (repN a n)))
 | .lst a, .int n, Q => (-1000000 ≤ n ∧ n ≤ 1000000 ∧ a.length * n.toNat ≤ 1000000) ∧ Q (.own (repN a n))
 | _, _, _ => False
theorem FVs.rep {O : Addr → Prop} {H : Hp} {xs : List V} {ds : List D} (f : FVs K O H xs ds) : ∀ n, FVs K O H (List.replicate n xs).flatten (List.replicate n ds).flatten
 | 0 => .nil
 | n + 1 => by rw [List.replicate_succ, List.replicate_succ, List.flatten_cons, List.flatten_cons]; exact f.append (f.rep n)
theorem lo_mul : LO K rMulU fMul := by
 intro O H x y a b Q Q' dom fx fy q k
 unfold fMul at q
 split at q
 ·rename_i i j; exact .inl ⟨i, j, fx.int, fy.int, q.1, k _ H _ q.2 (Gr.refl _) (.int _)⟩
 ·rename_i i j; exact .inr (.inl ⟨i, j, fx.str.1, fy.int, q.1.1, q.1.2.1, sz _ q.1.2.2, k _ H _ q.2 (Gr.refl _) (.str _ (by rw [repN_length]; exact q.1.2.2))⟩)
 ·rename_i i j
  obtain ⟨a, xs, rfl, e1, f1⟩ := fx.lst
  exact .inr (.inr ⟨a, j, xs, rfl, fy.int, e1, by omega, by omega, sz _ (by rw [f1.length]; exact q.1.2.2), fun p hp => k _ _ _ q.2 (Gr.new hp) (out_lst hp (f1.rep _))⟩)
 ·exact q.elim
def rLtU : R2 := fun x y H Q => rI0 (fun i j => .bl (decide (i < j))) x y H Q ∨ ∃ i j, x = .str i ∧ y = .str j ∧ Q (.bl (decide (i.cps.toList < j.cps.toList))) H
def rLeU : R2 := fun x y H Q => rI0 (fun i j => .bl (decide (i ≤ j))) x y H Q ∨ ∃ i j, x = .str i ∧ y = .str j ∧ Q (.bl (!decide (j.cps.toList < i.cps.toList))) H
theorem u_lt : OpR X (compareOp .Lt) rLtU := OpR.or op_lt op_lt_str
theorem u_le : OpR X (compareOp .LtE) rLeU := OpR.or op_le op_le_str
def fLt : F2
 | .int i, .int j, Q => Q (.dat (.bl (decide (i < j))))
 | .str i, .str j, Q => Q (.dat (.bl (decide (i < j))))
 | _, _, _ => False
def fLe : F2
 | .int i, .int j, Q => Q (.dat (.bl (decide (i ≤ j))))
 | .str i, .str j, Q => Q (.dat (.bl (!decide (j < i))))
 | _, _, _ => False
theorem lo_lt : LO K rLtU fLt := by
 intro O H x y a b Q Q' dom fx fy q k
 unfold fLt at q
 split at q
 ·rename_i i j; exact .inl ⟨i, j, fx.int, fy.int, k _ H _ q (Gr.refl _) (.bl _)⟩
 ·rename_i i j; exact .inr ⟨_, _, fx.str.1, fy.str.1, k _ H _ q (Gr.refl _) (.bl _)⟩
 ·exact q.elim
theorem lo_le : LO K rLeU fLe := by
 intro O H x y a b Q Q' dom fx fy q k
 unfold fLe at q
 split at q
 ·rename_i i j; exact .inl ⟨i, j, fx.int, fy.int, k _ H _ q (Gr.refl _) (.bl _)⟩
 ·rename_i i j; exact .inr ⟨_, _, fx.str.1, fy.str.1, k _ H _ q (Gr.refl _) (.bl _)⟩
 ·exact q.elim
theorem lo_gt : LO K (rI0 fun i j => .bl (decide (j < i))) (fI0 fun i j => .bl (decide (j < i))) := lo_I0 fun _ _ _ _ => .bl _
mutual
def D.py : D → PyData
 | .non => .none | .bl b => .bool b | .int i => .int i | .str l => .str (S l) | .ty _ => .none
 | .lst ds => .list (D.pys ds) | .tup ds => .tuple (D.pys ds) | .scr ns => .list (ns.map .int) | .dic _ _ => .none | .obj _ _ _ => .none | .exc _ _ _ => .none
def D.pys : List D → List PyData
 | [] => []
 | d :: r => d.py :: D.pys r
end
mutual
def D.plain : D → Bool
 | .non => true | .bl _ => true | .int _ => true | .str _ => true | .ty _ => false
 | .lst ds => D.plains ds | .tup ds => D.plains ds | .scr _ => true | .dic _ _ => false | .obj _ _ _ => false | .exc _ _ _ => false
def D.plains : List D → Bool
 | [] => true
 | d :: r => d.plain && D.plains r
end
mutual
theorem FV.dv {O : Addr → Prop} {H : Hp} : ∀ {v : V} {d : D}, FV K O H v d → d.plain = true → DV K H v d.py
 | _, _, .non, _ => .non
 | _, _, .bl b, _ => .bl b
 | _, _, .int i, _ => .int i
 | _, _, .str l h, _ => .str (S l)
 | _, _, .ty n, p => nomatch p
 | _, _, .scr s, _ => .lst s.sq (DVs.ints _)
 | _, _, .lst n e f, p => .lst (SqL.of e) (FVs.dvs f p)
 | _, _, .tup n e f, p => .tup (SqT.of e) (FVs.dvs f p)
 | _, _, .dic _ _ _ _, p => nomatch p
 | _, _, .obj _ _ _ _, p => nomatch p
 | _, _, .exc0 _ _, p => nomatch p
 | _, _, .exc1 _ _ _ _ _ _, p => nomatch p
theorem FVs.dvs {O : Addr → Prop} {H : Hp} : ∀ {vs : List V} {ds : List D}, FVs K O H vs ds → D.plains ds = true → DVs K H vs (D.pys ds)
 | _, _, .nil, _ => .nil
 | _, _, .cons a b, p => by
  have p : (_ && _) = true := p
  rw [Bool.and_eq_true] at p
  exact .cons (FV.dv a p.1) (FVs.dvs b p.2)
end
theorem FVc.dv {O : Addr → Prop} {H : Hp} {v : V} {d : D} (h : FVc K O H v d) (p : d.plain = true) : DV K H v d.py := by
 rcases h with h | ⟨a, xs, ds', rfl, rfl, e3, f⟩ | ⟨a, dx, c, fs, ns, ds', e1, rfl, _⟩
 ·exact h.dv p
 ·exact .lst (SqL.of e3) (f.dvs p)
 ·cases p
def rEqU (K : PySem.W.Frag) (neg : Bool) : R2 := fun x y H Q => rI0 (fun i j => .bl (if neg then !decide (i = j) else decide (i = j))) x y H Q ∨ (∃ i j, x = .str (S i) ∧ y = .str (S j) ∧ Q (.bl (if neg then !decide (i = j) else decide (i = j))) H) ∨ rEqD K neg x y H Q
theorem u_eq (K : PySem.W.Frag) (e : X.K = K) (hu : X.A.units + 64 < cLine) : OpR X (compareOp .Eq) (rEqU K false) := by
 subst e
 exact OpR.or op_eqI (OpR.or op_eqS (op_eqD hu))
theorem u_ne (K : PySem.W.Frag) (e : X.K = K) (hu : X.A.units + 64 < cLine) : OpR X (compareOp .NotEq) (rEqU K true) := by
 subst e
 exact OpR.or op_neI (OpR.or op_neS (op_neD hu))
def EqOk (a b : D) : Prop := a.plain = true ∧ b.plain = true ∧ SeqAt.shaped a.py = true ∧ SeqAt.shaped b.py = true
def deq (a b : D) : Bool := PyData.eqv a.py b.py
def fEq : F2
 | .int i, .int j, Q => Q (.dat (.bl (decide (i = j))))
 | .str i, .str j, Q => Q (.dat (.bl (decide (i = j))))
 | a, b, Q => EqOk a b ∧ Q (.dat (.bl (deq a b)))
def fNe : F2
 | .int i, .int j, Q => Q (.dat (.bl (!decide (i = j))))
 | .str i, .str j, Q => Q (.dat (.bl (!decide (i = j))))
 | a, b, Q => EqOk a b ∧ Q (.dat (.bl (!deq a b)))
theorem lo_eq : LO K (rEqU K false) fEq := by
 intro O H x y a b Q Q' dom fx fy q k
 unfold fEq at q
 split at q
 ·rename_i i j; exact .inl ⟨i, j, fx.int, fy.int, k _ H _ q (Gr.refl _) (.bl _)⟩
 ·rename_i i j; exact .inr (.inl ⟨i, j, fx.str.1, fy.str.1, k _ H _ q (Gr.refl _) (.bl _)⟩)
 ·exact .inr (.inr ⟨_, _, fx.dv q.1.1, fy.dv q.1.2.1, q.1.2.2.1, q.1.2.2.2, k _ H _ q.2 (Gr.refl _) (.bl _)⟩)
theorem lo_ne : LO K (rEqU K true) fNe := by
 intro O H x y a b Q Q' dom fx fy q k
 unfold fNe at q
 split at q
 ·rename_i i j; exact .inl ⟨i, j, fx.int, fy.int, k _ H _ q (Gr.refl _) (.bl _)⟩
 ·rename_i i j; exact .inr (.inl ⟨i, j, fx.str.1, fy.str.1, k _ H _ q (Gr.refl _) (.bl _)⟩)
 ·exact .inr (.inr ⟨_, _, fx.dv q.1.1, fy.dv q.1.2.1, q.1.2.2.1, q.1.2.2.2, k _ H _ q.2 (Gr.refl _) (.bl _)⟩)
def rIxU (K : PySem.W.Frag) : R2 := fun x y H Q => rIxL K x y H Q ∨ rIxT K x y H Q ∨ rIxS' x y H Q
theorem u_ix (K : PySem.W.Frag) (e : X.K = K) : IxR X (rIxU K) := by
 subst e
 exact IxR.or ix_list (IxR.or ix_tup ix_strS)
def fIx : F2
 | .lst ds, .int i, Q => ∃ d, atI ds i = some d ∧ Q (.dat d)
 | .tup ds, .int i, Q => ∃ d, atI ds i = some d ∧ Q (.dat d)
 | .scr ns, .int i, Q => ∃ d, atI ns i = some d ∧ Q (.dat (.int d))
 | .str l, .int i, Q => ∃ c, atI l i = some c ∧ Q (.dat (.str [c]))
 | _, _, _ => False
theorem FVs.atI {O : Addr → Prop} {H : Hp} {vs : List V} {ds : List D} {i : Int} {d : D} (f : FVs K O H vs ds) (h : L2.atI ds i = some d) : ∃ v, L2.atI vs i = some v ∧ FV K O H v d := by
 unfold L2.atI at h ⊢
 rw [f.length]
 cases e : ixN ds.length i with
 | none => rw [e] at h; cases h
 | some j => rw [e] at h; exact f.getD h
theorem lo_ix : LO K (rIxU K) fIx := by
 intro O H x y a b Q Q' dom fx fy q k
 unfold fIx at q
 split at q
 ·obtain ⟨d, hd, q⟩ := q
  obtain ⟨p, xs, rfl, e1, f1⟩ := fx.lst
  obtain ⟨v, hv, fv⟩ := f1.atI hd
  exact .inl ⟨p, xs, _, v, rfl, fy.int, SqL.of e1, hv, k _ H _ q (Gr.refl _) fv⟩
 ·obtain ⟨d, hd, q⟩ := q
  obtain ⟨p, xs, rfl, n1, e1, f1⟩ := fx.tup
  obtain ⟨v, hv, fv⟩ := f1.atI hd
  exact .inr (.inl ⟨p, xs, _, v, rfl, fy.int, SqT.of e1, hv, k _ H _ q (Gr.refl _) fv⟩)
 ·obtain ⟨d, hd, q⟩ := q
  obtain ⟨p, rfl, e1⟩ := fx.scr
  exact .inl ⟨p, _, _, _, rfl, fy.int, e1, atI_map hd, k _ H _ q (Gr.refl _) (.int d)⟩
 ·obtain ⟨c, hc, q⟩ := q
  exact .inr (.inr ⟨_, _, c, fx.str.1, fy.int, sz _ fx.str.2, hc, k _ H _ q (Gr.refl _) (.str _ (by show 1 ≤ 1000000; decide))⟩)
 ·exact q.elim
end
end L2
namespace L2
open PySem PySem.Spec PyProof.Rows _root_.HT
section
variable {prog : Program} {w : World} {A : Around} {E : Value → Shared → Prop} {s : Shared}
theorem getItem_tuple_all {t sl : Addr} {items : Array Value} {vl vu : Value} {lo hi : Option Int} {Q : Value → Shared → Prop} (ht : IsTup s.heap t items) (hs : s.heap.IsSliceOf sl vl vu .none) (pl : IsPart vl lo) (pu : IsPart vu hi)
  (hw : sIx items.size 0 lo = 0 ∧ sIx items.size items.size hi = items.size)
  (h : Q (.ref t) s) : wpAny (model prog w) A (getItem (.ref t) (.ref sl)) Q E s := by
 obtain ⟨os, hos, hcs, hds⟩ := id hs
 have hTs : s.TypeIs (.ref sl) "slice" := ⟨os, hos, hcs⟩
 unfold getItem
 try with_reducible refine wpAny_holding ?_
 first | refine wpAny_bind (wpAny_pure ?_) | skip
 refine wpAny_bind (wpAny_sequenceKey ht.typeIs (by decide) ?_)
 refine wpAny_bind (wpAny_callSpecial?_slot (name := Str.ofString "__getitem__") ht.typeIs PyProof.Rows.slot_tuple_getitem
  (wpAny_call_entry PyProof.Rows.slot_tuple_getitem ht.typeIs entry_tuple_getitem ?_ (args_tuple_getitem _ _)))
 show wpAny _ _ (Builtin.Tuple.tupleItemsOf (.ref t) >>= _) _ _ s
 refine wpAny_bind (tupleItemsOf_ ht ?_)
 refine wpAny_bind (wpAny_typeOf hTs ?_)
 rw [if_pos (by decide)]
 refine wpAny_bind (sliceApplied_gen hs pl pu ?_)
 have hyes : (((sIx items.size 0 lo : Nat) : Int) == 0 && (1 : Int) == 1 && (sIx items.size items.size hi - sIx items.size 0 lo) == items.size) = true := by
  rw [hw.1, hw.2, Nat.sub_zero]; simp
 show wpAny _ _ (if (((sIx items.size 0 lo : Nat) : Int) == 0 && (1 : Int) == 1 && (sIx items.size items.size hi - sIx items.size 0 lo) == items.size) = true then _ else _) _ _ s
 rw [if_pos hyes]
 refine wpAny_bind (m := Builtin.Tuple.tupleIsExact _) (wpAny_bind (wpAny_typeOf ht.typeIs (wpAny_pure ?_)))
 rw [if_pos (by decide)]
 first
  | exact wpAny_bind (m := rule _) (wpAny_pure (wpAny_pure ⟨_, rfl, wpAny_pure h⟩))
  | exact wpAny_pure ⟨_, rfl, wpAny_pure h⟩
  | exact wpAny_bind (wpAny_rule (wpAny_pure ⟨_, rfl, wpAny_pure h⟩))
def rSlTW (K : PySem.W.Frag) : V → Option Int → Option Int → Hp → VK → Prop := fun x lo hi H Q => ∃ a xs, x = .ref a ∧ SqT K H a xs ∧ (sIx xs.length 0 lo = 0 ∧ sIx xs.length xs.length hi = xs.length) ∧ Q (.ref a) H
theorem sl_tupW {X : Cx} : SlR X (rSlTW X.K) := by
 intro pins s σ H x v vl vu lo hi sl Q I rx hs pl pu h
 obtain ⟨a, xs, rfl, hx, hw, q⟩ := h
 cases rx
 obtain ⟨its, r, ht, hz⟩ := I.tuple hx
 have hlen : its.toArray.size = xs.length := by rw [List.size_toArray]; exact r.length.symm
 refine ⟨"tuple", _, PyProof.Rows.slot_tuple_getitem.lookup, ht.typeIs, ?_⟩
 exact getItem_tuple_all ht hs pl pu (by rw [hlen]; exact hw) ⟨.ref a, H, I, rfl, q⟩
end
end L2
namespace L2
open PySem PySem.Spec PyProof.Rows
section
variable {K : PySem.W.Frag} {X : Cx} {ta tb tc to : TE} {pa pb pc : PA1} {pe : PTE} {tr : TA} {pr : PTA}
def pChain (f f' : F2) (pa pb pc : PA1) : PTE := fun ρ Q => pa ρ fun x ρ1 => pb ρ1 fun y ρ2 => op2 f ρ2 x y fun p ρ3 => match p with
 | .dat (.bl k) => PIte k (pc ρ3 fun z ρ4 => op2 f' ρ4 y z Q) (Q (.dat (.bl false)) ρ3)
 | _ => False
theorem le_chain {r r' : R2} {f f' : F2} (o : LO K r f) (o' : LO K r' f') (ha : LA1 K ta pa) (hb : LA1 K tb pb) (hc : LA1 K tc pc) : LE K (tChain r r' ta tb tc) (pChain f f' pa pb pc) := fun A ρ σ H Q Q' R q k =>
 ha A ρ σ H _ _ R q fun v H1 a ρ1 q1 f1 R1 o1 => hb A ρ1 σ H1 _ _ R1 q1 fun w H2 b ρ2 q2 f2 R2 o2 => by
  unfold op2 at q2
  split at q2
  ·rename_i da db e1 e2
   refine o _ H2 v w da db _ _ R2.dom2 (R2.cont (o1.keeps f2.keeps) e1) (R2.cont o2 e2) q2 fun z H3 p q3 g ov => ?_
   dsimp only at q3
   split at q3
   ·rename_i c
    cases ov
    refine ⟨c, rfl, ?_⟩
    have R3 := R2.gr g
    cases c with
    | true =>
     refine hc A ρ2 σ H3 _ _ R3 q3 fun u H4 cc ρ4 q4 f4 R4 o4 => ?_
     try unfold op2 at q4
     split at q4
     ·rename_i dc dd e3 e4
      have o2' : AOk K (OO A ρ4 σ) σ H4 b w := (o2.keeps (g.fr (ρ := ρ2) (σ := σ)).keeps).keeps f4.keeps
      exact o' _ H4 w u _ _ _ _ R4.dom2 (R4.cont o2' e3) (R4.cont o4 e4) q4 fun z H5 p q5 g5 ov => k z H5 p ρ4 q5 ((((f1.trans f2).trans g.fr).trans f4).trans g5.fr) ((ov.out R4 g5).h0 fun b z => f4.dm b ((g.fr (ρ := ρ2) (σ := σ)).dm b (f2.dm b (f1.dm b z))))
     ·exact q4.elim
    | false => exact k _ H3 _ ρ2 q3 ((f1.trans f2).trans g.fr) ⟨R3, .bl false⟩
   ·exact q3.elim
  ·exact q2.elim
abbrev PTO := PSt → (Option Int → PSt → Prop) → Prop
def LPo (K : PySem.W.Frag) (t : TO) (p : PTO) : Prop := ∀ (A : Addr → Prop) (ρ : PSt) (σ : St) (H : Hp) (Q : Option Int → PSt → Prop) (Q' : Option Int → Hp → Prop), Rel K A ρ σ H → p ρ Q →
 (∀ b H' ρ', Q b ρ' → Fr ρ σ H ρ' H' → Rel K A ρ' σ H' → Q' b H') → t σ H Q'
def poNone : PTO := fun ρ Q => Q none ρ
def poSome (pe : PTE) : PTO := fun ρ Q => pe ρ fun p ρ1 => match p with
 | .dat (.int i) => Q (some i) ρ1
 | _ => False
theorem lpo_none : LPo K tNoPart poNone := fun A ρ σ H Q Q' R q k => k none H ρ q (Fr.refl _ _ _) R
theorem lpo_some (h : LE K ta pe) : LPo K (tPart ta) (poSome pe) := fun A ρ σ H Q Q' R q k => h A ρ σ H _ _ R q fun v H1 p ρ1 q1 f1 o1 => by
 split at q1
 ·rename_i i
  obtain ⟨R1, f⟩ := o1
  cases f
  exact ⟨i, rfl, k _ H1 ρ1 q1 f1 R1⟩
 ·exact q1.elim
def rSlU (K : PySem.W.Frag) : V → Option Int → Option Int → Hp → VK → Prop := fun x lo hi H Q => rSlL K x lo hi H Q ∨ rSlS x lo hi H Q ∨ rSlT K x lo hi H Q ∨ rSlTW K x lo hi H Q
theorem u_sl (K : PySem.W.Frag) (e : X.K = K) : SlR X (rSlU K) := by
 subst e
 exact SlR.or sl_list (SlR.or sl_str (SlR.or sl_tup sl_tupW))
def fSl : D → Option Int → Option Int → (PV → Prop) → Prop
 | .lst ds, lo, hi, Q => Q (.own (cutN ds lo hi))
 | .scr ns, lo, hi, Q => Q (.own ((cutN ns lo hi).map .int))
 | .str l, lo, hi, Q => Q (.dat (.str (cutN l lo hi)))
 | .tup ds, lo, hi, Q => Q (.dat (.tup (cutN ds lo hi)))
 | _, _, _, _ => False
theorem FVs.cut {O : Addr → Prop} {H : Hp} {xs : List V} {ds : List D} (f : FVs K O H xs ds) (lo hi : Option Int) : FVs K O H (cutN xs lo hi) (cutN ds lo hi) := by
 unfold cutN
 rw [f.length]
 exact (f.drop _).take _
def pSlice (pa : PA1) (pl ph : PTO) : PTE := fun ρ Q => pa ρ fun x ρ1 => pl ρ1 fun lo ρ2 => ph ρ2 fun hi ρ3 => match cont ρ3 x with
 | some d => fSl d lo hi fun p => Q p ρ3
 | _ => False
theorem cut_all {α : Type} {ds : List α} {lo hi : Option Int} {n : Nat} (h : n = ds.length) (hw : HT.sIx n 0 lo = 0 ∧ HT.sIx n n hi = n) : cutN ds lo hi = ds := by
 subst h
 unfold cutN
 rw [hw.1, hw.2, List.drop_zero, Nat.sub_zero, List.take_length]
theorem lsl {O : Addr → Prop} {H : Hp} {x : V} {d : D} {lo hi : Option Int} {Q : PV → Prop} {Q' : VK} (dom : ∀ b, O b → H b ≠ none) (fx : FVc K O H x d) (q : fSl d lo hi Q) (k : ∀ v H' p, Q p → Gr H H' → OutV K O H H' p v → Q' v H') : rSlU K x lo hi H Q' := by
 unfold fSl at q
 split at q
 ·obtain ⟨a, xs, rfl, e1, f1⟩ := fx.lst
  exact .inl ⟨a, xs, rfl, SqL.of e1, fun p hp => k _ _ _ q (Gr.new hp) (out_lst hp (f1.cut _ _))⟩
 ·obtain ⟨a, rfl, e1⟩ := fx.scr
  exact .inl ⟨a, _, rfl, e1, fun p hp => k _ _ _ q (Gr.new hp) (out_lst hp (by rw [cutV_cutN, cutN_map]; exact FVs.of_ints _))⟩
 ·exact .inr (.inl ⟨_, fx.str.1, sz _ fx.str.2, k _ H _ q (Gr.refl _) (.str _ (Nat.le_trans (cutN_length_le _ _ _) fx.str.2))⟩)
 ·obtain ⟨a, xs, rfl, n1, e1, f1⟩ := fx.tup
  by_cases hw : HT.sIx xs.length 0 lo = 0 ∧ HT.sIx xs.length xs.length hi = xs.length
  ·refine .inr (.inr (.inr ⟨a, xs, rfl, SqT.of e1, hw, k _ H _ q (Gr.refl _) ?_⟩))
   rw [cut_all f1.length hw]
   exact .tup n1 e1 f1
  ·exact .inr (.inr (.inl ⟨a, xs, rfl, SqT.of e1, hw, fun p hp => k _ _ _ q (Gr.new hp) (out_tup dom hp (f1.cut _ _))⟩))
 ·exact q.elim
theorem le_slice {tl th : TO} {pl ph : PTO} (ha : LA1 K ta pa) (hl : LPo K tl pl) (hh : LPo K th ph) : LE K (tSl (rSlU K) ta tl th) (pSlice pa pl ph) := fun A ρ σ H Q Q' R q k =>
 ha A ρ σ H _ _ R q fun v H1 a ρ1 q1 f1 R1 o1 => hl A ρ1 σ H1 _ _ R1 q1 fun lo H2 ρ2 q2 f2 R2 => hh A ρ2 σ H2 _ _ R2 q2 fun hi H3 ρ3 q3 f3 R3 => by
  split at q3
  ·rename_i d e1
   exact lsl R3.dom2 (R3.cont (o1.keeps (f2.trans f3).keeps) e1) q3 fun z H4 p q4 g ov => k z H4 p ρ3 q4 (((f1.trans f2).trans f3).trans g.fr) ((ov.out R3 g).h0 fun b z => f3.dm b (f2.dm b (f1.dm b z)))
  ·exact q3.elim
abbrev FN := List D → (PV → Prop) → Prop
def rLenU (K : PySem.W.Frag) : List V → Hp → VK → Prop := fun xs H Q => (∃ l, xs = [.str (S l)] ∧ l.length ≤ sizeLine ∧ Q (.int l.length) H) ∨ rLenL K xs H Q ∨ rLenT K xs H Q ∨ ∃ p kvs, xs = [.ref p] ∧ Rd H p (.dK kvs) ∧ Q (.int kvs.length) H
theorem u_len (K : PySem.W.Frag) (e : X.K = K) : CallR X (.builtin "len") (rLenU K) := by
 subst e
 exact CallR.or call_lenS (CallR.or call_lenL (CallR.or call_lenT call_lenD))
def fLen : FN
 | [.str l], Q => Q (.dat (.int l.length))
 | [.lst l], Q => Q (.dat (.int l.length))
 | [.tup l], Q => Q (.dat (.int l.length))
 | [.scr l], Q => Q (.dat (.int l.length))
 | [.dic ks _], Q => Q (.dat (.int ks.length))
 | _, _ => False
theorem lc_len : LC K (rLenU K) fLen := by
 intro O H xs as Q Q' dom fs q k
 unfold fLen at q
 split at q
 ·cases fs with | cons a b => cases b; rw [a.str.1]; exact .inl ⟨_, rfl, sz _ a.str.2, k _ H _ q (Gr.refl _) (.int _)⟩
 ·cases fs with
  | cons a b =>
   cases b
   obtain ⟨p, ys, rfl, e1, f1⟩ := a.lst
   exact .inr (.inl ⟨p, ys, rfl, SqL.of e1, by rw [f1.length]; exact k _ H _ q (Gr.refl _) (.int _)⟩)
 ·cases fs with
  | cons a b =>
   cases b
   obtain ⟨p, ys, rfl, n1, e1, f1⟩ := a.tup
   exact .inr (.inr (.inl ⟨p, ys, rfl, SqT.of e1, by rw [f1.length]; exact k _ H _ q (Gr.refl _) (.int _)⟩))
 ·cases fs with
  | cons a b =>
   cases b
   obtain ⟨p, rfl, e1⟩ := a.scr
   exact .inr (.inl ⟨p, _, rfl, e1, by rw [List.length_map]; exact k _ H _ q (Gr.refl _) (.int _)⟩)
 ·cases fs with
  | cons a b =>
   cases b
   cases a.fv nofun nofun with
   | dic n e m f => subst m; exact .inr (.inr (.inr ⟨_, _, rfl, .inl e, k _ H _ q (Gr.refl _) (by rw [List.length_map]; exact .int _)⟩))
 ·exact q.elim
inductive Kd where
 | int | bool | str | list | tuple | dict
def Kd.nm : Kd → String
 | .int => "int" | .bool => "bool" | .str => "str" | .list => "list" | .tuple => "tuple" | .dict => "dict"
def isK : Kd → D → Bool
 | .int, .int _ => true
 | .int, .bl _ => true
 | .bool, .bl _ => true
 | .str, .str _ => true
 | .list, .lst _ => true
 | .tuple, .tup _ => true
 | .dict, .dic _ _ => true
 | _, _ => false
def D.sort : D → Bool
 | .obj _ _ _ => false
 | .exc _ _ _ => false
 | .scr _ => false
 | .ty _ => false
 | _ => true
theorem FVc.ty {O : Addr → Prop} {H : Hp} {v : V} {d : D} (h : FVc K O H v d) (s : d.sort = true) : ∃ t, TyOf K H v t ∧ ∀ k : Kd, PySem.W.kitOne K t (.type k.nm) = some (isK k d) := by
 rcases h with h | ⟨a, xs, ds', rfl, rfl, e3, f⟩ | ⟨a, dx, c, fs, ns, ds', rfl, rfl, _⟩
 ·cases h with
  | non => exact ⟨_, .non, fun k => by cases k <;> rfl⟩
  | bl b => exact ⟨_, .bl b, fun k => by cases k <;> rfl⟩
  | int i => exact ⟨_, .int i, fun k => by cases k <;> rfl⟩
  | str l h => exact ⟨_, .str _, fun k => by cases k <;> rfl⟩
  | ty n => cases s
  | scr _ => cases s
  | lst n e f => exact ⟨_, .lst e, fun k => by cases k <;> rfl⟩
  | tup n e f => exact ⟨_, .tup e, fun k => by cases k <;> rfl⟩
  | dic n e m f => exact ⟨_, .dK e, fun k => by cases k <;> rfl⟩
  | obj _ _ _ _ => cases s
  | exc0 _ _ => cases s
  | exc1 _ _ _ _ _ _ => cases s
 ·exact ⟨_, .lst e3, fun k => by cases k <;> rfl⟩
 ·cases s
theorem u_isI (K : PySem.W.Frag) (e : X.K = K) : CallR X (.builtin "isinstance") (rIsI K) := by subst e; exact call_isinst
def pIsI (k : Kd) (pa : PA1) : PTE := fun ρ Q => pa ρ fun x ρ1 => match cont ρ1 x with
 | some d => PIte d.sort (Q (.dat (.bl (isK k d))) ρ1) False
 | _ => False
theorem le_isI (k : Kd) (ha : LA1 K ta pa) : LE K (tCB (rIsI K) (tCons ta (tCons (tC (.ty k.nm)) tNil))) (pIsI k pa) := fun A ρ σ H Q Q' R q kk =>
 ha A ρ σ H _ _ R q fun v H1 a ρ1 q1 f1 R1 o1 => by
  split at q1
  ·rename_i d e1
   cases hs : d.sort with
   | false => rw [hs] at q1; exact q1.elim
   | true =>
    rw [hs] at q1
    obtain ⟨t, ty, hk⟩ := (R1.cont o1 e1).ty hs
    exact ⟨v, k.nm, t, isK k d, rfl, ty, hk k, kk _ H1 _ ρ1 q1 f1 ⟨R1, .bl _⟩⟩
  ·exact q1.elim
end
end L2
namespace L2
open PySem PySem.Spec PyProof.Rows
structure PEnds where
 nx : PSt → Prop
 rt : PV → PSt → Prop
 bk : PSt → Prop := fun _ => False
 ct : PSt → Prop := fun _ => False
abbrev PTS := PEnds → PSt → Prop
structure RelF (fx : List (Nat × V)) (R : Addr → Prop) (H0 : Hp) (ρ : PSt) (σ : St) (H : Hp) : Prop where
 kp : ∀ b o, ¬ R b → H0 b = some o → H b = some o
 dm : ∀ b, H0 b ≠ none → H b ≠ none
 ow : ∀ b, Wr ρ σ b → R b ∨ H0 b = none
 fx : ∀ p ∈ fx, σ[p.1]? = some (some p.2)
section
variable {K : PySem.W.Frag} {fx : List (Nat × V)} {A R : Addr → Prop} {H0 H H' : Hp} {ρ ρ' : PSt} {σ : St}
theorem RelF.fr (F : RelF fx R H0 ρ σ H) (f : Fr ρ σ H ρ' H') : RelF fx R H0 ρ' σ H' :=
 ⟨fun b o n e => f.kp b o (fun w => (F.ow b w).elim n (fun z => by rw [z] at e; cases e)) (F.kp b o n e), fun b z => f.dm b (F.dm b z), fun b w => F.ow b (f.ow b w), F.fx⟩
theorem RelF.start (hfx : ∀ p ∈ fx, σ[p.1]? = some (some p.2)) : RelF fx (Wr ρ σ) H ρ σ H := ⟨fun _ _ _ h => h, fun _ h => h, fun _ h => .inl h, hfx⟩
theorem RelF.keepsR {ρ1 : PSt} {σ1 : St} {H1 : Hp} (F : RelF fx R H1 ρ σ H) (hR : ∀ b, R b → OO A ρ1 σ1 b) : Keeps (OO A ρ1 σ1) H1 (OO A ρ σ) H := fun b o n e => by
 refine ⟨fun z => ?_, F.kp b o (fun z => n (hR b z)) e⟩
 rcases z with z | z
 ·exact n (.inl z)
 ·rcases F.ow b z with z | z
  ·exact n (hR b z)
  ·rw [z] at e; cases e
theorem RelF.keeps {ρ1 : PSt} {σ1 : St} {H1 : Hp} (F : RelF fx (Wr ρ1 σ1) H1 ρ σ H) : Keeps (OO A ρ1 σ1) H1 (OO A ρ σ) H := F.keepsR fun b z => .inr z
theorem RelF.trans {fx' : List (Nat × V)} {ρ1 : PSt} {σ1 : St} {H1 : Hp} (F : RelF fx R H0 ρ1 σ1 H1) (G : RelF fx' (Wr ρ1 σ1) H1 ρ σ H) (hfx : ∀ p ∈ fx, σ[p.1]? = some (some p.2)) : RelF fx R H0 ρ σ H := by
 refine ⟨fun b o n e => G.kp b o (fun w => (F.ow b w).elim n (fun z => by rw [z] at e; cases e)) (F.kp b o n e), fun b z => G.dm b (F.dm b z), fun b w => ?_, hfx⟩
 rcases G.ow b w with z | z
 ·exact F.ow b z
 ·refine .inr ?_
  cases e : H0 b with
  | none => rfl
  | some o => exact absurd z (F.dm b (by rw [e]; exact nofun))
theorem Out.put {p : PV} {v : V} {i : Nat} (h : Out K A ρ σ H0 H p v) : Rel K A (ρ.set i (some p)) (σ.set i (some v)) H ∧ ∀ b, Wr (ρ.set i (some p)) (σ.set i (some v)) b → Wr ρ σ b ∨ H0 b = none := by
 have get : ∀ (j : Nat) (q : PV), (ρ.set i (some p))[j]? = some (some q) → (j = i ∧ q = p ∧ i < ρ.length) ∨ (j ≠ i ∧ ρ[j]? = some (some q)) := fun j q e => by
  by_cases z : i = j
  ·subst z
   by_cases hi : i < ρ.length
   ·rw [List.getElem?_set_self hi] at e; cases e; exact .inl ⟨rfl, rfl, hi⟩
   ·rw [List.getElem?_eq_none (by rw [List.length_set]; omega)] at e; cases e
  ·rw [List.getElem?_set_ne z] at e; exact .inr ⟨fun q => z q.symm, e⟩
 cases p with
 | dat d =>
  obtain ⟨R1, f⟩ := h
  have ow : ∀ b, Wr (ρ.set i (some (.dat d))) (σ.set i (some v)) b → Wr ρ σ b := fun b ⟨j, r, e1, o1, s1⟩ => by
   rcases get j r e1 with ⟨_, rfl, _⟩ | ⟨n, e⟩
   ·cases o1
   ·rw [List.getElem?_set_ne (fun z => n z.symm)] at s1; exact ⟨j, r, e, o1, s1⟩
  have k : Keeps (OO A ρ σ) H (OO A (ρ.set i (some (.dat d))) (σ.set i (some v))) H := Keeps.less fun b z => z.imp id (ow b)
  refine ⟨⟨by rw [List.length_set, List.length_set]; exact R1.len, fun j r e1 => ?_, fun j l p1 q1 v' e1 e2 o1 o2 s1 s2 => ?_, R1.dom, fun b z w => R1.sep b z (ow b w)⟩, fun b w => .inl (ow b w)⟩
  ·rcases get j r e1 with ⟨rfl, rfl, hi⟩ | ⟨n, e⟩
   ·exact ⟨v, List.getElem?_set_self (by rw [← R1.len]; exact hi), f.keeps k⟩
   ·obtain ⟨u, s, r'⟩ := R1.get j r e
    exact ⟨u, by rw [List.getElem?_set_ne (fun z => n z.symm)]; exact s, r'.keeps k fun _ _ _ => rfl⟩
  ·rcases get j p1 e1 with ⟨_, rfl, _⟩ | ⟨n1, e1⟩
   ·cases o1
   ·rcases get l q1 e2 with ⟨_, rfl, _⟩ | ⟨n2, e2⟩
    ·cases o2
    ·rw [List.getElem?_set_ne (fun z => n1 z.symm)] at s1
     rw [List.getElem?_set_ne (fun z => n2 z.symm)] at s2
     exact R1.dj j l p1 q1 v' e1 e2 o1 o2 s1 s2
 | own ds =>
  obtain ⟨a, xs, rfl, na, hn, e0, R1, f⟩ := h
  have ow : ∀ b, Wr (ρ.set i (some (.own ds))) (σ.set i (some (.ref a))) b → Wr ρ σ b ∨ b = a := fun b ⟨j, r, e1, o1, s1⟩ => by
   rcases get j r e1 with ⟨rfl, rfl, hi⟩ | ⟨n, e⟩
   ·rw [List.getElem?_set_self (by rw [← R1.len]; exact hi)] at s1; cases s1; exact .inr rfl
   ·rw [List.getElem?_set_ne (fun z => n z.symm)] at s1; exact .inl ⟨j, r, e, o1, s1⟩
  have k : Keeps (OO (plus A a) ρ σ) H (OO A (ρ.set i (some (.own ds))) (σ.set i (some (.ref a)))) H := Keeps.less fun b z => by
   rcases z with z | z
   ·exact .inl (.inl z)
   ·rcases ow b z with z | z
    ·exact .inr z
    ·exact .inl (.inr z)
  refine ⟨⟨by rw [List.length_set, List.length_set]; exact R1.len, fun j r e1 => ?_, fun j l p1 q1 v' e1 e2 o1 o2 s1 s2 => ?_, fun b z => R1.dom b (.inl z), fun b z w => ?_⟩, fun b w => (ow b w).imp id fun z => by rw [z]; exact hn⟩
  ·rcases get j r e1 with ⟨rfl, rfl, hi⟩ | ⟨n, e⟩
   ·exact ⟨_, List.getElem?_set_self (by rw [← R1.len]; exact hi), a, xs, rfl, e0, f.keeps k⟩
   ·obtain ⟨u, s, r'⟩ := R1.get j r e
    exact ⟨u, by rw [List.getElem?_set_ne (fun z => n z.symm)]; exact s, r'.keeps k fun _ _ _ => rfl⟩
  ·rcases get j p1 e1 with ⟨rfl, rfl, hi⟩ | ⟨n1, e1'⟩
   ·rw [List.getElem?_set_self (by rw [← R1.len]; exact hi)] at s1; cases s1
    rcases get l q1 e2 with ⟨rfl, rfl, _⟩ | ⟨n2, e2⟩
    ·rfl
    ·rw [List.getElem?_set_ne (fun z => n2 z.symm)] at s2
     exact absurd ⟨l, q1, e2, o2, s2⟩ (R1.sep a (.inr rfl))
   ·rw [List.getElem?_set_ne (fun z => n1 z.symm)] at s1
    rcases get l q1 e2 with ⟨rfl, rfl, hi⟩ | ⟨n2, e2⟩
    ·rw [List.getElem?_set_self (by rw [← R1.len]; exact hi)] at s2; cases s2
     exact absurd ⟨j, p1, e1', o1, s1⟩ (R1.sep a (.inr rfl))
    ·rw [List.getElem?_set_ne (fun z => n2 z.symm)] at s2
     exact R1.dj j l p1 q1 v' e1' e2 o1 o2 s1 s2
  ·rcases ow b w with w | w
   ·exact R1.sep b (.inl z) w
   ·rw [w] at z; exact na z
 | ins c ns ds =>
  obtain ⟨a, dx, fs, rfl, na, hn, e0, m, R1, f⟩ := h
  have ow : ∀ b, Wr (ρ.set i (some (.ins c ns ds))) (σ.set i (some (.ref a))) b → Wr ρ σ b ∨ b = a := fun b ⟨j, r, e1, o1, s1⟩ => by
   rcases get j r e1 with ⟨rfl, rfl, hi⟩ | ⟨n, e⟩
   ·rw [List.getElem?_set_self (by rw [← R1.len]; exact hi)] at s1; cases s1; exact .inr rfl
   ·rw [List.getElem?_set_ne (fun z => n z.symm)] at s1; exact .inl ⟨j, r, e, o1, s1⟩
  have k : Keeps (OO (plus A a) ρ σ) H (OO A (ρ.set i (some (.ins c ns ds))) (σ.set i (some (.ref a)))) H := Keeps.less fun b z => by
   rcases z with z | z
   ·exact .inl (.inl z)
   ·rcases ow b z with z | z
    ·exact .inr z
    ·exact .inl (.inr z)
  refine ⟨⟨by rw [List.length_set, List.length_set]; exact R1.len, fun j r e1 => ?_, fun j l p1 q1 v' e1 e2 o1 o2 s1 s2 => ?_, fun b z => R1.dom b (.inl z), fun b z w => ?_⟩, fun b w => (ow b w).imp id fun z => by rw [z]; exact hn⟩
  ·rcases get j r e1 with ⟨rfl, rfl, hi⟩ | ⟨n, e⟩
   ·exact ⟨_, List.getElem?_set_self (by rw [← R1.len]; exact hi), a, dx, fs, rfl, e0, m, f.keeps k⟩
   ·obtain ⟨u, s, r'⟩ := R1.get j r e
    exact ⟨u, by rw [List.getElem?_set_ne (fun z => n z.symm)]; exact s, r'.keeps k fun _ _ _ => rfl⟩
  ·rcases get j p1 e1 with ⟨rfl, rfl, hi⟩ | ⟨n1, e1'⟩
   ·rw [List.getElem?_set_self (by rw [← R1.len]; exact hi)] at s1; cases s1
    rcases get l q1 e2 with ⟨rfl, rfl, _⟩ | ⟨n2, e2⟩
    ·rfl
    ·rw [List.getElem?_set_ne (fun z => n2 z.symm)] at s2
     exact absurd ⟨l, q1, e2, o2, s2⟩ (R1.sep a (.inr rfl))
   ·rw [List.getElem?_set_ne (fun z => n1 z.symm)] at s1
    rcases get l q1 e2 with ⟨rfl, rfl, hi⟩ | ⟨n2, e2⟩
    ·rw [List.getElem?_set_self (by rw [← R1.len]; exact hi)] at s2; cases s2
     exact absurd ⟨j, p1, e1', o1, s1⟩ (R1.sep a (.inr rfl))
    ·rw [List.getElem?_set_ne (fun z => n2 z.symm)] at s2
     exact R1.dj j l p1 q1 v' e1' e2 o1 o2 s1 s2
  ·rcases ow b w with w | w
   ·exact R1.sep b (.inl z) w
   ·rw [w] at z; exact na z
end
abbrev PTG := PV → PSt → (PSt → Prop) → Prop
abbrev PTGs := List D → PSt → (PSt → Prop) → Prop
def LG (K : PySem.W.Frag) (fs : List Nat) (g : TG) (pg : PTG) : Prop := ∀ (fx : List (Nat × V)) (A R : Addr → Prop) (H0 : Hp) (ρ : PSt) (σ : St) (H : Hp) (p : PV) (v : V) (Q : PSt → Prop) (Q' : St → Hp → Prop), fx.map Prod.fst = fs → RelF fx R H0 ρ σ H → Out K A ρ σ H0 H p v → pg p ρ Q →
 (∀ ρ' σ' H', Q ρ' → Rel K A ρ' σ' H' → RelF fx R H0 ρ' σ' H' → Q' σ' H') → g v σ H Q'
def LGs (K : PySem.W.Frag) (fs : List Nat) (g : TGs) (pg : PTGs) : Prop := ∀ (fx : List (Nat × V)) (A R : Addr → Prop) (H0 : Hp) (ρ : PSt) (σ : St) (H : Hp) (ds : List D) (vs : List V) (Q : PSt → Prop) (Q' : St → Hp → Prop), fx.map Prod.fst = fs → RelF fx R H0 ρ σ H → Rel K A ρ σ H → FVs K (OO A ρ σ) H vs ds → pg ds ρ Q →
 (∀ ρ' σ', Q ρ' → Rel K A ρ' σ' H → RelF fx R H0 ρ' σ' H → (∀ b, Wr ρ' σ' b → Wr ρ σ b) → Q' σ' H) → g vs σ H Q'
def LGd (K : PySem.W.Frag) (fs : List Nat) (g : TG) (pg : PTG) : Prop := ∀ (fx : List (Nat × V)) (A R : Addr → Prop) (H0 : Hp) (ρ : PSt) (σ : St) (H : Hp) (d : D) (v : V) (Q : PSt → Prop) (Q' : St → Hp → Prop), fx.map Prod.fst = fs → RelF fx R H0 ρ σ H → Rel K A ρ σ H → FV K (OO A ρ σ) H v d → pg (.dat d) ρ Q →
 (∀ ρ' σ', Q ρ' → Rel K A ρ' σ' H → RelF fx R H0 ρ' σ' H → (∀ b, Wr ρ' σ' b → Wr ρ σ b) → Q' σ' H) → g v σ H Q'
def pgName (i : Nat) : PTG := fun p ρ Q => Q (ρ.set i (some p))
def pgNil : PTGs := fun ds ρ Q => match ds with | [] => Q ρ | _ => False
def pgCons (g : PTG) (gs : PTGs) : PTGs := fun ds ρ Q => match ds with | d :: r => g (.dat d) ρ fun ρ1 => gs r ρ1 Q | [] => False
section
variable {K : PySem.W.Frag} {fs : List Nat}
theorem RelF.put {fx : List (Nat × V)} {R : Addr → Prop} {H0 H : Hp} {ρ : PSt} {σ : St} {i : Nat} {p : PV} {v : V} (hf : fx.map Prod.fst = fs) (hi : fs.contains i = false) (F : RelF fx R H0 ρ σ H) (ow : ∀ b, Wr (ρ.set i (some p)) (σ.set i (some v)) b → Wr ρ σ b ∨ H0 b = none) : RelF fx R H0 (ρ.set i (some p)) (σ.set i (some v)) H :=
 ⟨F.kp, F.dm, fun b w => (ow b w).elim (F.ow b) .inr, fun q hq => by
  have : q.1 ≠ i := fun z => by
   have h1 : i ∈ fs := by rw [← hf, ← z]; exact List.mem_map_of_mem hq
   rw [List.contains_iff_mem.mpr h1] at hi; cases hi
  rw [List.getElem?_set_ne (fun z => this z.symm)]; exact F.fx q hq⟩
theorem lg_name {i : Nat} (hi : fs.contains i = false) : LG K fs (gName i) (pgName i) := fun fx A R H0 ρ σ H p v Q Q' hf F o q k => k _ _ _ q o.put.1 (F.put hf hi o.put.2)
theorem lgs_nil : LGs K fs gNil pgNil := fun fx A R H0 ρ σ H ds vs Q Q' hf F r fv q k => by
 unfold pgNil at q
 split at q
 ·cases fv; exact ⟨rfl, k _ _ q r F fun _ h => h⟩
 ·exact q.elim
theorem lgd_name {i : Nat} (hi : fs.contains i = false) : LGd K fs (gName i) (pgName i) := fun fx A R H0 ρ σ H d v Q Q' hf F r fv q k => by
 have o : Out K A ρ σ H0 H (.dat d) v := ⟨r, fv⟩
 have ow : ∀ b, Wr (ρ.set i (some (.dat d))) (σ.set i (some v)) b → Wr ρ σ b := fun b ⟨j, p, e1, o1, s1⟩ => by
  by_cases z : i = j
  ·subst z
   by_cases hl : i < ρ.length
   ·rw [List.getElem?_set_self hl] at e1; cases e1; cases o1
   ·rw [List.getElem?_eq_none (by rw [List.length_set]; omega)] at e1; cases e1
  ·rw [List.getElem?_set_ne z] at e1 s1; exact ⟨j, p, e1, o1, s1⟩
 exact k _ _ q o.put.1 (F.put hf hi o.put.2) ow
theorem lgs_cons {g : TG} {pg : PTG} {gs : TGs} {pgs : PTGs} (hg : LGd K fs g pg) (h : LGs K fs gs pgs) : LGs K fs (gCons g gs) (pgCons pg pgs) := fun fx A R H0 ρ σ H ds vs Q Q' hf F r fv q k => by
 unfold pgCons at q
 split at q
 ·cases fv with
  | cons a b =>
   exact ⟨_, _, rfl, hg fx A R H0 ρ σ H _ _ _ _ hf F r a q fun ρ1 σ1 q1 r1 F1 w1 => h fx A R H0 ρ1 σ1 H _ _ _ _ hf F1 r1 (b.keeps (Keeps.less fun b z => z.imp id (w1 b))) q1 fun ρ2 σ2 q2 r2 F2 w2 => k ρ2 σ2 q2 r2 F2 fun b z => w1 b (w2 b z)⟩
 ·exact q.elim
end
def LS (K : PySem.W.Frag) (fs : List Nat) (ts : TS) (ps : PTS) : Prop := ∀ (fx : List (Nat × V)) (A R : Addr → Prop) (H0 : Hp) (ρ : PSt) (σ : St) (H : Hp) (D : PEnds) (D' : Ends), fx.map Prod.fst = fs → Rel K A ρ σ H → RelF fx R H0 ρ σ H → ps D ρ →
 (∀ ρ' σ' H', D.nx ρ' → Rel K A ρ' σ' H' → RelF fx R H0 ρ' σ' H' → D'.nx σ' H') →
 (∀ v p ρ' σ' H', D.rt p ρ' → Out K A ρ' σ' H0 H' p v → RelF fx R H0 ρ' σ' H' → D'.rt v H') →
 (∀ ρ' σ' H', D.bk ρ' → Rel K A ρ' σ' H' → RelF fx R H0 ρ' σ' H' → D'.bk σ' H') →
 (∀ ρ' σ' H', D.ct ρ' → Rel K A ρ' σ' H' → RelF fx R H0 ρ' σ' H' → D'.ct σ' H') → ts D' σ H
def psNext : PTS := fun D ρ => D.nx ρ
def psSeq (a b : PTS) : PTS := fun D ρ => a { D with nx := b D } ρ
def psDrop (pe : PTE) : PTS := fun D ρ => pe ρ fun _ ρ1 => D.nx ρ1
def psRet (pe : PTE) : PTS := fun D ρ => pe ρ D.rt
def psIf (t : PTT) (a b : PTS) : PTS := fun D ρ => t ρ fun c ρ1 => PIte c (a D ρ1) (b D ρ1)
def psAsg (pe : PTE) (g : PTG) : PTS := fun D ρ => pe ρ fun p ρ1 => g p ρ1 D.nx
def psJoin (a : PTS) : PTS := fun D ρ => ∃ J : PSt → Prop, a { D with nx := J } ρ ∧ ∀ ρ', J ρ' → D.nx ρ'
section
variable {K : PySem.W.Frag} {fs : List Nat} {ta tb : TS} {pa pb : PTS} {te : TE} {pe : PTE} {tt : TT} {pt : PTT}
theorem ls_next : LS K fs tNext psNext := fun fx A R H0 ρ σ H D D' hf r F q k1 k2 k3 k4 => k1 _ _ _ q r F
theorem ls_seq (ha : LS K fs ta pa) (hb : LS K fs tb pb) : LS K fs (tSeq ta tb) (psSeq pa pb) := fun fx A R H0 ρ σ H D D' hf r F q k1 k2 k3 k4 =>
 ha fx A R H0 ρ σ H _ _ hf r F q (fun ρ1 σ1 H1 q1 r1 F1 => hb fx A R H0 ρ1 σ1 H1 _ _ hf r1 F1 q1 k1 k2 k3 k4) k2 k3 k4
theorem ls_drop (h : LE K te pe) : LS K fs (tDrop te) (psDrop pe) := fun fx A R H0 ρ σ H D D' hf r F q k1 k2 k3 k4 => h A ρ σ H _ _ r q fun v H1 p ρ1 q1 f1 o1 => k1 _ _ _ q1 o1.frz.1 (F.fr f1)
theorem ls_ret (h : LE K te pe) : LS K fs (tRet te) (psRet pe) := fun fx A R H0 ρ σ H D D' hf r F q k1 k2 k3 k4 => h A ρ σ H _ _ r q fun v H1 p ρ1 q1 f1 o1 => k2 v p ρ1 σ H1 q1 (o1.h0 F.dm) (F.fr f1)
theorem ls_if (ht : LT K tt pt) (ha : LS K fs ta pa) (hb : LS K fs tb pb) : LS K fs (tIfS tt ta tb) (psIf pt pa pb) := fun fx A R H0 ρ σ H D D' hf r F q k1 k2 k3 k4 => ht A ρ σ H _ _ r q fun c H1 ρ1 q1 f1 r1 => by
 cases c with
 | true => exact ha fx A R H0 ρ1 σ H1 D D' hf r1 (F.fr f1) q1 k1 k2 k3 k4
 | false => exact hb fx A R H0 ρ1 σ H1 D D' hf r1 (F.fr f1) q1 k1 k2 k3 k4
theorem ls_asg {g : TG} {pg : PTG} (h : LE K te pe) (hg : LG K fs g pg) : LS K fs (tAsg te g) (psAsg pe pg) := fun fx A R H0 ρ σ H D D' hf r F q k1 k2 k3 k4 => h A ρ σ H _ _ r q fun v H1 p ρ1 q1 f1 o1 =>
 hg fx A R H0 ρ1 σ H1 p v _ _ hf (F.fr f1) (o1.h0 F.dm) q1 k1
theorem ls_join (h : LS K fs ta pa) : LS K fs (tJoin ta) (psJoin pa) := fun fx A R H0 ρ σ H D D' hf r F q k1 k2 k3 k4 => by
 obtain ⟨J, q1, q2⟩ := q
 refine ⟨fun σ' H' => ∃ ρ', J ρ' ∧ Rel K A ρ' σ' H' ∧ RelF fx R H0 ρ' σ' H', ?_, fun σ' H' ⟨ρ', j, r', F'⟩ => k1 ρ' σ' H' (q2 ρ' j) r' F'⟩
 exact h fx A R H0 ρ σ H _ _ hf r F q1 (fun ρ' σ' H' j r' F' => ⟨ρ', j, r', F'⟩) k2 k3 k4
end
end L2
namespace L2
open PySem PySem.Spec PyProof.Rows
def iAny (K : PySem.W.Frag) (tl : TE) : TI := fun σ H R => tl σ H fun x H1 => (∃ k a xs, x = .ref a ∧ Sq k K H1 a xs ∧ R (Itk k K a) H1) ∨ ∃ l, x = .str (S l) ∧ R (Its (signs1 l)) H1
section
variable {X : Cx} {tg : Expr}
theorem pi_any0 {l : Expr} {tl : TE} (hl : PE X l tl) : PI X tg l (iAny X.K tl) := by
 intro pins s σ H R I h
 refine thn (hl pins s σ H _ I h) fun v s1 ⟨x, H1, I1, r1, q1⟩ => ?_
 have fin : ∀ b ∈ [s1.heap.objs.size], FpOk X pins H1 b := fun b hb => by
  have e : b = s1.heap.objs.size := by simpa using hb
  subst e
  exact I1.fpOk (Nat.le_refl _) (I1.hok.fresh (Nat.le_refl _))
 rcases q1 with ⟨k, a, xs, e, hq, q⟩ | ⟨l, e, q⟩
 ·subst e
  cases r1
  cases k with
  | false =>
   obtain ⟨its, rv, p, hz⟩ := I1.list hq
   refine wpAny_pyIter_list p.isList ?_
   exact ⟨s1.heap.objs.size, [s1.heap.objs.size], _, _, H1, rfl, I1.kept (t' := s1.toks) fun b o e => Heap.get?_push_of_some _ e, turn_list a _, ⟨_, Heap.get?_push_size _ rfl, rfl, rfl⟩, fin, q⟩
  | true =>
   obtain ⟨its, rv, p, hz⟩ := I1.tuple hq
   refine wpAny_pyIter_tuple (show s1.heap.IsTuple a its.toArray from p) ?_
   exact ⟨s1.heap.objs.size, [s1.heap.objs.size], _, _, H1, rfl, I1.kept (t' := s1.toks) fun b o e => Heap.get?_push_of_some _ e, turn_tuple a _, ⟨_, Heap.get?_push_size _ rfl, rfl, rfl⟩, fin, q⟩
 ·subst e
  obtain ⟨t, rfl⟩ := r1
  have hv : ∀ i v, i < (S l).cps.size → SignAt (S l) i v → ∃ x, (signs1 l)[i]? = some x ∧ RelV x v := fun i v _ ⟨c, u, hc, e⟩ => by
   subst e
   have hc' : l[i]? = some c := by simpa [S] using hc
   exact ⟨.str (S [c]), by unfold signs1; rw [List.getElem?_map, hc']; rfl, u, rfl⟩
  have hsc : ∀ i v, SignAt (S l) i v → ∀ a, v ≠ .ref a := fun i v ⟨c, u, hc, e⟩ a z => by subst e; cases z
  have hn : (signs1 l).length = (S l).cps.size := by rw [signs1_len]; simp [S]
  have hobj : ∀ ty i (h : Heap), h.IsStrIter s1.heap.objs.size ty (S l) t i → ∃ o, h.get? s1.heap.objs.size = some o ∧ ∀ v, o.data ≠ .cell v := fun ty i h ⟨o, ho, _, hd⟩ => ⟨o, ho, fun v z => by rw [hd] at z; cases z⟩
  have hfr : ∀ ty i (h h' : Heap), h.IsStrIter s1.heap.objs.size ty (S l) t i → (∀ b ∈ [s1.heap.objs.size], ∀ o, h.get? b = some o → h'.get? b = some o) → h'.IsStrIter s1.heap.objs.size ty (S l) t i := fun ty i h h' ⟨o, ho, r⟩ k => ⟨o, k _ (by simp) o ho, r⟩
  cases ha : (S l).cps.all (· < 128)
  ·refine wpAny_pyIter_wide ha ⟨s1.heap.objs.size, [s1.heap.objs.size], _, Its (signs1 l), H1, rfl, I1.kept (t' := s1.toks) fun b o e => Heap.get?_push_of_some _ e,
    turn_walk (fun A hA => Walks.strWide hA _ (S l) t) hn hv hsc (hobj _) (hfr _) (fun A i s Q E st q => wpAny_pyIter_striter_wide st q), ⟨_, Heap.get?_push_size _ rfl, rfl, rfl⟩, fin, q⟩
  ·refine wpAny_pyIter_ascii ha ⟨s1.heap.objs.size, [s1.heap.objs.size], _, Its (signs1 l), H1, rfl, I1.kept (t' := s1.toks) fun b o e => Heap.get?_push_of_some _ e,
    turn_walk (fun A hA => Walks.strAscii hA _ (S l) t) hn hv hsc (hobj _) (hfr _) (fun A i s Q E st q => wpAny_pyIter_striter_ascii st q), ⟨_, Heap.get?_push_size _ rfl, rfl, rfl⟩, fin, q⟩
theorem pi_any (K : PySem.W.Frag) (e : X.K = K) {l : Expr} {tl : TE} (hl : PE X l tl) : PI X tg l (iAny K tl) := by subst e; exact pi_any0 hl
end
abbrev PTI := PSt → (Nat → (Nat → D) → PSt → Prop) → Prop
def Wlk (K : PySem.W.Frag) (O : Addr → Prop) (H : Hp) (J : It) (n : Nat) (it : Nat → D) : Prop := ∀ (O' : Addr → Prop) (H' : Hp), Keeps O H O' H' → (∀ b, O' b → H' b ≠ none) →
 (∀ k, k < n → J.go k H' ∧ ∀ x H'', J.yld k H' x H'' → Gr H' H'' ∧ FV K O' H'' x (it k)) ∧ J.stop n H'
def LI (K : PySem.W.Frag) (wi : TI) (pi : PTI) : Prop := ∀ (A : Addr → Prop) (ρ : PSt) (σ : St) (H : Hp) (Q : Nat → (Nat → D) → PSt → Prop) (Q' : It → Hp → Prop), Rel K A ρ σ H → pi ρ Q →
 (∀ J H' n it ρ', Q n it ρ' → Fr ρ σ H ρ' H' → Rel K A ρ' σ H' → Wlk K (OO A ρ' σ) H' J n it → Q' J H') → wi σ H Q'
def itD (ds : List D) (k : Nat) : D := ds.getD k .non
theorem itD_of {ds : List D} {k : Nat} {d : D} (h : ds[k]? = some d) : itD ds k = d := by unfold itD; rw [List.getD_eq_getElem?_getD, h]; rfl
def srcD : D → Option (Nat × (Nat → D))
 | .lst ds => some (ds.length, itD ds)
 | .tup ds => some (ds.length, itD ds)
 | .scr ns => some (ns.length, fun k => .int (ns.getD k 0))
 | .str l => some (l.length, fun k => .str [l.getD k 0])
 | _ => none
def piAny (pe : PTE) : PTI := fun ρ Q => pe ρ fun p ρ1 => match srcD p.d with
 | some (n, it) => Q n it ρ1
 | none => False
section
variable {K : PySem.W.Frag} {te : TE} {pe : PTE} {ta : TA} {pa : PTA}
theorem FV.row {O : Addr → Prop} {H : Hp} {v : V} {d : D} {n : Nat} {it : Nat → D} (h : FV K O H v d) (e : srcD d = some (n, it)) :
  (∃ k a xs, v = .ref a ∧ xs.length = n ∧ (∀ O' H', Keeps O H O' H' → Sq k K H' a xs ∧ ∀ j x, xs[j]? = some x → FV K O' H' x (it j))) ∨ ∃ l, v = .str (S l) ∧ l.length = n ∧ (∀ k, it k = .str [l.getD k 0]) := by
 cases h with
 | lst nn e0 f =>
  cases e
  refine .inl ⟨false, _, _, rfl, f.length, fun O' H' k => ⟨SqL.of (k _ _ nn e0).2, fun j x hx => ?_⟩⟩
  obtain ⟨d, hd, fd⟩ := f.get hx
  rw [itD_of hd]; exact fd.keeps k
 | tup nn e0 f =>
  cases e
  refine .inl ⟨true, _, _, rfl, f.length, fun O' H' k => ⟨SqT.of (k _ _ nn e0).2, fun j x hx => ?_⟩⟩
  obtain ⟨d, hd, fd⟩ := f.get hx
  rw [itD_of hd]; exact fd.keeps k
 | scr s =>
  cases e
  refine .inl ⟨false, _, _, rfl, List.length_map _, fun O' H' k => ⟨(s.keeps k).sq, fun j x hx => ?_⟩⟩
  obtain ⟨z, hz, rfl⟩ := ints_get hx
  show FV K O' H' (V.int z) (D.int (List.getD _ j 0))
  rw [List.getD_eq_getElem?_getD, hz]; exact .int z
 | str l hl => cases e; exact .inr ⟨l, rfl, rfl, fun _ => rfl⟩
 | non => cases e
 | bl b => cases e
 | int i => cases e
 | ty n => cases e
 | dic _ _ _ _ => cases e
 | obj _ _ _ _ => cases e
 | exc0 _ _ => cases e
 | exc1 _ _ _ _ _ _ => cases e
theorem li_any (h : LE K te pe) : LI K (iAny K te) (piAny pe) := fun A ρ σ H Q Q' R q k => h A ρ σ H _ _ R q fun v H1 p ρ1 q1 f1 o1 => by
 obtain ⟨R1, fv⟩ := o1.frz
 split at q1
 ·rename_i n it e
  rcases fv.row e with ⟨b, a, xs, rfl, hl, hr⟩ | ⟨l, rfl, hl, hi⟩
  ·refine .inl ⟨b, a, xs, rfl, (hr _ H1 (fun b o n h => ⟨n, h⟩)).1, k _ H1 n it ρ1 q1 f1 R1 fun O' H' kk dom => ?_⟩
   obtain ⟨sq, hx⟩ := hr O' H' kk
   cases b with
   | false =>
    refine ⟨fun j hj => ⟨⟨xs, _, sq, List.getElem?_eq_getElem (by rw [hl]; exact hj)⟩, fun x H'' ⟨e, y⟩ => ?_⟩, ⟨xs, sq, by rw [hl]; exact Nat.le_refl _⟩⟩
    subst e; exact ⟨Gr.refl _, hx j x (y xs sq)⟩
   | true =>
    refine ⟨fun j hj => ⟨⟨xs, _, sq, List.getElem?_eq_getElem (by rw [hl]; exact hj)⟩, fun x H'' ⟨e, y⟩ => ?_⟩, ⟨xs, sq, by rw [hl]; exact Nat.le_refl _⟩⟩
    subst e; exact ⟨Gr.refl _, hx j x (y xs sq)⟩
  ·refine .inr ⟨l, rfl, k _ H1 n it ρ1 q1 f1 R1 fun O' H' kk dom => ?_⟩
   refine ⟨fun j hj => ⟨by show j < (signs1 l).length; rw [signs1_len, hl]; exact hj, fun x H'' ⟨e, y⟩ => ?_⟩, by show (signs1 l).length = n; rw [signs1_len, hl]⟩
   subst e
   obtain ⟨c, hc, rfl⟩ := signs1_get y
   rw [hi, List.getD_eq_getElem?_getD, hc]
   exact ⟨Gr.refl _, .str _ (by show 1 ≤ 1000000; decide)⟩
 ·exact q1.elim
def piR1 (pa : PTA) : PTI := fun ρ Q => pa ρ fun as ρ1 => match as with
 | [.v (.int j)] => (-(2 ^ 60) ≤ j ∧ j < 2 ^ 60) ∧ Q j.toNat (fun k => .int (k : Int)) ρ1
 | _ => False
theorem wlk_r {O : Addr → Prop} {H : Hp} {lo : Int} {n : Nat} {it : Nat → D} (h : ∀ k : Nat, it k = .int (lo + k)) : Wlk K O H (Itr lo n) n it := fun O' H' _ _ =>
 ⟨fun j hj => ⟨hj, fun x H'' ⟨e, y⟩ => by subst e y; rw [h]; exact ⟨Gr.refl _, .int _⟩⟩, Nat.le_refl _⟩
theorem li_r1 (h : LAs K ta pa) : LI K (iRng1 ta) (piR1 pa) := fun A ρ σ H Q Q' R q k => h A ρ σ H _ _ R q fun vs H1 as ρ1 q1 f1 R1 o1 => by
 split at q1
 ·rename_i j
  cases o1 with
  | cons a b =>
   cases b
   cases a
   exact ⟨j, rfl, by omega, by omega, k _ H1 _ _ ρ1 q1.2 f1 R1 (wlk_r fun k => by rw [Int.zero_add])⟩
 ·exact q1.elim
def rowD : D → Option (List D)
 | .lst ds => some ds
 | .tup ds => some ds
 | .scr ns => some (ns.map .int)
 | _ => none
theorem FV.rowD {O : Addr → Prop} {H : Hp} {v : V} {d : D} {ds : List D} (h : FV K O H v d) (e : L2.rowD d = some ds) :
  ∃ k a xs, v = .ref a ∧ xs.length = ds.length ∧ (∀ O' H', Keeps O H O' H' → Sq k K H' a xs ∧ FVs K O' H' xs ds) := by
 cases h with
 | lst nn e0 f => cases e; exact ⟨false, _, _, rfl, f.length, fun O' H' k => ⟨SqL.of (k _ _ nn e0).2, f.keeps k⟩⟩
 | tup nn e0 f => cases e; exact ⟨true, _, _, rfl, f.length, fun O' H' k => ⟨SqT.of (k _ _ nn e0).2, f.keeps k⟩⟩
 | scr s => cases e; exact ⟨false, _, _, rfl, by rw [List.length_map, List.length_map], fun O' H' k => ⟨(s.keeps k).sq, FVs.of_ints _⟩⟩
 | str l hl => cases e
 | non => cases e
 | bl b => cases e
 | int i => cases e
 | ty n => cases e
 | dic _ _ _ _ => cases e
 | obj _ _ _ _ => cases e
 | exc0 _ _ => cases e
 | exc1 _ _ _ _ _ _ => cases e
def piEnum (pa : PTA) : PTI := fun ρ Q => pa ρ fun as ρ1 => match as with
 | [.v a] => (match rowD a with
  | some xs => Q xs.length (fun k => .tup [.int (k : Int), itD xs k]) ρ1
  | _ => False)
 | _ => False
theorem li_enum (h : LAs K ta pa) : LI K (iEnum K ta) (piEnum pa) := fun A ρ σ H Q Q' R q k => h A ρ σ H _ _ R q fun vs H1 as ρ1 q1 f1 R1 o1 => by
 split at q1
 ·rename_i da
  cases o1 with
  | cons o1 o3 =>
   cases o3
   split at q1
   ·rename_i xs ex
    obtain ⟨b1, a1, us, rfl, l1, w1⟩ := FV.rowD (show FV K _ H1 _ da from o1) ex
    have t1 := w1 _ H1 (fun b o n h => ⟨n, h⟩)
    refine ⟨b1, a1, rfl, ⟨us, t1.1⟩, k _ H1 _ _ ρ1 q1 f1 R1 fun O' H' kk dom => ?_⟩
    obtain ⟨s1, g1⟩ := w1 O' H' kk
    refine ⟨fun j hj => ?_, ⟨us, s1, by omega⟩⟩
    have h1 : j < us.length := by omega
    refine ⟨⟨us, _, s1, List.getElem?_eq_getElem h1⟩, fun x H'' ⟨T, u, hT, e, y1, e2⟩ => ?_⟩
    subst e e2
    obtain ⟨d1, hd1, fd1⟩ := g1.get (y1 us s1)
    have e1 : itD xs j = d1 := by unfold itD; rw [List.getD_eq_getElem?_getD, hd1]; rfl
    rw [e1]
    have kk2 : Keeps O' H' O' (upd H' T (.tup [.int (j : Int), u])) := fun b o n e => ⟨n, by rw [upd_ne (ne_of_none e hT)]; exact e⟩
    exact ⟨Gr.new hT, .tup (fun z => dom T z hT) upd_same (.cons (.int _) (.cons (fd1.keeps kk2) .nil))⟩
   ·exact q1.elim
 ·exact q1.elim
end
def psFor (pi : PTI) (g : PTG) (pb : PTS) : PTS := fun D ρ => pi ρ fun n it ρ1 => ∃ I : Nat → PSt → Prop, I 0 ρ1 ∧ (∀ k ρ d, k < n → d = it k → I k ρ → g (.dat d) ρ fun ρ2 => pb { D with nx := I (k + 1), ct := I (k + 1), bk := D.nx } ρ2) ∧ ∀ ρ, I n ρ → D.nx ρ
section
variable {K : PySem.W.Frag} {fs : List Nat} {wi : TI} {pi : PTI} {g : TG} {pg : PTG} {tb : TS} {pb : PTS} {tt : TT} {pt : PTT}
theorem ls_for (hi : LI K wi pi) (hg : LGd K fs g pg) (hb : LS K fs tb pb) : LS K fs (tFor wi g tb) (psFor pi pg pb) := fun fx A R H0 ρ σ H D D' hf r F q k1 k2 k3 k4 => hi A ρ σ H _ _ r q fun J H1 n it ρ1 q1 f1 r1 W => by
 obtain ⟨I, i0, turn, after⟩ := q1
 have F1 := F.fr f1
 refine ⟨fun i m σ' H' => i + m = n ∧ ∃ ρ', I i ρ' ∧ Rel K A ρ' σ' H' ∧ RelF fx (Wr ρ1 σ) H1 ρ' σ' H', ⟨n, Nat.zero_add n, ρ1, i0, r1, RelF.start F1.fx⟩, fun i m σ' H' ⟨him, ρ', iv, r', F'⟩ => ?_⟩
 obtain ⟨go, stop⟩ := W _ H' F'.keeps r'.dom2
 by_cases hk : i < n
 ·obtain ⟨g1, g2⟩ := go i hk
  refine .inr ⟨g1, fun σ'' H'' => ∃ ρ'', I (i + 1) ρ'' ∧ Rel K A ρ'' σ'' H'' ∧ RelF fx (Wr ρ1 σ) H1 ρ'' σ'' H'', fun σ'' H'' z => ⟨m - 1, by omega, by omega, z⟩, fun x H'' y => ?_⟩
  obtain ⟨gr, fv⟩ := g2 x H'' y
  refine hg fx A (Wr ρ1 σ) H1 ρ' σ' H'' _ x _ _ hf (F'.fr gr.fr) (r'.gr gr) fv (turn i ρ' _ hk rfl iv) fun ρ2 σ2 q2 r2 F2 _ => ?_
  refine hb fx A (Wr ρ1 σ) H1 ρ2 σ2 H'' _ _ hf r2 F2 q2 (fun ρ3 σ3 H3 q3 r3 F3 => ⟨ρ3, q3, r3, F3⟩) (fun v p ρ3 σ3 H3 q3 o3 F3 => k2 v p ρ3 σ3 H3 q3 (o3.h0 F1.dm) (F1.trans F3 F3.fx)) (fun ρ3 σ3 H3 q3 r3 F3 => k1 ρ3 σ3 H3 q3 r3 (F1.trans F3 F3.fx)) (fun ρ3 σ3 H3 q3 r3 F3 => ⟨ρ3, q3, r3, F3⟩)
 ·have e : i = n := by omega
  subst e
  exact .inl ⟨stop, k1 ρ' σ' H' (after ρ' iv) r' (F1.trans F' F'.fx)⟩
end
end L2
namespace L2
open PySem PySem.Spec PyProof.Rows
def sub0P (ix : List (Option Nat)) (ρ : PSt) : PSt := ix.map fun o => match o with
 | none => none
 | some j => match ρ[j]? with
  | some v => v
  | none => none
def back : List (Option Nat) → PSt → PSt → PSt
 | some j :: ix, ρ, t :: τ => back ix (ρ.set j t) τ
 | none :: ix, ρ, _ :: τ => back ix ρ τ
 | _, ρ, _ => ρ
def ixOk : List (Option Nat) → Bool
 | [] => true
 | none :: r => ixOk r
 | some j :: r => !r.contains (some j) && ixOk r
theorem back_len : ∀ (ix : List (Option Nat)) (ρ τ : PSt), (back ix ρ τ).length = ρ.length
 | [], ρ, τ => by unfold back; rfl
 | some j :: ix, ρ, t :: τ => by show (back ix (ρ.set j t) τ).length = _; rw [back_len ix, List.length_set]
 | none :: ix, ρ, t :: τ => by show (back ix ρ τ).length = _; exact back_len ix ρ τ
 | some j :: ix, ρ, [] => by unfold back; rfl
 | none :: ix, ρ, [] => by unfold back; rfl
theorem back_out : ∀ (ix : List (Option Nat)) (ρ τ : PSt) (j : Nat), some j ∉ ix → (back ix ρ τ)[j]? = ρ[j]?
 | [], ρ, τ, j, _ => by unfold back; rfl
 | some i :: ix, ρ, t :: τ, j, h => by
  show (back ix (ρ.set i t) τ)[j]? = _
  rw [back_out ix _ τ j (fun z => h (List.mem_cons_of_mem _ z)), List.getElem?_set_ne (fun z => h (by rw [z]; exact List.mem_cons_self ..))]
 | none :: ix, ρ, t :: τ, j, h => by show (back ix ρ τ)[j]? = _; exact back_out ix ρ τ j fun z => h (List.mem_cons_of_mem _ z)
 | some i :: ix, ρ, [], j, _ => by unfold back; rfl
 | none :: ix, ρ, [], j, _ => by unfold back; rfl
theorem back_in : ∀ (ix : List (Option Nat)) (ρ τ : PSt) (j k : Nat), ixOk ix = true → ix[k]? = some (some j) → k < τ.length → j < ρ.length → (back ix ρ τ)[j]? = τ[k]?
 | some i :: ix, ρ, t :: τ, j, k, h, e, hk, hj => by
  have h : (!ix.contains (some i) && ixOk ix) = true := h
  rw [Bool.and_eq_true] at h
  show (back ix (ρ.set i t) τ)[j]? = _
  cases k with
  | zero =>
   have e : some (some i) = some (some j) := e
   cases e
   have hn : some i ∉ ix := fun z => by
    have := h.1
    rw [List.contains_iff_mem.mpr z] at this; cases this
   rw [back_out ix _ τ i hn, List.getElem?_set_self hj]; rfl
  | succ k =>
   have e : ix[k]? = some (some j) := by simpa using e
   rw [back_in ix _ τ j k h.2 e (by simpa using hk) (by rw [List.length_set]; exact hj)]; simp
 | none :: ix, ρ, t :: τ, j, k, h, e, hk, hj => by
  show (back ix ρ τ)[j]? = _
  cases k with
  | zero => cases e
  | succ k =>
   have e : ix[k]? = some (some j) := by simpa using e
   rw [back_in ix _ τ j k h e (by simpa using hk) hj]; simp
 | [], ρ, τ, j, k, h, e, hk, hj => by simp at e
 | some i :: ix, ρ, [], j, k, h, e, hk, hj => absurd hk (Nat.not_lt_zero _)
 | none :: ix, ρ, [], j, k, h, e, hk, hj => absurd hk (Nat.not_lt_zero _)
theorem ixOk_inj : ∀ {ix : List (Option Nat)} {k l j : Nat}, ixOk ix = true → ix[k]? = some (some j) → ix[l]? = some (some j) → k = l
 | some i :: ix, k, l, j, h, e1, e2 => by
  have h : (!ix.contains (some i) && ixOk ix) = true := h
  rw [Bool.and_eq_true] at h
  have no : ∀ m, ix[m]? ≠ some (some i) := fun m z => by
   have := h.1
   rw [List.contains_iff_mem.mpr (List.mem_of_getElem? z)] at this; cases this
  cases k with
  | zero =>
   have e1 : some (some i) = some (some j) := e1
   cases e1
   cases l with
   | zero => rfl
   | succ l => exact absurd (by simpa using e2) (no l)
  | succ k =>
   cases l with
   | zero =>
    have e2 : some (some i) = some (some j) := e2
    cases e2
    exact absurd (by simpa using e1) (no k)
   | succ l => rw [ixOk_inj (k := k) (l := l) h.2 (by simpa using e1) (by simpa using e2)]
 | none :: ix, k, l, j, h, e1, e2 => by
  cases k with
  | zero => cases e1
  | succ k =>
   cases l with
   | zero => cases e2
   | succ l => rw [ixOk_inj (ix := ix) (k := k) (l := l) (j := j) h (by simpa using e1) (by simpa using e2)]
 | [], k, l, j, h, e1, e2 => by simp at e1
theorem sub0P_get {ix : List (Option Nat)} {ρ : PSt} {k : Nat} {p : PV} (h : (sub0P ix ρ)[k]? = some (some p)) : ∃ j, ix[k]? = some (some j) ∧ ρ[j]? = some (some p) := by
 unfold sub0P at h
 rw [List.getElem?_map] at h
 cases e : ix[k]? with
 | none => rw [e] at h; cases h
 | some o =>
  rw [e] at h
  cases o with
  | none => cases h
  | some j =>
   refine ⟨j, rfl, ?_⟩
   have h : some (match ρ[j]? with | some v => v | none => none) = some (some p) := h
   cases e2 : ρ[j]? with
   | none => rw [e2] at h; cases h
   | some v => rw [e2] at h; exact h
theorem sub0_get {ix : List (Option Nat)} {σ : St} {k j : Nat} {v : V} (h : ix[k]? = some (some j)) (e : σ[j]? = some (some v)) : (sub0 ix σ)[k]? = some (some v) := by
 unfold sub0
 rw [List.getElem?_map, h]
 show some (match σ[j]? with | some v => v | none => none) = some (some v)
 rw [e]
theorem Rel.amb {K : PySem.W.Frag} {A : Addr → Prop} {ρ : PSt} {σ : St} {H : Hp} {a : Addr} {o : HO} (R : Rel K A ρ σ H) (ha : A a) : Rel K A ρ σ (upd H a o) := by
 have k : Keeps (OO A ρ σ) H (OO A ρ σ) (upd H a o) := fun b u n e => ⟨n, by rw [upd_ne (fun z => n (by rw [z]; exact .inl ha))]; exact e⟩
 refine ⟨R.len, fun i q e => ?_, R.dj, fun b z => ?_, R.sep⟩
 ·obtain ⟨v, s, r⟩ := R.get i q e
  refine ⟨v, s, r.keeps k fun ow b eb => ?_⟩
  rw [upd_ne]
  intro z
  subst z eb
  exact R.sep b ha ⟨i, q, e, ow, s⟩
 ·by_cases z' : b = a
  ·rw [z', upd_same]; exact nofun
  ·rw [upd_ne z']; exact R.dom b z
def capOk (ix : List (Option Nat)) (ρ : PSt) : Bool := ix.all fun o => match o with | none => true | some j => (match ρ[j]? with | some (some _) => true | _ => false)
structure CompG (ix : List (Option Nat)) (ρ1 : PSt) (n : Nat) (it : Nat → D) (g : PTG) (pt : PTT) (pe : PTE) (Q : PKt) : Prop where
 ex : ∃ I : Nat → List D → PSt → Prop, I 0 [] (sub0P ix ρ1) ∧
  (∀ k ys τ d, k < n → d = it k → I k ys τ → g (.dat d) τ fun τ2 => pt τ2 fun ok τ3 => PIte ok (pe τ3 fun p τ4 => I (k + 1) (ys ++ [p.d]) τ4) (I (k + 1) ys τ3)) ∧ ∀ ys τ, I n ys τ → Q (.own ys) (back ix ρ1 τ)
def pComp (ix : List (Option Nat)) (pi : PTI) (g : PTG) (pt : PTT) (pe : PTE) : PTE := fun ρ Q => pi ρ fun n it ρ1 => capOk ix ρ1 = true ∧ n ≤ 1000000 ∧ CompG ix ρ1 n it g pt pe Q
def pYes : PTT := fun ρ Q => Q true ρ
theorem lt_yes {K : PySem.W.Frag} : LT K tYes pYes := fun A ρ σ H Q Q' R q k => k true H ρ q (Fr.refl _ _ _) R
def capt (ix : List (Option Nat)) : List Nat := (List.range ix.length).filter fun k => (ix.getD k none).isSome
theorem le_comp {K : PySem.W.Frag} {ix : List (Option Nat)} {wi : TI} {pi : PTI} {g : TG} {pg : PTG} {tts : TT} {pt : PTT} {te : TE} {pe : PTE} (hix : ixOk ix = true) (hi : LI K wi pi) (hg : ∀ fs : List Nat, (∀ k ∈ fs, k ∈ capt ix) → LGd K fs g pg) (ht : LT K tts pt) (he : LE K te pe) :
  LE K (tComp ix wi g tts te) (pComp ix pi pg pt pe) := fun A ρ σ H Q Q' R q k => hi A ρ σ H _ _ R q fun J H1 n it ρ1 q1 f1 R1 W D hD => by
 obtain ⟨hcap, hn, ⟨I, i0, turn, after⟩⟩ := q1
 let τρ0 := sub0P ix ρ1
 let τσ0 := sub0 ix σ
 let Ai : Addr → Prop := fun b => A b ∨ b = D ∨ (Wr ρ1 σ b ∧ ¬ Wr τρ0 τσ0 b)
 let H0' := upd H1 D (.lst [])
 have wsub : ∀ b, Wr τρ0 τσ0 b → Wr ρ1 σ b := fun b ⟨m, p, e, o, s⟩ => by
  obtain ⟨j, h1, h2⟩ := sub0P_get e
  obtain ⟨v, hv, _⟩ := R1.get j p h2
  have := sub0_get h1 hv
  rw [s] at this
  cases this
  exact ⟨j, p, h2, o, hv⟩
 have nD : ¬ Wr ρ1 σ D := fun z => R1.wr z hD
 have oosub : ∀ b, OO Ai τρ0 τσ0 b → OO A ρ1 σ b ∨ b = D := fun b z => by
  rcases z with (z | z | z) | z
  ·exact .inl (.inl z)
  ·exact .inr z
  ·exact .inl (.inr z.1)
  ·exact .inl (.inr (wsub b z))
 have kD : Keeps (OO A ρ1 σ) H1 (OO Ai τρ0 τσ0) H0' := fun b o nn e => by
  refine ⟨fun z => ?_, ?_⟩
  ·rcases oosub b z with z | z
   ·exact nn z
   ·rw [z, hD] at e; cases e
  ·rw [show H0' b = H1 b from upd_ne (ne_of_none e hD)]; exact e
 have Ri : Rel K Ai τρ0 τσ0 H0' := by
  refine ⟨by show (sub0P ix ρ1).length = (sub0 ix σ).length; unfold sub0P sub0; rw [List.length_map, List.length_map], fun m p e => ?_, fun m l p q v e1 e2 o1 o2 s1 s2 => ?_, fun b z => ?_, fun b z w => ?_⟩
  ·obtain ⟨j, h1, h2⟩ := sub0P_get e
   obtain ⟨v, hv, r⟩ := R1.get j p h2
   refine ⟨v, sub0_get h1 hv, r.keeps kD fun ow a ea => ?_⟩
   subst ea
   exact upd_ne (fun z => nD (by rw [← z]; exact ⟨j, p, h2, ow, hv⟩))
  ·obtain ⟨j, h1, h2⟩ := sub0P_get e1
   obtain ⟨j', h3, h4⟩ := sub0P_get e2
   obtain ⟨v1, hv1, _⟩ := R1.get j p h2
   obtain ⟨v2, hv2, _⟩ := R1.get j' q h4
   have t1 := sub0_get h1 hv1
   have t2 := sub0_get h3 hv2
   rw [s1] at t1
   rw [s2] at t2
   cases t1
   cases t2
   have := R1.dj j j' p q _ h2 h4 o1 o2 hv1 hv2
   subst this
   exact ixOk_inj hix h1 h3
  ·rcases z with z | z | z
   ·intro e
    by_cases zz : b = D
    ·exact R1.dom b z (by rw [zz]; exact hD)
    ·rw [show H0' b = H1 b from upd_ne zz] at e; exact R1.dom b z e
   ·rw [z]; show upd H1 D _ D ≠ none; rw [upd_same]; exact nofun
   ·intro e
    rw [show H0' b = H1 b from upd_ne (fun zz => nD (by rw [← zz]; exact z.1))] at e; exact R1.wr z.1 e
  ·rcases z with z | z | z
   ·exact R1.sep b z (wsub b w)
   ·rw [z] at w; exact nD (wsub D w)
   ·exact z.2 w
 let fxi : List (Nat × V) := (capt ix).filterMap fun m => match (τσ0[m]?) with | some (some v) => some (m, v) | _ => none
 have hfx : ∀ p ∈ fxi, τσ0[p.1]? = some (some p.2) := fun p hp => by
  obtain ⟨m, hm, e⟩ := List.mem_filterMap.mp hp
  split at e
  ·rename_i v ev; cases e; exact ev
  ·cases e
 have hfs : ∀ m ∈ fxi.map Prod.fst, m ∈ capt ix := fun m hm => by
  obtain ⟨p, hp, rfl⟩ := List.mem_map.mp hm
  obtain ⟨m', hm', e⟩ := List.mem_filterMap.mp hp
  split at e
  ·cases e; exact hm'
  ·cases e
 have hgi := hg (fxi.map Prod.fst) hfs
 have fxget : ∀ (m j : Nat) (v : V), ix[m]? = some (some j) → σ[j]? = some (some v) → (m, v) ∈ fxi := fun m j v h1 h2 => by
  refine List.mem_filterMap.mpr ⟨m, ?_, ?_⟩
  ·unfold capt
   refine List.mem_filter.mpr ⟨List.mem_range.mpr (List.getElem?_eq_some_iff.mp h1).1, ?_⟩
   rw [List.getD_eq_getElem?_getD, h1]; rfl
  ·show (match (sub0 ix σ)[m]? with | some (some v) => some (m, v) | _ => none) = _
   rw [sub0_get h1 h2]
 let Rr : Addr → Prop := fun b => Wr τρ0 τσ0 b ∨ b = D
 have hRr : ∀ b, Rr b → OO Ai τρ0 τσ0 b := fun b z => z.elim (fun z => .inr z) (fun z => .inl (.inr (.inl z)))
 have F0 : RelF fxi Rr H0' τρ0 τσ0 H0' := ⟨fun _ _ _ h => h, fun _ h => h, fun b w => .inl (.inl w), hfx⟩
 refine ⟨fun i m τ H2 => i + m = n ∧ ∃ ys τρ xs, I i ys τρ ∧ ys.length ≤ i ∧ Rel K Ai τρ τ H2 ∧ RelF fxi Rr H0' τρ τ H2 ∧ H2 D = some (.lst xs) ∧ FVs K (OO Ai τρ τ) H2 xs ys ∧ ∀ b, Wr τρ τ b → Wr τρ0 τσ0 b,
  ⟨n, Nat.zero_add n, [], τρ0, [], i0, Nat.le_refl _, Ri, F0, upd_same, .nil, fun _ h => h⟩, fun i m τ H2 ⟨him, ys, τρ, xs, iv, hy, r2, F2, eD, fD, hw⟩ => ?_⟩
 have kk : Keeps (OO A ρ1 σ) H1 (OO Ai τρ τ) H2 := fun b o nn e => (F2.keepsR hRr) b o (kD b o nn e).1 (kD b o nn e).2
 obtain ⟨go, stop⟩ := W _ H2 kk r2.dom2
 by_cases hk : i < n
 ·obtain ⟨g1, g2⟩ := go i hk
  refine .inr ⟨g1, fun x H3 y => ?_⟩
  obtain ⟨gr, fv⟩ := g2 x H3 y
  have AiD : Ai D := .inr (.inl rfl)
  refine hgi fxi Ai Rr H0' τρ τ H3 _ x _ _ rfl (F2.fr gr.fr) (r2.gr gr) fv (turn i ys τρ _ hk rfl iv) fun τρ2 τ2 q2 r3 F3 w3 => ?_
  refine ht Ai τρ2 τ2 H3 _ _ r3 q2 fun ok H5 τρ3 q3 f5 r5 => ?_
  have F5 := F3.fr f5
  have fD5 : FVs K (OO Ai τρ3 τ2) H5 xs ys := ((fD.keeps (gr.fr (ρ := τρ) (σ := τ)).keeps).keeps (Keeps.less fun b z => z.imp id (w3 b))).keeps f5.keeps
  have eD5 : H5 D = some (.lst xs) := f5.kp D _ (r3.sep D AiD) (gr D _ eD)
  cases ok with
  | true =>
   refine he Ai τρ3 τ2 H5 _ _ r5 q3 fun v H6 p τρ4 q4 f6 o6 => ?_
   obtain ⟨r6, fv6⟩ := o6.frz
   have F6 := F5.fr f6
   have eD6 : H6 D = some (.lst xs) := f6.kp D _ (r5.sep D AiD) eD5
   have kw : Keeps (OO Ai τρ4 τ2) H6 (OO Ai τρ4 τ2) (upd H6 D (.lst (xs ++ [v]))) := fun b o nn e => ⟨nn, by rw [upd_ne (fun z => nn (by rw [z]; exact .inl AiD))]; exact e⟩
   refine ⟨xs, eD6, ?_, m - 1, by omega, by omega, ys ++ [p.d], τρ4, xs ++ [v], q4, by rw [List.length_append]; show _ + 1 ≤ _; omega, r6.amb AiD, ⟨fun b o nn e => ?_, fun b z => ?_, F6.ow, F6.fx⟩, upd_same, ((fD5.keeps f6.keeps).append (.cons fv6 .nil)).keeps kw, fun b z => hw b (w3 b (f5.ow b (f6.ow b z)))⟩
   ·have : xs.length = ys.length := fD.length
    exact Nat.lt_of_lt_of_le (by omega : xs.length < 1000000) (sz _ (Nat.le_refl _))
   ·rw [upd_ne (fun z => nn (.inr z))]; exact F6.kp b o nn e
   ·by_cases zz : b = D
    ·rw [zz, upd_same]; exact nofun
    ·rw [upd_ne zz]; exact F6.dm b z
  | false => exact ⟨m - 1, by omega, by omega, ys, τρ3, xs, q3, by omega, r5, F5, eD5, fD5, fun b z => hw b (w3 b (f5.ow b z))⟩
 ·have e : i = n := by omega
  subst e
  refine .inl ⟨stop, ?_⟩
  have q' := after ys τρ iv
  have cap : ∀ (m j : Nat), ix[m]? = some (some j) → ∃ p v, ρ1[j]? = some (some p) ∧ σ[j]? = some (some v) ∧ τ[m]? = some (some v) := fun m j e => by
   have h1 := List.all_eq_true.mp hcap _ (List.mem_of_getElem? e)
   have h1 : (match ρ1[j]? with | some (some _) => true | _ => false) = true := h1
   split at h1
   ·rename_i p ep
    obtain ⟨v, hv, _⟩ := R1.get j p ep
    exact ⟨p, v, ep, hv, F2.fx _ (fxget m j v e hv)⟩
   ·cases h1
  have get' : ∀ (j : Nat) (p : PV), (back ix ρ1 τρ)[j]? = some (some p) → (∃ m v, ix[m]? = some (some j) ∧ σ[j]? = some (some v) ∧ τ[m]? = some (some v) ∧ τρ[m]? = some (some p)) ∨ (some j ∉ ix ∧ ρ1[j]? = some (some p)) := fun j p e => by
   by_cases hj : some j ∈ ix
   ·obtain ⟨m, hm, em⟩ := List.getElem_of_mem hj
    have em' : ix[m]? = some (some j) := by rw [List.getElem?_eq_getElem hm, em]
    obtain ⟨p0, v, h1, h2, h3⟩ := cap m j em'
    rw [back_in ix ρ1 τρ j m hix em' (by rw [r2.len]; exact (List.getElem?_eq_some_iff.mp h3).1) (List.getElem?_eq_some_iff.mp h1).1] at e
    exact .inl ⟨m, v, em', h2, h3, e⟩
   ·rw [back_out ix ρ1 τρ j hj] at e
    exact .inr ⟨hj, e⟩
  have nocap : ∀ (j : Nat) (p : PV) (b : Addr), some j ∉ ix → ρ1[j]? = some (some p) → p.isOwn = true → σ[j]? = some (some (.ref b)) → ¬ Wr τρ0 τσ0 b := fun j p b hj e o s ⟨m, q, e1, o1, s1⟩ => by
   obtain ⟨j', h1, h2⟩ := sub0P_get e1
   obtain ⟨v, hv, _⟩ := R1.get j' q h2
   have := sub0_get h1 hv
   rw [s1] at this
   cases this
   have := R1.dj j j' p q _ e h2 o o1 s hv
   subst this
   exact hj (List.mem_of_getElem? h1)
  have w' : ∀ b, Wr (back ix ρ1 τρ) σ b → Wr τρ τ b ∨ (Wr ρ1 σ b ∧ ¬ Wr τρ0 τσ0 b) := fun b ⟨j, p, e, o, s⟩ => by
   rcases get' j p e with ⟨m, v, h1, h2, h3, h4⟩ | ⟨hj, h1⟩
   ·rw [s] at h2; cases h2; exact .inl ⟨m, p, h4, o, h3⟩
   ·exact .inr ⟨⟨j, p, h1, o, s⟩, nocap j p b hj h1 o s⟩
  have oo' : ∀ b, OO (plus A D) (back ix ρ1 τρ) σ b → OO Ai τρ τ b := fun b z => by
   rcases z with (z | z) | z
   ·exact .inl (.inl z)
   ·exact .inl (.inr (.inl z))
   ·rcases w' b z with z | z
    ·exact .inr z
    ·exact .inl (.inr (.inr z))
  have kp1 : ∀ b o, ¬ Wr τρ0 τσ0 b → b ≠ D → H1 b = some o → H2 b = some o := fun b o n1 n2 e => F2.kp b o (fun z => z.elim n1 n2) (by rw [show H0' b = H1 b from upd_ne n2]; exact e)
  have k1 : Keeps (OO A ρ1 σ) H1 (OO (plus A D) (back ix ρ1 τρ) σ) H2 := fun b o nn e => ⟨fun z => (kk b o nn e).1 (oo' b z), (kk b o nn e).2⟩
  have AiD : Ai D := .inr (.inl rfl)
  have R' : Rel K (plus A D) (back ix ρ1 τρ) σ H2 := by
   refine ⟨by rw [back_len]; exact R1.len, fun j p e => ?_, fun j l p q v e1 e2 o1 o2 s1 s2 => ?_, fun b z => ?_, fun b z w => ?_⟩
   ·rcases get' j p e with ⟨m, v, h1, h2, h3, h4⟩ | ⟨hj, h1⟩
    ·obtain ⟨v', hv', r⟩ := r2.get m p h4
     rw [h3] at hv'; cases hv'
     exact ⟨v, h2, r.keeps (Keeps.less oo') fun _ _ _ => rfl⟩
    ·obtain ⟨v, hv, r⟩ := R1.get j p h1
     refine ⟨v, hv, r.keeps k1 fun ow a ea => ?_⟩
     subst ea
     obtain ⟨a', u, e1, e2⟩ := r.ref ow
     cases e1
     rw [e2]
     exact kp1 a u (nocap j p a hj h1 ow hv) (fun z => by rw [z, hD] at e2; cases e2) e2
   ·rcases get' j p e1 with ⟨m, v1, h1, h2, h3, h4⟩ | ⟨hj, h1⟩
    ·rw [s1] at h2; cases h2
     rcases get' l q e2 with ⟨m', v2, g1, g2, g3, g4⟩ | ⟨hl, g1⟩
     ·rw [s2] at g2; cases g2
      have := r2.dj m m' p q _ h4 g4 o1 o2 h3 g3
      subst this
      rw [h1] at g1; cases g1; rfl
     ·exfalso
      obtain ⟨v', hv', r⟩ := r2.get m p h4
      rw [h3] at hv'; cases hv'
      obtain ⟨a, u, ea, _⟩ := r.ref o1
      subst ea
      exact nocap l q a hl g1 o2 s2 (hw a ⟨m, p, h4, o1, h3⟩)
    ·rcases get' l q e2 with ⟨m', v2, g1, g2, g3, g4⟩ | ⟨hl, g1⟩
     ·rw [s2] at g2; cases g2
      exfalso
      obtain ⟨v', hv', r⟩ := r2.get m' q g4
      rw [g3] at hv'; cases hv'
      obtain ⟨a, u, ea, _⟩ := r.ref o2
      subst ea
      exact nocap j p a hj h1 o1 s1 (hw a ⟨m', q, g4, o2, g3⟩)
     ·exact R1.dj j l p q v h1 g1 o1 o2 s1 s2
   ·rcases z with z | z
    ·exact r2.dom b (.inl z)
    ·rw [z, eD]; exact nofun
   ·rcases w' b w with w | w
    ·rcases z with z | z
     ·exact r2.sep b (.inl z) w
     ·rw [z] at w; exact r2.sep D AiD w
    ·rcases z with z | z
     ·exact R1.sep b z w.1
     ·rw [z] at w; exact nD w.1
  have f2 : Fr ρ1 σ H1 (back ix ρ1 τρ) H2 := by
   refine ⟨fun b o nn e => kp1 b o (fun z => nn (wsub b z)) (fun z => by rw [z, hD] at e; cases e) e, fun b z => F2.dm b ?_, fun b z => ?_⟩
   ·intro e
    by_cases zz : b = D
    ·exact z (by rw [zz]; exact hD)
    ·rw [show H0' b = H1 b from upd_ne zz] at e; exact z e
   ·rcases w' b z with z | z
    ·exact wsub b (hw b z)
    ·exact z.1
  have hD0 : H D = none := by
   cases e : H D with
   | none => rfl
   | some o => exact absurd hD (f1.dm D (by rw [e]; exact nofun))
  exact k _ H2 (.own ys) _ q' (f1.trans f2) ⟨D, xs, rfl, fun z => R1.dom D z hD, hD0, eD, R', fD.keeps (Keeps.less oo')⟩
end L2
namespace L2
open PySem PySem.Spec PyProof.Rows
section
variable {K : PySem.W.Frag} {A A' : Addr → Prop} {ρ : PSt} {σ : St} {H H' : Hp}
theorem Rel.step (R : Rel K A ρ σ H) {i : Nat} {p q : PV} {a : Addr} (e : ρ[i]? = some (some p)) (ow : p.isOwn = true) (ow' : q.isOwn = true) (es : σ[i]? = some (some (.ref a)))
  (kp : ∀ b o, b ≠ a → H b = some o → H' b = some o) (ha : H' a ≠ none) (h1 : ∀ b, A b → A' b) (h2 : ∀ b, A' b → A b ∨ H b = none) (dom' : ∀ b, A' b → H' b ≠ none)
  (new : RS K (OO A' ρ σ) H' q (.ref a)) : Rel K A' (ρ.set i (some q)) σ H' ∧ Fr ρ σ H (ρ.set i (some q)) H' := by
 have hi : i < ρ.length := (List.getElem?_eq_some_iff.mp e).1
 have wa : Wr ρ σ a := ⟨i, p, e, ow, es⟩
 have weq : ∀ b, Wr (ρ.set i (some q)) σ b ↔ Wr ρ σ b := fun b => by
  constructor
  ·rintro ⟨j, r, e1, o1, s1⟩
   by_cases z : i = j
   ·subst z; exact ⟨i, p, e, ow, s1⟩
   ·rw [List.getElem?_set_ne z] at e1; exact ⟨j, r, e1, o1, s1⟩
  ·rintro ⟨j, r, e1, o1, s1⟩
   by_cases z : i = j
   ·subst z; exact ⟨i, q, List.getElem?_set_self hi, ow', s1⟩
   ·exact ⟨j, r, by rw [List.getElem?_set_ne z]; exact e1, o1, s1⟩
 have oeq : OO A' (ρ.set i (some q)) σ = OO A' ρ σ := funext fun b => propext (or_congr Iff.rfl (weq b))
 have kp1 : ∀ b u, ¬ Wr ρ σ b → H b = some u → H' b = some u := fun b u n h => kp b u (fun z => n (by rw [z]; exact wa)) h
 have k : Keeps (OO A ρ σ) H (OO A' ρ σ) H' := fun b u n h => by
  refine ⟨fun z => ?_, kp1 b u (fun z => n (.inr z)) h⟩
  rcases z with z | z
  ·rcases h2 b z with z | z
   ·exact n (.inl z)
   ·rw [z] at h; cases h
  ·exact n (.inr z)
 have dm : ∀ b, H b ≠ none → H' b ≠ none := fun b n => by
  by_cases z : b = a
  ·rw [z]; exact ha
  ·cases eb : H b with
   | none => exact absurd eb n
   | some o => rw [kp b o z eb]; exact nofun
 refine ⟨⟨by rw [List.length_set]; exact R.len, fun j r e1 => ?_, fun j l p1 q1 v e1 e2 o1 o2 s1 s2 => ?_, dom', fun b z w => ?_⟩, ⟨kp1, dm, fun b w => (weq b).mp w⟩⟩
 ·rw [oeq]
  by_cases z : i = j
  ·subst z
   rw [List.getElem?_set_self hi] at e1
   cases e1
   exact ⟨_, es, new⟩
  ·rw [List.getElem?_set_ne z] at e1
   obtain ⟨v, s, rr⟩ := R.get j r e1
   refine ⟨v, s, rr.keeps k fun ow2 b eb => ?_⟩
   obtain ⟨b', u, e3, e4⟩ := rr.ref ow2
   rw [eb] at e3; cases e3
   rw [e4]
   refine kp b u (fun zz => ?_) e4
   subst zz
   rw [eb] at s
   exact z (R.dj i j p r _ e e1 ow ow2 es s)
 ·have ex : ∀ (m : Nat) (x : PV), (ρ.set i (some q))[m]? = some (some x) → x.isOwn = true → ∃ y : PV, ρ[m]? = some (some y) ∧ y.isOwn = true := fun m x em ox => by
   by_cases z : i = m
   ·subst z; exact ⟨p, e, ow⟩
   ·rw [List.getElem?_set_ne z] at em; exact ⟨x, em, ox⟩
  obtain ⟨y1, g1, g2⟩ := ex j p1 e1 o1
  obtain ⟨y2, g3, g4⟩ := ex l q1 e2 o2
  exact R.dj j l y1 y2 v g1 g3 g2 g4 s1 s2
 ·rcases h2 b z with z | z
  ·exact R.sep b z ((weq b).mp w)
  ·exact R.wr ((weq b).mp w) z
theorem Rel.lstw (R : Rel K A ρ σ H) {i : Nat} {ds es : List D} {a : Addr} {ys : List V} (e : ρ[i]? = some (some (.own ds))) (es' : σ[i]? = some (some (.ref a))) (f : FVs K (OO A ρ σ) H ys es) :
  Rel K A (ρ.set i (some (.own es))) σ (upd H a (.lst ys)) ∧ Fr ρ σ H (ρ.set i (some (.own es))) (upd H a (.lst ys)) := by
 have wa : OO A ρ σ a := .inr ⟨i, _, e, rfl, es'⟩
 exact R.write (q := .own es) e rfl rfl es' ⟨a, ys, rfl, upd_same, f.keeps fun b u n h => ⟨n, by rw [upd_ne (fun z => n (by rw [z]; exact wa))]; exact h⟩⟩
theorem Rel.ownAt (R : Rel K A ρ σ H) {i : Nat} {ds : List D} (e : ρ[i]? = some (some (.own ds))) : ∃ a xs, σ[i]? = some (some (.ref a)) ∧ H a = some (.lst xs) ∧ FVs K (OO A ρ σ) H xs ds := by
 obtain ⟨v, s, a, xs, rfl, g, f⟩ := R.get i _ e
 exact ⟨a, xs, s, g, f⟩
end
def pApp (i : Nat) (pe : PTE) : PTE := fun ρ Q => match ρ[i]? with
 | some (some (.own _)) => pe ρ fun p ρ1 => (match ρ1[i]? with
  | some (some (.own ds)) => ds.length < 1000000 ∧ Q (.dat .non) (ρ1.set i (some (.own (ds ++ [p.d]))))
  | _ => False)
 | _ => False
def psSetI (i : Nat) (pe pk : PTE) : PTS := fun D ρ => pe ρ fun p ρ1 => (match ρ1[i]? with
 | some (some (.own _)) => pk ρ1 fun kp ρ2 => (match ρ2[i]?, kp with
  | some (some (.own ds)), .dat (.int k) => ∃ j, ixN ds.length k = some j ∧ D.nx (ρ2.set i (some (.own (ds.set j p.d))))
  | _, _ => False)
 | _ => False)
section
variable {K : PySem.W.Frag} {te tk : TE} {pe pk : PTE} {fs : List Nat}
theorem le_app {i : Nat} (h : LE K te pe) : LE K (tBM K "list" rAppend (tVar i) (tCons te tNil)) (pApp i pe) := fun A ρ σ H Q Q' R q k => by
 unfold pApp at q
 split at q
 ·rename_i ds0 e0
  obtain ⟨a0, xs0, s0, g0, f0⟩ := R.ownAt e0
  refine ⟨_, s0, .inl ⟨rfl, xs0, SqL.of g0⟩, h A ρ σ H _ _ R q fun v H1 p ρ1 q1 f1 o1 => ?_⟩
  obtain ⟨R1, fv⟩ := o1.frz
  split at q1
  ·rename_i ds e1
   obtain ⟨a, xs, s, g, f⟩ := R1.ownAt e1
   rw [s0] at s; cases s
   obtain ⟨R2, f2⟩ := R1.lstw e1 s0 (f.append (.cons fv .nil))
   exact ⟨a0, xs, v, rfl, rfl, g, Nat.lt_of_lt_of_le (by rw [f.length]; exact q1.1) (sz _ (Nat.le_refl _)), k _ _ _ _ q1.2 (f1.trans f2) ⟨R2, .non⟩⟩
  ·exact q1.elim
 ·exact q.elim
theorem ls_setI {i : Nat} (h : LE K te pe) (hk : LE K tk pk) : LS K fs (tAsg te (gSub (tVar i) tk rSetL)) (psSetI i pe pk) := fun fx A R H0 ρ σ H D D' hf r F q k1 k2 k3 k4 => h A ρ σ H _ _ r q fun v H1 p ρ1 q1 f1 o1 => by
 obtain ⟨R1, fv⟩ := o1.frz
 split at q1
 ·rename_i ds0 e0
  obtain ⟨a0, xs0, s0, g0, f0⟩ := R1.ownAt e0
  refine ⟨_, s0, hk A ρ1 σ H1 _ _ R1 q1 fun w H2 kp ρ2 q2 f2 o2 => ?_⟩
  split at q2
  ·rename_i ds j e2
   obtain ⟨n, hn, q2⟩ := q2
   obtain ⟨R2, fw⟩ := o2
   cases fw
   obtain ⟨a, xs, s, g, f⟩ := R2.ownAt e2
   rw [s0] at s; cases s
   obtain ⟨R3, f3⟩ := R2.lstw e2 s0 (FVs.set (fv.keeps f2.keeps) n f)
   exact ⟨a0, xs, j, n, rfl, rfl, g, by rw [f.length]; exact hn, k1 _ _ _ q2 R3 (((F.fr f1).fr f2).fr f3)⟩
  ·exact q2.elim
 ·exact q1.elim
end
def spP (K : PySem.W.Frag) (c : FN) : Sp := fun vs H Q _ => ∃ (O : Addr → Prop) (ds : List D) (Qc : PV → Prop), (∀ b, O b → H b ≠ none) ∧ FVs K O H vs ds ∧ c ds Qc ∧ ∀ r, Qc r → ∀ v H', Gr H H' → OutV K O H H' r v → Q v H'
def pCallP (c : FN) (pr : PTA) : PTE := fun ρ Q => pr ρ fun as ρ1 => match avD as with
 | some ds => c ds fun r => Q r ρ1
 | none => False
theorem start_get {N : List Str} {vs : List V} {i : Nat} {v : V} (h : vs[i]? = some v) : (start N vs)[i]? = some (some v) := by
 unfold start
 rw [List.getElem?_append_left (by rw [List.length_map]; exact (List.getElem?_eq_some_iff.mp h).1), List.getElem?_map, h]; rfl
def begin_ (n : Nat) (ps : List PV) : PSt := ps.map some ++ List.replicate (n - ps.length) none
theorem begin_get {n : Nat} {ps : List PV} {i : Nat} {p : PV} (h : (begin_ n ps)[i]? = some (some p)) : ps[i]? = some p := by
 unfold begin_ at h
 by_cases hi : i < ps.length
 ·rw [List.getElem?_append_left (by rw [List.length_map]; exact hi), List.getElem?_map] at h
  cases e : ps[i]? with
  | none => rw [e] at h; cases h
  | some q => rw [e] at h; cases h; rfl
 ·rw [List.getElem?_append_right (by rw [List.length_map]; omega)] at h
  have := List.mem_of_getElem? h
  rw [List.mem_replicate] at this
  cases this.2
section
variable {K : PySem.W.Frag} {tr : TA} {pr : PTA} {ts : TS} {ps : PTS}
theorem le_callP {c : FN} (h : LAs K tr pr) : LE K (tCall (spP K c) [] E0 tr) (pCallP c pr) := fun A ρ σ H Q Q' R q k => h A ρ σ H _ _ R q fun vs H1 as ρ1 q1 f1 R1 o1 => by
 split at q1
 ·rename_i ds e
  rw [List.append_nil]
  exact ⟨OO A ρ1 σ, ds, _, R1.dom2, o1.avD e, q1, fun r qr v H' g ov => k v H' r ρ1 qr (f1.trans g.fr) ((ov.out R1 g).h0 f1.dm)⟩
 ·exact q1.elim
theorem Out.outV {O : Addr → Prop} {ρ : PSt} {σ : St} {H H' : Hp} {p : PV} {v : V} (h : Out K O ρ σ H H' p v) : OutV K O H H' p v := by
 cases p with
 | dat d => exact h.2.keeps (Keeps.less fun b z => .inl z)
 | own ds =>
  obtain ⟨a, xs, e1, na, e2, e3, R, f⟩ := h
  exact ⟨a, xs, e1, e2, e3, f.keeps (Keeps.less fun b z => .inl z)⟩
 | ins c ns ds =>
  obtain ⟨a, dx, fs, e1, na, e2, e3, m, R, f⟩ := h
  exact ⟨a, dx, fs, e1, e2, e3, m, f.keeps (Keeps.less fun b z => .inl z)⟩
theorem fnP {c : FN} {N : List Str} (hl : LS K [] ts ps) (hn : ∀ ds Q, c ds Q → ds.length ≤ N.length) (hc : ∀ ds Q, c ds Q → ps { nx := fun _ => Q (.dat .non), rt := fun p _ => Q p } (begin_ N.length (ds.map .dat)))
  {vs : List V} {H : Hp} {Q : VK} {E : XK} (h : spP K c vs H Q E) : ts { nx := fun _ H' => Q .non H', rt := Q } (start N vs) H := by
 obtain ⟨O, ds, Qc, dom, fv, hq, k⟩ := h
 have nw : ∀ (ρ : PSt) (b : Addr), ρ = begin_ N.length (ds.map .dat) → ¬ Wr ρ (start N vs) b := fun ρ b e ⟨i, p, e1, o1, s1⟩ => by
  rw [e] at e1
  have := begin_get e1
  rw [List.getElem?_map] at this
  cases e2 : ds[i]? with
  | none => rw [e2] at this; cases this
  | some d => rw [e2] at this; cases this; cases o1
 have lenv := fv.length
 have hle := hn ds Qc hq
 have R0 : Rel K O (begin_ N.length (ds.map .dat)) (start N vs) H := by
  refine ⟨?_, fun i p e => ?_, fun i j p q v e1 e2 o1 o2 s1 s2 => ?_, dom, fun b _ w => nw _ b rfl w⟩
  ·unfold begin_ start
   rw [List.length_append, List.length_append, List.length_map, List.length_map, List.length_map, List.length_replicate, List.length_replicate, lenv]
  ·have := begin_get e
   rw [List.getElem?_map] at this
   cases e2 : ds[i]? with
   | none => rw [e2] at this; cases this
   | some d =>
    rw [e2] at this; cases this
    obtain ⟨v, hv, f⟩ := fv.getD e2
    exact ⟨v, start_get hv, f.keeps (Keeps.less fun b z => z.elim id fun w => absurd w (nw _ b rfl))⟩
  ·have := begin_get e1
   rw [List.getElem?_map] at this
   cases e3 : ds[i]? with
   | none => rw [e3] at this; cases this
   | some d => rw [e3] at this; cases this; cases o1
 refine hl [] O (fun _ => False) H _ _ H _ _ rfl R0 ⟨fun _ _ _ h => h, fun _ h => h, fun b w => absurd w (nw _ b rfl), fun p hp => nomatch hp⟩ (hc ds Qc hq) (fun ρ' σ' H' q r F => ?_) (fun v p ρ' σ' H' q o F => ?_) (fun _ _ _ z => z.elim) (fun _ _ _ z => z.elim)
 ·exact k _ q .non H' (fun b o e => F.kp b o id e) .non
 ·exact k _ q v H' (fun b o e => F.kp b o id e) o.outV
abbrev FR := PV → List D → (PV → PV → Prop) → Prop
def spR (K : PySem.W.Frag) (c : FR) : Sp := fun vs H Q _ => ∃ (A : Addr → Prop) (a : Addr) (p : PV) (ws : List V) (ds : List D) (Qc : PV → PV → Prop), vs = .ref a :: ws ∧ p.isOwn = true ∧ (∀ b, A b → H b ≠ none) ∧ ¬ A a ∧ RS K (plus A a) H p (.ref a) ∧ FVs K (plus A a) H ws ds ∧ c p ds Qc ∧
 ∀ r p', Qc r p' → p'.isOwn = true → ∀ v H', (∀ b o, b ≠ a → H b = some o → H' b = some o) → H' a ≠ none → RS K (plus A a) H' p' (.ref a) → OutV K (plus A a) H H' r v → (∀ a', v = .ref a' → r.isOwn = true → RS K (plus (plus A a) a') H' p' (.ref a)) → Q v H'
def pCallR (c : FR) (i : Nat) (pr : PTA) : PTE := fun ρ Q => match ρ[i]? with
 | some (some _) => pr ρ fun as ρ1 => (match ρ1[i]?, avD as with
  | some (some p), some ds => p.isOwn = true ∧ c p ds fun r p' => Q r (ρ1.set i (some p'))
  | _, _ => False)
 | _ => False
theorem le_callR {c : FR} {i : Nat} (h : LAs K tr pr) : LE K (tCall (spR K c) [] E0 (tCons (tVar i) tr)) (pCallR c i pr) := fun A ρ σ H Q Q' R q k => by
 unfold pCallR at q
 split at q
 ·rename_i p0 e0
  obtain ⟨v0, s0, _⟩ := R.get i p0 e0
  refine ⟨v0, s0, h A ρ σ H _ _ R q fun vs H1 as ρ1 q1 f1 R1 o1 => ?_⟩
  split at q1
  ·rename_i p ds e1 ed
   obtain ⟨ow, q1⟩ := q1
   obtain ⟨v1, s1, rs⟩ := R1.get i p e1
   rw [s0] at s1; cases s1
   obtain ⟨a, u, rfl, ea⟩ := rs.ref ow
   rw [List.append_nil]
   have wa : Wr ρ1 σ a := ⟨i, p, e1, ow, s0⟩
   have oeq : plus (fun b => (OO A ρ1 σ b) ∧ b ≠ a) a = OO A ρ1 σ := funext fun b => propext ⟨fun z => z.elim (fun z => z.1) (fun z => by rw [z]; exact .inr wa), fun z => by
    by_cases e : b = a
    ·exact .inr e
    ·exact .inl ⟨z, e⟩⟩
   refine ⟨fun b => (OO A ρ1 σ b) ∧ b ≠ a, a, p, vs, ds, _, rfl, ow, fun b z => R1.dom2 b z.1, fun z => z.2 rfl, by rw [oeq]; exact rs, by rw [oeq]; exact o1.avD ed, q1, fun r p' qr ow' v H' kp ha rs' ov hx => ?_⟩
   rw [oeq] at rs' ov hx
   have domA : ∀ b, A b → H' b ≠ none := fun b z => by
    have : b ≠ a := fun e => R1.sep b z (by rw [e]; exact wa)
    cases eb : H1 b with
    | none => exact absurd eb (R1.dom b z)
    | some o => rw [kp b o this eb]; exact nofun
   cases r with
   | dat d =>
    obtain ⟨R2, f2⟩ := R1.step (A' := A) e1 ow ow' s0 kp ha (fun _ h => h) (fun _ h => .inl h) domA rs'
    exact k v H' _ _ qr (f1.trans f2) ⟨R2, FV.keeps (Keeps.less fun b z => z.imp id (f2.ow b)) ov⟩
   | own es =>
    obtain ⟨a', xs, rfl, n1, e2, f⟩ := ov
    have hx := hx a' rfl rfl
    have na : a' ≠ a := fun e => by rw [e, ea] at n1; cases n1
    have oo2 : ∀ b, OO (plus A a') ρ1 σ b ↔ plus (OO A ρ1 σ) a' b := fun b => ⟨fun z => by
     rcases z with (z | z) | z
     ·exact .inl (.inl z)
     ·exact .inr z
     ·exact .inl (.inr z), fun z => by
     rcases z with (z | z) | z
     ·exact .inl (.inl z)
     ·exact .inr z
     ·exact .inl (.inr z)⟩
    have oo2' : OO (plus A a') ρ1 σ = plus (OO A ρ1 σ) a' := funext fun b => propext (oo2 b)
    obtain ⟨R2, f2⟩ := R1.step (A' := plus A a') e1 ow ow' s0 kp ha (fun _ h => .inl h) (fun b z => z.imp id fun z => by rw [z]; exact n1) (fun b z => z.elim (domA b) fun z => by rw [z, e2]; exact nofun) (by rw [oo2']; exact hx)
    ·refine k _ H' (.own es) _ qr (f1.trans f2) ⟨a', xs, rfl, fun z => R1.dom a' z n1, ?_, e2, R2, f.keeps (Keeps.less fun b z => ?_)⟩
     ·cases eb : H a' with
      | none => rfl
      | some o => exact absurd n1 (f1.dm a' (by rw [eb]; exact nofun))
     ·rw [← oo2']; exact z.imp id (f2.ow b)
   | ins c ns es =>
    obtain ⟨a', dx, fs, rfl, n1, e2, m, f⟩ := ov
    have hx := hx a' rfl rfl
    have oo2' : OO (plus A a') ρ1 σ = plus (OO A ρ1 σ) a' := funext fun b => propext ⟨fun z => by
     rcases z with (z | z) | z
     ·exact .inl (.inl z)
     ·exact .inr z
     ·exact .inl (.inr z), fun z => by
     rcases z with (z | z) | z
     ·exact .inl (.inl z)
     ·exact .inr z
     ·exact .inl (.inr z)⟩
    obtain ⟨R2, f2⟩ := R1.step (A' := plus A a') e1 ow ow' s0 kp ha (fun _ h => .inl h) (fun b z => z.imp id fun z => by rw [z]; exact n1) (fun b z => z.elim (domA b) fun z => by rw [z, e2]; exact nofun) (by rw [oo2']; exact hx)
    ·refine k _ H' (.ins c ns es) _ qr (f1.trans f2) ⟨a', dx, fs, rfl, fun z => R1.dom a' z n1, ?_, e2, m, R2, f.keeps (Keeps.less fun b z => ?_)⟩
     ·cases eb : H a' with
      | none => rfl
      | some o => exact absurd n1 (f1.dm a' (by rw [eb]; exact nofun))
     ·rw [← oo2']; exact z.imp id (f2.ow b)
  ·exact q1.elim
 ·exact q.elim
def endR (Q : PV → PV → Prop) (r : PV) (ρ : PSt) : Prop := match ρ[0]? with
 | some (some p) => p.isOwn = true ∧ Q r p
 | _ => False
theorem fnR {c : FR} {N : List Str} (hl : LS K [0] ts ps) (hn : ∀ p ds Q, c p ds Q → ds.length + 1 ≤ N.length) (hc : ∀ p ds Q, p.isOwn = true → c p ds Q → ps { nx := endR Q (.dat .non), rt := endR Q } (begin_ N.length (p :: ds.map .dat)))
  {vs : List V} {H : Hp} {Q : VK} {E : XK} (h : spR K c vs H Q E) : ts { nx := fun _ H' => Q .non H', rt := Q } (start N vs) H := by
 obtain ⟨A, a, p, ws, ds, Qc, rfl, ow, dom, na, rs, fv, hq, k⟩ := h
 have s0 : (start N (V.ref a :: ws))[0]? = some (some (.ref a)) := start_get rfl
 have b0 : (begin_ N.length (p :: ds.map .dat))[0]? = some (some p) := rfl
 have wr : ∀ b, Wr (begin_ N.length (p :: ds.map .dat)) (start N (.ref a :: ws)) b → b = a := fun b ⟨i, q, e1, o1, s1⟩ => by
  have := begin_get e1
  cases i with
  | zero => rw [s0] at s1; cases s1; rfl
  | succ i =>
   rw [List.getElem?_cons_succ, List.getElem?_map] at this
   cases e2 : ds[i]? with
   | none => rw [e2] at this; cases this
   | some d => rw [e2] at this; cases this; cases o1
 have wa : Wr (begin_ N.length (p :: ds.map .dat)) (start N (.ref a :: ws)) a := ⟨0, p, b0, ow, s0⟩
 have oeq : OO A (begin_ N.length (p :: ds.map .dat)) (start N (.ref a :: ws)) = plus A a := funext fun b => propext ⟨fun z => z.imp id (wr b), fun z => z.imp id fun z => by rw [z]; exact wa⟩
 have lenv := fv.length
 have hle := hn p ds Qc hq
 have R0 : Rel K A (begin_ N.length (p :: ds.map .dat)) (start N (.ref a :: ws)) H := by
  refine ⟨?_, fun i q e => ?_, fun i j q1 q2 v e1 e2 o1 o2 s1 s2 => ?_, dom, fun b z w => ?_⟩
  ·unfold begin_ start
   simp only [List.length_append, List.length_map, List.length_replicate, List.length_cons, lenv]
  ·have := begin_get e
   rw [oeq]
   cases i with
   | zero => cases this; exact ⟨_, s0, rs⟩
   | succ i =>
    rw [List.getElem?_cons_succ, List.getElem?_map] at this
    cases e2 : ds[i]? with
    | none => rw [e2] at this; cases this
    | some d =>
     rw [e2] at this; cases this
     obtain ⟨v, hv, f⟩ := fv.getD e2
     exact ⟨v, start_get (by rw [List.getElem?_cons_succ]; exact hv), f⟩
  ·have own0 : ∀ (i : Nat) (q : PV), (begin_ N.length (p :: ds.map .dat))[i]? = some (some q) → q.isOwn = true → i = 0 := fun i q e o => by
    have := begin_get e
    cases i with
    | zero => rfl
    | succ i =>
     rw [List.getElem?_cons_succ, List.getElem?_map] at this
     cases e2 : ds[i]? with
     | none => rw [e2] at this; cases this
     | some d => rw [e2] at this; cases this; cases o
   rw [own0 i q1 e1 o1, own0 j q2 e2 o2]
  ·rw [wr b w] at z; exact na z
 have fin : ∀ (v : V) (r : PV) (ρ' : PSt) (σ' : St) (H' : Hp), endR Qc r ρ' → Out K A ρ' σ' H H' r v → RelF [(0, .ref a)] (fun b => b = a) H ρ' σ' H' → Q v H' := fun v r ρ' σ' H' q o F => by
  unfold endR at q
  split at q
  ·rename_i p' e'
   obtain ⟨ow', q⟩ := q
   have sa := F.fx (0, .ref a) (List.mem_singleton.mpr rfl)
   have wa' : Wr ρ' σ' a := ⟨0, p', e', ow', sa⟩
   have kpa : ∀ b o, b ≠ a → H b = some o → H' b = some o := fun b o n e => F.kp b o n e
   cases r with
   | dat d =>
    obtain ⟨R1, f1⟩ := o
    obtain ⟨v1, s1, rs1⟩ := R1.get 0 p' e'
    rw [sa] at s1; cases s1
    have less : ∀ b, plus A a b → OO A ρ' σ' b := fun b z => z.imp id fun z => by rw [z]; exact wa'
    exact k _ p' q ow' v H' kpa (R1.wr wa') (rs1.keeps (Keeps.less less) fun _ _ _ => rfl) (f1.keeps (Keeps.less less)) (fun _ _ z => nomatch z)
   | own es =>
    obtain ⟨a', xs, rfl, n1, n2, e3, R1, f1⟩ := o
    obtain ⟨v1, s1, rs1⟩ := R1.get 0 p' e'
    rw [sa] at s1; cases s1
    have less : ∀ b, plus (plus A a) a' b → OO (plus A a') ρ' σ' b := fun b z => by
     rcases z with (z | z) | z
     ·exact .inl (.inl z)
     ·exact .inr (by rw [z]; exact wa')
     ·exact .inl (.inr z)
    exact k _ p' q ow' _ H' kpa (R1.wr wa') (rs1.keeps (Keeps.less fun b z => less b (.inl z)) fun _ _ _ => rfl) ⟨a', xs, rfl, n2, e3, f1.keeps (Keeps.less less)⟩ (fun a'' e _ => by cases e; exact rs1.keeps (Keeps.less less) fun _ _ _ => rfl)
   | ins c ns es =>
    obtain ⟨a', dx, fs, rfl, n1, n2, e3, m, R1, f1⟩ := o
    obtain ⟨v1, s1, rs1⟩ := R1.get 0 p' e'
    rw [sa] at s1; cases s1
    have less : ∀ b, plus (plus A a) a' b → OO (plus A a') ρ' σ' b := fun b z => by
     rcases z with (z | z) | z
     ·exact .inl (.inl z)
     ·exact .inr (by rw [z]; exact wa')
     ·exact .inl (.inr z)
    exact k _ p' q ow' _ H' kpa (R1.wr wa') (rs1.keeps (Keeps.less fun b z => less b (.inl z)) fun _ _ _ => rfl) ⟨a', dx, fs, rfl, n2, e3, m, f1.keeps (Keeps.less less)⟩ (fun a'' e _ => by cases e; exact rs1.keeps (Keeps.less less) fun _ _ _ => rfl)
  ·exact q.elim
 refine hl [(0, .ref a)] A (fun b => b = a) H _ _ H _ _ rfl R0 ⟨fun _ _ _ h => h, fun _ h => h, fun b w => .inl (wr b w), fun q hq => by rw [List.mem_singleton.mp hq]; exact s0⟩ (hc p ds Qc ow hq) (fun ρ' σ' H' q r F => fin .non (.dat .non) ρ' σ' H' q ⟨r, .non⟩ F) (fun v p ρ' σ' H' q o F => fin v p ρ' σ' H' q o F) (fun _ _ _ z => z.elim) (fun _ _ _ z => z.elim)
end
def cLaw : FN := fun as Q => ∃ ns : List Int, as = [.scr ns] ∧ ns.length ≤ 63 ∧ Q (.dat (.bl true))
theorem spLaw_P {K : PySem.W.Frag} {vs : List V} {H : Hp} {Q : VK} {E : XK} (h : spLaw K vs H Q E) : spP K cLaw vs H Q E := by
 obtain ⟨a, ns, rfl, hS, h63, q⟩ := h
 refine ⟨fun _ => False, [.scr ns], fun r => r = .dat (.bl true), nofun, .cons (.scr ?_) .nil, ⟨ns, rfl, h63, rfl⟩, fun r e v H' g o => ?_⟩
 ·rcases hS with h | h
  ·exact .inl ⟨id, h⟩
  ·exact .inr h
 ·subst e
  cases o
  exact q H'
end L2
namespace L2
open PySem PySem.Spec PyProof.Rows
section
variable {K : PySem.W.Frag} {X : Cx}
def rAbs : List V → Hp → VK → Prop := fun xs H Q => ∃ i, xs = [.int i] ∧ Q (.int (if i < 0 then -i else i)) H
def rMin2 : List V → Hp → VK → Prop := fun xs H Q => ∃ i j, xs = [.int i, .int j] ∧ Q (.int (if j < i then j else i)) H
def rMax2 : List V → Hp → VK → Prop := fun xs H Q => ∃ i j, xs = [.int i, .int j] ∧ Q (.int (if j > i then j else i)) H
theorem u_abs : CallR X (.builtin "abs") rAbs := call_abs
theorem u_min2 (hc : X.calm = true) : CallR X (.builtin "min") rMin2 := call_min2 hc
theorem u_max2 (hc : X.calm = true) : CallR X (.builtin "max") rMax2 := call_max2 hc
def fAbs : FN
 | [.int i], Q => Q (.dat (.int (if i < 0 then -i else i)))
 | _, _ => False
def fMin2 : FN
 | [.int i, .int j], Q => Q (.dat (.int (if j < i then j else i)))
 | _, _ => False
def fMax2 : FN
 | [.int i, .int j], Q => Q (.dat (.int (if j > i then j else i)))
 | _, _ => False
theorem lc_abs : LC K rAbs fAbs := by
 intro O H xs as Q Q' dom fs q k
 unfold fAbs at q
 split at q
 ·cases fs with | cons a b => cases b; rw [a.int]; exact ⟨_, rfl, k _ H _ q (Gr.refl _) (.int _)⟩
 ·exact q.elim
theorem lc_min2 : LC K rMin2 fMin2 := by
 intro O H xs as Q Q' dom fs q k
 unfold fMin2 at q
 split at q
 ·cases fs with
  | cons a b => cases b with | cons b c => cases c; rw [a.int, b.int]; exact ⟨_, _, rfl, k _ H _ q (Gr.refl _) (.int _)⟩
 ·exact q.elim
theorem lc_max2 : LC K rMax2 fMax2 := by
 intro O H xs as Q Q' dom fs q k
 unfold fMax2 at q
 split at q
 ·cases fs with
  | cons a b => cases b with | cons b c => cases c; rw [a.int, b.int]; exact ⟨_, _, rfl, k _ H _ q (Gr.refl _) (.int _)⟩
 ·exact q.elim
def rAll (K : PySem.W.Frag) : List V → Hp → VK → Prop := fun xs H Q => ∃ (p : Addr) (bs : List Bool), xs = [.ref p] ∧ SqL K H p (bs.map V.bl) ∧ Q (.bl (bs.all id)) H
theorem u_all (K : PySem.W.Frag) (e : X.K = K) (hc : X.calm = true) : CallR X (.builtin "all") (rAll K) := by subst e; exact call_all hc
def fAll : FN
 | [.lst ds], Q => ∃ bs : List Bool, ds = bs.map .bl ∧ Q (.dat (.bl (bs.all id)))
 | _, _ => False
theorem lc_all : LC K (rAll K) fAll := by
 intro O H xs as Q Q' dom fs q k
 unfold fAll at q
 split at q
 ·obtain ⟨ns, rfl, q⟩ := q
  cases fs with
  | cons a b =>
   cases b
   obtain ⟨p, ys, rfl, e1, f1⟩ := a.lst
   rw [f1.bls] at e1
   exact ⟨p, ns, rfl, SqL.of e1, k _ H _ q (Gr.refl _) (.bl _)⟩
 ·exact q.elim
def rTupU (K : PySem.W.Frag) : List V → Hp → VK → Prop := fun xs H Q => ∃ p ys, xs = [.ref p] ∧ ((SqL K H p ys ∧ ∀ l, H l = none → Q (.ref l) (upd H l (.tup ys))) ∨ (SqT K H p ys ∧ Q (.ref p) H))
theorem u_tuple (K : PySem.W.Frag) (e : X.K = K) : CallR X (.type "tuple") (rTupU K) := by subst e; exact call_tuple_of
theorem u_list (K : PySem.W.Frag) (e : X.K = K) : CallR X (.type "list") (rListOf K) := by subst e; exact call_list_of
def fTuple : FN
 | [.lst ds], Q => Q (.dat (.tup ds))
 | [.tup ds], Q => Q (.dat (.tup ds))
 | [.scr ns], Q => Q (.dat (.tup (ns.map .int)))
 | _, _ => False
def fList : FN
 | [.lst ds], Q => Q (.own ds)
 | [.tup ds], Q => Q (.own ds)
 | [.scr ns], Q => Q (.own (ns.map .int))
 | _, _ => False
theorem lc_tuple : LC K (rTupU K) fTuple := by
 intro O H xs as Q Q' dom fs q k
 unfold fTuple at q
 split at q
 ·cases fs with
  | cons a b =>
   cases b
   obtain ⟨p, ys, rfl, e1, f1⟩ := a.lst
   exact ⟨p, ys, rfl, .inl ⟨SqL.of e1, fun l hl => k _ _ _ q (Gr.new hl) (out_tup dom hl f1)⟩⟩
 ·cases fs with
  | cons a b =>
   cases b
   obtain ⟨p, ys, rfl, n1, e1, f1⟩ := a.tup
   exact ⟨p, ys, rfl, .inr ⟨SqT.of e1, k _ H _ q (Gr.refl _) (.tup n1 e1 f1)⟩⟩
 ·cases fs with
  | cons a b =>
   cases b
   obtain ⟨p, rfl, e1⟩ := a.scr
   exact ⟨p, _, rfl, .inl ⟨e1, fun l hl => k _ _ _ q (Gr.new hl) (out_tup dom hl (FVs.of_ints _))⟩⟩
 ·exact q.elim
theorem lc_list : LC K (rListOf K) fList := by
 intro O H xs as Q Q' dom fs q k
 unfold fList at q
 split at q
 ·cases fs with
  | cons a b =>
   cases b
   obtain ⟨p, ys, rfl, e1, f1⟩ := a.lst
   exact ⟨p, ys, rfl, .inl (SqL.of e1), fun l hl => k _ _ _ q (Gr.new hl) (out_lst hl f1)⟩
 ·cases fs with
  | cons a b =>
   cases b
   obtain ⟨p, ys, rfl, n1, e1, f1⟩ := a.tup
   exact ⟨p, ys, rfl, .inr (SqT.of e1), fun l hl => k _ _ _ q (Gr.new hl) (out_lst hl f1)⟩
 ·cases fs with
  | cons a b =>
   cases b
   obtain ⟨p, rfl, e1⟩ := a.scr
   exact ⟨p, _, rfl, .inl e1, fun l hl => k _ _ _ q (Gr.new hl) (out_lst hl (FVs.of_ints _))⟩
 ·exact q.elim
variable {ta : TE} {pa : PA1} {tr : TA} {pr : PTA} {pe : PTE}
abbrev FM := List Nat → List D → (PV → Prop) → Prop
def LM (K : PySem.W.Frag) (r : V → List V → Hp → VK → Prop) (f : FM) : Prop := ∀ (O : Addr → Prop) (H : Hp) (l : List Nat) (xs : List V) (as : List D) (Q : PV → Prop) (Q' : VK), (∀ b, O b → H b ≠ none) → l.length ≤ 1000000 → FVcs K O H xs as → f l as Q →
 (∀ v H' p, Q p → Gr H H' → OutV K O H H' p v → Q' v H') → r (.str (S l)) xs H Q'
def pSM (f : FM) (pe : PTE) (pr : PTA) : PTE := fun ρ Q => pe ρ fun p ρ1 => match p with
 | .dat (.str l) => pr ρ1 fun as ρ2 => (match conts ρ2 as with
  | some ds => f l ds fun r => Q r ρ2
  | none => False)
 | _ => False
theorem le_sm {r : V → List V → Hp → VK → Prop} {f : FM} (o : LM K r f) (he : LE K ta pe) (hr : LAs K tr pr) : LE K (tBM K "str" r ta tr) (pSM f pe pr) := fun A ρ σ H Q Q' R q k => he A ρ σ H _ _ R q fun v H1 p ρ1 q1 f1 o1 => by
 split at q1
 ·rename_i l
  obtain ⟨R1, fv⟩ := o1
  cases fv with
  | str _ hl =>
   refine ⟨rfl, hr A ρ1 σ H1 _ _ R1 q1 fun vs H2 as ρ2 q2 f2 R2 o2 => ?_⟩
   split at q2
   ·rename_i ds e
    exact o _ H2 l vs ds _ _ R2.dom2 hl (R2.conts o2 e) q2 fun z H3 p q3 g ov => k z H3 p ρ2 q3 ((f1.trans f2).trans g.fr) ((ov.out R2 g).h0 fun b z => f2.dm b (f1.dm b z))
   ·exact q2.elim
 ·exact q1.elim
def nameIx (f : Str) : List Str → Option Nat
 | [] => none
 | n :: r => if n = f then some 0 else (nameIx f r).map (· + 1)
theorem lookup_ix {f : Str} : ∀ {fs : List (Str × V)} {k : Nat}, nameIx f (fs.map Prod.fst) = some k → fs.lookup f = (fs.map Prod.snd)[k]?
 | [], k, h => by cases h
 | (n, v) :: r, k, h => by
  unfold nameIx at h
  rw [List.map_cons] at h
  simp only at h
  rw [List.lookup_cons]
  by_cases e : n = f
  ·rw [if_pos e] at h; cases h
   rw [show (f == n) = true by rw [e]; exact beq_self_eq_true _]; rfl
  ·rw [if_neg e] at h
   rw [show (f == n) = false from beq_eq_false_iff_ne.mpr fun z => e z.symm]
   cases e2 : nameIx f (r.map Prod.fst) with
   | none => rw [e2] at h; cases h
   | some j => rw [e2] at h; cases h; show List.lookup f r = _; rw [lookup_ix e2]; simp
end
end L2
namespace L2
open PySem PySem.Spec PyProof.Rows
abbrev rSubU : R2 := rI0 fun i j => .int (i - j)
abbrev rModU : R2 := rI (fun _ j => 0 < j) fun i j => .int (i % j)
abbrev rDivU : R2 := rI CDiv fun i j => .int (i / j)
abbrev rGtU : R2 := rI0 fun i j => .bl (decide (j < i))
abbrev fSub : F2 := fI0 fun i j => .int (i - j)
abbrev fMod : F2 := fI (fun _ j => 0 < j) fun i j => .int (i % j)
abbrev fDiv : F2 := fI (fun _ j => 0 < j ∧ j < 1073741824) fun i j => .int (i / j)
abbrev fGt : F2 := fI0 fun i j => .bl (decide (j < i))
section
variable {K : PySem.W.Frag} {X : Cx} {ta : TE} {tr : TA} {pr : PTA} {ts : TS} {ps : PTS}
theorem u_sub : OpR X (binaryOp .Sub) rSubU := op_sub
theorem u_mod : OpR X (binaryOp .Mod) rModU := op_mod
theorem u_fdiv : OpR X (binaryOp .FloorDiv) rDivU := op_fdiv
theorem u_gt : OpR X (compareOp .Gt) rGtU := op_gt
theorem pi_enumK {es : List Expr} {ct : Nat} {tp : Pos} (K : PySem.W.Frag) (e : X.K = K) {a : Expr} {ta : TA} {p pos : Pos} (hg : Gl X "enumerate") (hm : X.mg "enumerate" = none) (ha : PA X [a] ta) (hs : starEach [a] X.env = [(false, eval a X.env)] := by rfl) :
  PI X (.Tuple es ct tp) (.Call (.Name "enumerate" p) [a] [] pos) (iEnum K ta) := by subst e; exact pi_enum hg hm ha hs
theorem ncap {ix : List (Option Nat)} {fs : List Nat} {i : Nat} (h : ∀ k ∈ fs, k ∈ capt ix) (hi : (capt ix).contains i = false) : fs.contains i = false := by
 cases e : fs.contains i with
 | false => rfl
 | true =>
  have := h i (List.contains_iff_mem.mp e)
  rw [List.contains_iff_mem.mpr this] at hi; cases hi
def pCallD (c : FN) (es : List D) (pr : PTA) : PTE := fun ρ Q => pr ρ fun as ρ1 => match avD as with
 | some ds => c (ds ++ es) fun r => Q r ρ1
 | none => False
theorem le_callD {c : FN} {vs0 : List V} {ds : List D} (hd : ∀ {O : Addr → Prop} {H : Hp}, FVs K O H vs0 ds) (h : LAs K tr pr) : LE K (tCall (spP K c) vs0 E0 tr) (pCallD c ds pr) := fun A ρ σ H Q Q' R q k => h A ρ σ H _ _ R q fun vs H1 as ρ1 q1 f1 R1 o1 => by
 split at q1
 ·rename_i es e
  exact ⟨OO A ρ1 σ, _, _, R1.dom2, (o1.avD e).append hd, q1, fun r qr v H' g ov => k v H' r ρ1 qr (f1.trans g.fr) ((ov.out R1 g).h0 f1.dm)⟩
 ·exact q1.elim
theorem lenP {c : FN} {n : Nat} (hn : ∀ ds Q, c ds Q → ds.length = n) {vs : List V} {H : Hp} {Q : VK} {E : XK} (h : spP K c vs H Q E) : vs.length = n := by
 obtain ⟨O, ds, Qc, _, f, hq, _⟩ := h
 rw [f.length]; exact hn ds Qc hq
theorem lenR {c : FR} {n : Nat} (hn : ∀ p ds Q, c p ds Q → ds.length + 1 = n) {vs : List V} {H : Hp} {Q : VK} {E : XK} (h : spR K c vs H Q E) : vs.length = n := by
 obtain ⟨A, a, p, ws, ds, Qc, rfl, _, _, _, _, f, hq, _⟩ := h
 rw [List.length_cons, f.length]; exact hn p ds Qc hq
abbrev RunP (pp : PTS) (n : Nat) (ds : List D) (Q : PV → Prop) : Prop := pp { nx := fun _ => Q (.dat .non), rt := fun p _ => Q p } (begin_ n (ds.map .dat))
abbrev RunR (pp : PTS) (n : Nat) (p : PV) (ds : List D) (Q : PV → PV → Prop) : Prop := pp { nx := endR Q (.dat .non), rt := endR Q } (begin_ n (p :: ds.map .dat))
end
end L2
namespace L2
theorem Cal.imp {P : PySem.Program} {w : PySem.World} {K : PySem.W.Frag} {mg : PySem.Str → Option PySem.Value} {base : PySem.Heap} {k : Nat} {x : PySem.Str} {ps : List PySem.Str} {sp sp' : Sp} (C : Cal P w K mg base k x ps sp) (h : ∀ vs H Q E, sp' vs H Q E → sp vs H Q E) : Cal P w K mg base k x ps sp' := by
 obtain ⟨f, fd, F, r⟩ := C.ex
 exact ⟨f, fd, F.imp h, r⟩
end L2
namespace L2
open PySem PySem.Spec PyProof.Rows
def splitC (c : Nat) : List Nat → List (List Nat)
 | [] => [[]]
 | x :: r => if x = c then [] :: splitC c r else match splitC c r with
  | [] => [[x]]
  | w :: ws => (x :: w) :: ws
def cutsC (c : Nat) : List Nat → List Nat
 | [] => []
 | x :: r => if x = c then 0 :: (cutsC c r).map (· + 1) else (cutsC c r).map (· + 1)
def partsC (a : List Nat) (cuts : List Nat) : List (List Nat) := ((0 :: cuts.map (· + 1)).zip (cuts ++ [a.length])).map fun p => (a.take p.2).drop p.1
theorem parts_split (c : Nat) : ∀ a : List Nat, partsC a (cutsC c a) = splitC c a
 | [] => rfl
 | x :: r => by
  have ih := parts_split c r
  have sh : ∀ l : List (Nat × Nat), (l.map (Prod.map (· + 1) (· + 1))).map (fun p => ((x :: r).take p.2).drop p.1) = l.map fun p => (r.take p.2).drop p.1 := fun l => by
   rw [List.map_map]; rfl
  have e1 : (cutsC c r).map (· + 1) ++ [(x :: r).length] = ((cutsC c r) ++ [r.length]).map (· + 1) := by
   rw [List.map_append]; rfl
  unfold splitC cutsC
  by_cases h : x = c
  ·rw [if_pos h, if_pos h, ← ih]
   unfold partsC
   rw [List.cons_append, e1, List.zip_cons_cons, List.map_cons, List.zip_map, sh]
   rfl
  ·rw [if_neg h, if_neg h, ← ih]
   unfold partsC
   rw [e1]
   obtain ⟨s0, S', hs⟩ : ∃ s0 S', cutsC c r ++ [r.length] = s0 :: S' := by
    cases e : cutsC c r with
    | nil => exact ⟨_, _, rfl⟩
    | cons a b => exact ⟨_, _, rfl⟩
   rw [hs, List.map_cons, List.zip_cons_cons, List.map_cons, List.zip_map, sh, List.zip_cons_cons, List.map_cons]
   rfl
theorem subAt_one (a : List Nat) (c i : Nat) : (i + (S [c]).length ≤ (S a).length ∧ Builtin.Str.subAt (S a) (S [c]) i = true) ↔ a[i]? = some c := by
 rw [subAt_S, S_len, S_len, decide_eq_true_eq]
 constructor
 ·rintro ⟨h1, h2⟩
  have h1 : i + 1 ≤ a.length := h1
  have h2 : (a.drop i).take 1 = [c] := h2
  rw [List.drop_eq_getElem_cons (by omega)] at h2
  rw [List.getElem?_eq_getElem (by omega)]
  exact congrArg some (List.cons.inj h2).1
 ·intro h
  obtain ⟨h1, h2⟩ := List.getElem?_eq_some_iff.mp h
  refine ⟨by show i + 1 ≤ a.length; omega, ?_⟩
  show (a.drop i).take 1 = [c]
  rw [List.drop_eq_getElem_cons h1, h2]; rfl
theorem occ_all (s sub : Str) (hi limit : Nat) (h1 : sub.length = 1) (p : Nat → Bool) (hp : ∀ i, p i = true ↔ (i + sub.length ≤ hi ∧ Builtin.Str.subAt s sub i = true)) : ∀ (l : List Nat) (acc : List Nat) (free : Nat), (∀ i ∈ l, free ≤ i) → l.Pairwise (· < ·) → acc.length + (l.filter p).length ≤ limit →
  (forIn l (acc.toArray, free) (StrLaws.occBody s sub hi limit)).run.fst = (acc ++ l.filter p).toArray
 | [], acc, free, _, _, _ => by simp
 | i :: l, acc, free, hf, hw, hl => by
  rw [List.forIn_cons]
  unfold StrLaws.occBody
  by_cases h : p i = true
  ·rw [List.filter_cons_of_pos h, List.length_cons] at hl
   have h' := (hp i).mp h
   rw [if_pos ⟨⟨⟨by rw [List.size_toArray]; omega, hf i (List.mem_cons_self ..)⟩, h'.1⟩, h'.2⟩]
   rw [List.filter_cons_of_pos h]
   have e : (acc.toArray.push i, i + sub.length) = ((acc ++ [i]).toArray, i + 1) := by rw [h1]; simp
   show (forIn l (acc.toArray.push i, i + sub.length) (StrLaws.occBody s sub hi limit)).run.fst = _
   rw [e, occ_all s sub hi limit h1 p hp l (acc ++ [i]) (i + 1) (fun j hj => (List.pairwise_cons.mp hw).1 j hj) (List.pairwise_cons.mp hw).2 (by rw [List.length_append]; show _ + 1 + _ ≤ _; omega)]
   simp
  ·rw [List.filter_cons_of_neg (by simpa using h)] at hl
   rw [if_neg (fun z => h ((hp i).mpr ⟨z.1.2, z.2⟩)), List.filter_cons_of_neg (by simpa using h)]
   show (forIn l (acc.toArray, free) (StrLaws.occBody s sub hi limit)).run.fst = _
   exact occ_all s sub hi limit h1 p hp l acc free (fun j hj => hf j (List.mem_cons_of_mem _ hj)) (List.pairwise_cons.mp hw).2 (by omega)
theorem cutsC_filter (c : Nat) : ∀ a : List Nat, (List.range (a.length + 1)).filter (fun i => decide (a[i]? = some c)) = cutsC c a
 | [] => rfl
 | x :: r => by
  rw [List.length_cons, List.range_succ_eq_map, List.filter_cons, List.filter_map]
  unfold cutsC
  have ih := cutsC_filter c r
  have e : ((fun i => decide ((x :: r)[i]? = some c)) ∘ Nat.succ) = fun i => decide (r[i]? = some c) := by
   funext i; simp
  rw [e, ih]
  by_cases h : x = c
  ·rw [if_pos h, if_pos (by simp [h])]
  ·rw [if_neg h, if_neg (by simp [h])]
theorem occ_cuts (a : List Nat) (c : Nat) : Builtin.Str.occurrences (S a) (S [c]) 0 (S a).length ((S a).length + 1) = cutsC c a := by
 rw [StrLaws.occ_eq]
 have e := occ_all (S a) (S [c]) (S a).length ((S a).length + 1) rfl (fun i => decide (a[i]? = some c)) (fun i => by rw [decide_eq_true_eq]; exact (subAt_one a c i).symm) (List.range' 0 ((S a).length + 1 - 0)) [] 0 (fun _ _ => Nat.zero_le _) List.pairwise_lt_range' (Nat.le_trans (Nat.add_le_add_left (List.length_filter_le _ _) _) (by rw [List.length_range', List.length_nil]; omega))
 rw [e, List.nil_append, Nat.sub_zero, S_len, ← List.range_eq_range', cutsC_filter]
theorem split_S (a : List Nat) (c : Nat) (hc : c < 256) : Txt.split (S a) (S [c]) = (splitC c a).map S := by
 have e2 : Builtin.Str.partsBetween (S a) (cutsC c a) (S [c]).length = (splitC c a).map S := by
  rw [← parts_split]
  unfold Builtin.Str.partsBetween partsC
  rw [List.map_map, S_len]
  refine List.map_congr_left fun p _ => ?_
  obtain ⟨i, j⟩ := p
  show Builtin.Str.strSub (S a) i j = S ((a.take j).drop i)
  unfold Builtin.Str.strSub S
  simp [List.extract_eq_take_drop, List.drop_take]
 have one : (cutsC c a).isEmpty = true → splitC c a = [a] := fun h => by
  rw [← parts_split, List.isEmpty_iff.mp h]
  show [(a.take a.length).drop 0] = [a]
  rw [List.take_length]; rfl
 have k1 : PySem.Builtin.Str.strKind (S [c]) = 1 := by
  unfold PySem.Builtin.Str.strKind
  rw [if_pos]
  simp [S, hc]
 have k2 : ¬ PySem.Builtin.Str.strKind (S a) < 1 := by
  unfold PySem.Builtin.Str.strKind
  split
  ·decide
  ·split <;> decide
 unfold Txt.split
 rw [occ_cuts, k1]
 by_cases h0 : a = []
 ·subst h0; rfl
 ·have : ¬ (decide ((S a).length < (S [c]).length) || decide (PySem.Builtin.Str.strKind (S a) < 1)) = true := by
   rw [S_len, S_len]
   have : 0 < a.length := List.length_pos_iff.mpr h0
   simp only [Bool.or_eq_true, decide_eq_true_eq, not_or]
   exact ⟨by show ¬ a.length < 1; omega, k2⟩
  rw [if_neg this]
  by_cases h1 : (cutsC c a).isEmpty = true
  ·rw [if_pos h1, one h1]; rfl
  ·rw [if_neg h1]; exact e2
theorem splitC_len (c : Nat) : ∀ a : List Nat, (splitC c a).length ≤ a.length + 1
 | [] => Nat.le_refl _
 | x :: r => by
  have := splitC_len c r
  unfold splitC
  split
  ·rw [List.length_cons, List.length_cons]; omega
  ·split
   ·rw [List.length_cons]; simp
   ·rename_i w ws e; rw [e] at this; rw [List.length_cons] at this ⊢; rw [List.length_cons]; omega
theorem splitC_le (c : Nat) : ∀ a : List Nat, ∀ w ∈ splitC c a, w.length ≤ a.length
 | [], w, h => by rw [List.mem_singleton.mp h]; exact Nat.le_refl _
 | x :: r, w, h => by
  have ih := splitC_le c r
  unfold splitC at h
  rw [List.length_cons]
  split at h
  ·rcases List.mem_cons.mp h with e | e
   ·rw [e]; exact Nat.zero_le _
   ·exact Nat.le_succ_of_le (ih w e)
  ·split at h
   ·rw [List.mem_singleton.mp h]; simp
   ·rename_i w' ws e
    rw [e] at ih
    rcases List.mem_cons.mp h with e | e
    ·rw [e, List.length_cons]; have := ih w' (List.mem_cons_self ..); omega
    ·exact Nat.le_succ_of_le (ih w (List.mem_cons_of_mem _ e))
section
variable {K : PySem.W.Frag} {X : Cx}
def rSplit : V → List V → Hp → VK → Prop := fun x xs H Q => ∃ a c, x = .str (S a) ∧ xs = [.str (S [c])] ∧ c < 256 ∧ a.length < 1000000 ∧ ∀ l, H l = none → Q (.ref l) (upd H l (.lst ((splitC c a).map tx)))
theorem vals_strs : ∀ (l : List (Str × Tok)) (ws : List (List Nat)), l.map (·.1) = ws.map S → Vals (ws.map tx) (strValues l)
 | [], [], _ => .nil
 | (x, t) :: r, w :: ws, h => by
  rw [List.map_cons, List.map_cons] at h
  obtain ⟨h1, h2⟩ := List.cons.inj h
  have h1 : x = S w := h1
  subst h1
  exact .cons ⟨t, rfl⟩ (vals_strs r ws h2)
 | [], _ :: _, h => by cases h
 | _ :: _, [], h => by cases h
theorem split_call {prog : Program} {w : World} {A : Around} {E : Value → Shared → Prop} {s : Shared} {x y : Str} {t u : Tok} {Q : Value → Shared → Prop} (hy : (y.length == 0) = false)
  (h : ∀ l k, l.map (·.1) = Txt.split x y → Q (.ref s.heap.objs.size) { s with heap := s.heap.push { cls := .type "list", data := .seq (strValues l).toArray }, toks := k })
  (hsz : x.length + 2 ≤ sizeLine) : wpAny (model prog w) A (call (.builtin "str.split") [.str x t, .str y u]) Q E s := by
 have hn : (Builtin.Str.partsBetween x (Builtin.Str.occurrences x y 0 x.length (x.length + 1)) y.length).length ≤ sizeLine := by
  have e1 := StrLaws.occ_length_le x y 0 x.length (x.length + 1)
  rw [length_partsBetween]; omega
 cases h1 : (decide (x.length < y.length) || decide (Builtin.Str.strKind x < Builtin.Str.strKind y))
 ·cases hf : (Builtin.Str.occurrences x y 0 x.length (x.length + 1)).isEmpty
  ·refine call_meets F.slot_str_split (typeIs_str _ _ _) F.entry_str_split (F.args_str_split_2 _ _) (meets_str_split_sep x y t u h1 hy hf (by omega) hn) ?_
   show wants Q E _ { s with toks := _, heap := s.heap.push { cls := .type "list", data := .seq (strsFrom s.toks (Builtin.Str.partsBetween x (Builtin.Str.occurrences x y 0 x.length (x.length + 1)) y.length)).toArray } }
   rw [strsFrom_eq]
   exact h (numbered s.toks _) _ ((numbered_texts _ _).trans ((if_neg (ne_true_of_eq_false h1)).trans (if_neg (ne_true_of_eq_false hf))).symm)
  ·exact call_meets F.slot_str_split (typeIs_str _ _ _) F.entry_str_split (F.args_str_split_2 _ _) (meets_str_split_not_found x y t u h1 hy hf)
    (h [(x, t)] s.toks ((if_neg (ne_true_of_eq_false h1)).trans (if_pos hf)).symm)
 ·exact call_meets F.slot_str_split (typeIs_str _ _ _) F.entry_str_split (F.args_str_split_2 _ _) (meets_str_split_cannot_occur x y t u h1)
    (h [(x, t)] s.toks (if_pos h1).symm)
theorem um_split : MtR X "str.split" rSplit := by
 intro pins s σ H x xs v us Q I rx rs h
 obtain ⟨a, c, rfl, rfl, hc, hl, q⟩ := h
 obtain ⟨t, rfl⟩ := rx
 obtain ⟨u, rfl, t', rfl⟩ := vals1 rs
 have hxl : (S a).length + 2 ≤ sizeLine := by rw [S_len]; exact Nat.le_trans (show a.length + 2 ≤ 1000001 by omega) (by rw [sizeLine_eq]; decide)
 refine split_call rfl (fun l k e => ?_) hxl
 rw [split_S a c hc] at e
 refine ⟨.ref s.heap.objs.size, _, I.laid (t' := k) (o := .lst ((splitC c a).map tx)) (fun b ob q => Heap.get?_push_of_some _ q) (Nat.le_refl _) ?_, rfl, q _ (I.hok.fresh (Nat.le_refl _))⟩
 exact ⟨by rw [List.length_map]; exact Nat.le_trans (splitC_len c a) (sz _ (by omega)), _, 0, vals_strs l _ e, Heap.get?_push_size _ rfl⟩
def fSplit : FM
 | a, [.str [c]], Q => (c < 256 ∧ a.length < 1000000) ∧ Q (.own ((splitC c a).map .str))
 | _, _, _ => False
theorem lm_split : LM K rSplit fSplit := by
 intro O H l xs as Q Q' dom hl fs q k
 unfold fSplit at q
 split at q
 ·cases fs with
  | cons a b =>
   cases b
   rw [a.str.1]
   exact ⟨_, _, rfl, rfl, q.1.1, q.1.2, fun p hp => k _ _ _ q.2 (Gr.new hp) (out_lst hp (FVs.of_strs _ fun w hw => Nat.le_trans (splitC_le _ _ w hw) hl))⟩
 ·exact q.elim
def stripC (c : Nat) (a : List Nat) : List Nat := (a.take (a.length - ((a.drop (a.takeWhile (· == c)).length).reverse.takeWhile (· == c)).length)).drop (a.takeWhile (· == c)).length
theorem stripC_le (c : Nat) (a : List Nat) : (stripC c a).length ≤ a.length := by
 unfold stripC
 rw [List.length_drop, List.length_take]; omega
theorem strip_S (a : List Nat) (c : Nat) : Txt.stripChars (S a) (S [c]) = S (stripC c a) := by
 have hg : ((S [c]).cps.contains : Nat → Bool) = fun x => x == c := by
  funext x
  show (#[c] : Array Nat).contains x = _
  rw [show (#[c] : Array Nat) = [c].toArray from rfl, List.contains_toArray, List.contains_cons]
  simp
 have e : stripped (fun x => x == c) true true (S a) = S (stripC c a) := by
  unfold stripped stripLo stripHi stripC
  rw [if_pos rfl, if_pos rfl, S_cps, S_len]
  unfold Builtin.Str.strSub S
  simp [List.extract_eq_take_drop, List.drop_take]
 unfold Txt.stripChars Txt.stripBy
 rw [hg]
 by_cases h : stripSame (fun x => x == c) true true (S a) = true
 ·rw [if_pos h]
  unfold stripSame stripLo stripHi at h
  rw [if_pos rfl, if_pos rfl, S_cps, S_len, Bool.and_eq_true, beq_iff_eq, beq_iff_eq] at h
  unfold stripC
  obtain ⟨h1, h2⟩ := h
  rw [h1] at h2 ⊢
  rw [h2, List.take_length, List.drop_zero]
 ·rw [if_neg h, e]
def rStrip : V → List V → Hp → VK → Prop := fun x xs H Q => ∃ a c, x = .str (S a) ∧ xs = [.str (S [c])] ∧ a.length ≤ 1000000 ∧ Q (.str (S (stripC c a))) H
theorem um_strip : MtR X "str.strip" rStrip := by
 intro pins s σ H x xs v us Q I rx rs h
 obtain ⟨a, c, rfl, rfl, hl, q⟩ := h
 obtain ⟨t, rfl⟩ := rx
 obtain ⟨u, rfl, t', rfl⟩ := vals1 rs
 exact PySem.SC.stripChars (fun t' k => by rw [strip_S a c]; exact ⟨.str (S (stripC c a)), H, I.tok k, ⟨t', rfl⟩, q⟩) (sz _ (by rw [S_len]; exact hl))
def fStrip : FM
 | a, [.str [c]], Q => Q (.dat (.str (stripC c a)))
 | _, _, _ => False
theorem lm_strip : LM K rStrip fStrip := by
 intro O H l xs as Q Q' dom hl fs q k
 unfold fStrip at q
 split at q
 ·cases fs with
  | cons a b =>
   cases b
   rw [a.str.1]
   exact ⟨_, _, rfl, rfl, hl, k _ H _ q (Gr.refl _) (.str _ (Nat.le_trans (stripC_le _ _) hl))⟩
 ·exact q.elim
end
end L2
namespace L2
open PySem PySem.Spec PyProof.Rows
theorem cfm {ix : List (Option Nat)} {ρ1 : PSt} {n : Nat} {it : Nat → D} {g : PTG} {pt : PTT} {pe : PTE} {Q : PKt} (T : PSt → Prop) (f : Nat → Option D) (h0 : T (sub0P ix ρ1))
  (hs : ∀ k τ d, k < n → d = it k → T τ → ∀ (K1 : D → PSt → Prop) (K2 : PSt → Prop), (∀ d τ', f k = some d → T τ' → K1 d τ') → (∀ τ', f k = none → T τ' → K2 τ') → g (.dat d) τ fun τ2 => pt τ2 fun ok τ3 => PIte ok (pe τ3 fun p τ4 => K1 p.d τ4) (K2 τ3))
  (hq : ∀ τ, T τ → Q (.own ((List.range n).filterMap f)) (back ix ρ1 τ)) :
  CompG ix ρ1 n it g pt pe Q := by
 refine ⟨fun k ys τ => ys = (List.range k).filterMap f ∧ T τ, ⟨rfl, h0⟩, fun k ys τ dd hk ed ⟨e, t⟩ => ?_, fun ys τ ⟨e, t⟩ => by rw [e]; exact hq τ t⟩
 have r : (List.range (k + 1)).filterMap f = (List.range k).filterMap f ++ (f k).toList := by
  rw [List.range_succ, List.filterMap_append]
  cases e : f k with
  | none => rw [show [k].filterMap f = [] by simp [e]]; rfl
  | some d => rw [show [k].filterMap f = [d] by simp [e]]; rfl
 refine hs k τ dd hk ed t (fun d τ' => (ys ++ [d] = (List.range (k + 1)).filterMap f ∧ T τ')) (fun τ' => (ys = (List.range (k + 1)).filterMap f ∧ T τ')) (fun d τ' h t' => ⟨?_, t'⟩) (fun τ' h t' => ⟨?_, t'⟩)
 ·rw [r, e, h]; rfl
 ·rw [r, e, h]; simp
theorem cmap {ix : List (Option Nat)} {ρ1 : PSt} {n : Nat} {it : Nat → D} {g : PTG} {pe : PTE} {Q : PKt} (T : PSt → Prop) (f : Nat → D) (h0 : T (sub0P ix ρ1))
  (hs : ∀ k τ d, k < n → d = it k → T τ → ∀ K1 : D → PSt → Prop, (∀ τ', T τ' → K1 (f k) τ') → g (.dat d) τ fun τ2 => pe τ2 fun p τ4 => K1 p.d τ4)
  (hq : ∀ τ, T τ → Q (.own ((List.range n).map f)) (back ix ρ1 τ)) :
  CompG ix ρ1 n it g pYes pe Q := by
 refine cfm T (fun k => some (f k)) h0 (fun k τ d hk ed t K1 K2 k1 k2 => ?_) fun τ t => ?_
 ·exact hs k τ d hk ed t K1 fun τ' t' => k1 _ τ' rfl t'
 ·have : (List.range n).filterMap (fun k => some (f k)) = (List.range n).map f := by rw [← List.filterMap_eq_map]; rfl
  rw [this]; exact hq τ t
theorem range_getDf {β : Type} (f : Nat → β) (l : List Nat) : (List.range l.length).map (fun k => f (l.getD k 0)) = l.map f := by
 apply List.ext_getElem?
 intro i
 rw [List.getElem?_map, List.getElem?_map]
 by_cases h : i < l.length
 ·rw [List.getElem?_range h]
  show some (f (l.getD i 0)) = _
  rw [List.getD_eq_getElem?_getD, List.getElem?_eq_getElem h]; rfl
 ·rw [List.getElem?_eq_none (by rw [List.length_range]; omega), List.getElem?_eq_none (by omega)]; rfl
def pw (ws : List (List Nat)) (k : Nat) : List Nat := ws.getD k []
theorem pw_get {ws : List (List Nat)} {k : Nat} (h : k < ws.length) : ws[k]? = some (pw ws k) := by unfold pw; rw [List.getD_eq_getElem?_getD, List.getElem?_eq_getElem h]; rfl
theorem pw_mem {ws : List (List Nat)} {k : Nat} (h : k < ws.length) : pw ws k ∈ ws := List.mem_of_getElem? (pw_get h)
theorem itD_str {ws : List (List Nat)} {k : Nat} (h : k < (ws.map D.str).length) : itD (ws.map D.str) k = .str (pw ws k) := itD_of (by rw [List.getElem?_map, pw_get (by rwa [List.length_map] at h)]; rfl)
theorem atI_str {ws : List (List Nat)} {i : Int} {k : Nat} (h : k < ws.length) (e : i = (k : Int)) : atI (ws.map D.str) i = some (.str (pw ws k)) := atI_of (j := k) (by rw [List.getElem?_map, pw_get h]; rfl) e
theorem pw_take {ws : List (List Nat)} {k : Nat} (h : k < ws.length) : ws.take (k + 1) = ws.take k ++ [pw ws k] := by
 rw [List.take_succ, pw_get h]; rfl
def Pc (m : Nat) (w : List Nat) : Prop := 0 < w.length ∧ w.length ≤ m ∧ Lts w
def Pcs (m : Nat) (ws : List (List Nat)) : Prop := ∀ w ∈ ws, Pc m w
theorem Pcs.app {m : Nat} {ws : List (List Nat)} {w : List Nat} (h : Pcs m ws) (h' : Pc m w) : Pcs m (ws ++ [w]) := fun v hv => by
 rcases List.mem_append.mp hv with z | z
 ·exact h v z
 ·rw [List.mem_singleton.mp z]; exact h'
theorem flatten_le {m : Nat} : ∀ {ws : List (List Nat)}, (∀ w ∈ ws, w.length ≤ m) → ws.flatten.length ≤ ws.length * m
 | [], _ => Nat.zero_le _
 | w :: r, h => by
  rw [List.flatten_cons, List.length_append, List.length_cons, Nat.succ_mul]
  have h1 := h w (List.mem_cons_self ..)
  have h2 := flatten_le (ws := r) fun v hv => h v (List.mem_cons_of_mem _ hv)
  omega
def ltB (c : Nat) : Bool := decide (97 ≤ c) && decide (c ≤ 122)
def isTx : D → Int → Int → Bool
 | .str l, a, b => (decide (a ≤ (l.length : Int)) && decide ((l.length : Int) ≤ b)) && l.all ltB
 | _, _, _ => false
theorem isTx_str (l : List Nat) (a b : Int) : isTx (.str l) a b = ((decide (a ≤ (l.length : Int)) && decide ((l.length : Int) ≤ b)) && l.all ltB) := rfl
def txLen : D → Nat
 | .str l => l.length
 | _ => 0
theorem all_ltB {l : List Nat} : l.all ltB = true ↔ Lts l := by
 rw [List.all_eq_true]
 unfold Lts ltB
 constructor
 ·intro h c hc
  have := h c hc
  rw [Bool.and_eq_true, decide_eq_true_eq, decide_eq_true_eq] at this
  exact this
 ·intro h c hc
  rw [Bool.and_eq_true, decide_eq_true_eq, decide_eq_true_eq]
  exact h c hc
theorem isTx_pc {w : List Nat} : isTx (.str w) 1 60 = true ↔ Pc 60 w := by
 unfold isTx Pc
 rw [Bool.and_eq_true, Bool.and_eq_true, decide_eq_true_eq, decide_eq_true_eq, all_ltB]
 constructor
 ·rintro ⟨⟨h1, h2⟩, h3⟩; exact ⟨by omega, by omega, h3⟩
 ·rintro ⟨h1, h2, h3⟩; exact ⟨⟨by omega, by omega⟩, h3⟩
theorem ones_flatten (ls : List Nat) : (ls.map fun c => [c]).flatten = ls := by
 induction ls with
 | nil => rfl
 | cons c r ih => rw [List.map_cons, List.flatten_cons, ih]; rfl
theorem ones_str (ls : List Nat) : ls.map (fun c => D.str [c]) = (ls.map fun c => [c]).map D.str := by rw [List.map_map]; rfl
theorem lex_one (i j : Nat) : (!decide (([j] : List Nat) < [i])) = decide (i ≤ j) := by
 by_cases h : i ≤ j
 ·rw [decide_eq_true h]
  have : ¬ ([j] : List Nat) < [i] := by
   rw [List.cons_lt_cons_iff]
   rintro (z | ⟨_, z⟩)
   ·omega
   ·exact absurd z (List.lt_irrefl _)
  rw [decide_eq_false this]; rfl
 ·rw [decide_eq_false h]
  have : ([j] : List Nat) < [i] := by
   rw [List.cons_lt_cons_iff]; exact .inl (by omega)
  rw [decide_eq_true this]; rfl
theorem pys_str : ∀ ws : List (List Nat), D.pys (ws.map .str) = ws.map fun w => PyData.str (S w)
 | [] => rfl
 | w :: r => by rw [List.map_cons, List.map_cons, ← pys_str r]; rfl
theorem plains_str : ∀ ws : List (List Nat), D.plains (ws.map .str) = true
 | [] => rfl
 | w :: r => by rw [List.map_cons]; show (true && D.plains (r.map .str)) = true; rw [plains_str r]; rfl
def Sh (d : D) : Prop := d.plain = true ∧ SeqAt.shaped d.py = true
theorem EqOk.of {a b : D} (h : Sh a) (h' : Sh b) : EqOk a b := ⟨h.1, h'.1, h.2, h'.2⟩
theorem Sh.tupS {ws : List (List Nat)} (h : ∀ w ∈ ws, Lts w) : Sh (.tup (ws.map .str)) := ⟨plains_str ws, by show SeqAt.shaped (.tuple (D.pys _)) = true; rw [pys_str]; exact (Flat.tuple (flat_texts h)).shaped (by decide)⟩
theorem deq_self {d : D} (h : Sh d) : deq d d = true := eqv_same h.2
theorem Pcs.lts {m : Nat} {ws : List (List Nat)} (h : Pcs m ws) : ∀ w ∈ ws, Lts w := fun w hw => (h w hw).2.2
theorem splitC_app (c : Nat) : ∀ {w : List Nat} (r : List Nat), c ∉ w → splitC c (w ++ c :: r) = w :: splitC c r
 | [], r, _ => by
  show splitC c (c :: r) = _
  rw [splitC, if_pos rfl]
 | x :: w, r, h => by
  have hx : ¬ x = c := fun z => h (by rw [z]; exact List.mem_cons_self ..)
  rw [List.cons_append, splitC, if_neg hx, splitC_app c r fun z => h (List.mem_cons_of_mem _ z)]
theorem splitC_one (c : Nat) : ∀ {w : List Nat}, c ∉ w → splitC c w = [w]
 | [], _ => rfl
 | x :: w, h => by
  have hx : ¬ x = c := fun z => h (by rw [z]; exact List.mem_cons_self ..)
  rw [splitC, if_neg hx, splitC_one c fun z => h (List.mem_cons_of_mem _ z)]
theorem Lts.no {l : List Nat} (h : Lts l) {c : Nat} (hc : c < 97) : c ∉ l := fun z => by have := (h c z).1; omega
theorem repN_one {α : Type} (c : α) (n : Nat) : repN [c] (n : Int) = List.replicate n c := by
 unfold repN
 rw [Int.toNat_natCast]
 induction n with
 | zero => rfl
 | succ n ih => rw [List.replicate_succ, List.flatten_cons, ih]; rfl
end L2
namespace L2
open PySem PySem.Spec PyProof.Rows
def joinW (sep : List Nat) : List (List Nat) → List Nat
 | [] => []
 | [w] => w
 | w :: v :: r => w ++ sep ++ joinW sep (v :: r)
theorem join_SW (sep : List Nat) : ∀ ws : List (List Nat), PySem.Str.join (S sep) (ws.map S) = S (joinW sep ws)
 | [] => rfl
 | [w] => rfl
 | w :: v :: r => by
  show S w ++ S sep ++ PySem.Str.join (S sep) ((v :: r).map S) = S (w ++ sep ++ joinW sep (v :: r))
  rw [join_SW sep (v :: r), S_app, S_app]
theorem joinW_len (sep : List Nat) : ∀ ws : List (List Nat), (joinW sep ws).length ≤ ws.flatten.length + ws.length * sep.length
 | [] => Nat.zero_le _
 | [w] => by show w.length ≤ _; rw [List.flatten_cons, List.flatten_nil, List.append_nil]; omega
 | w :: v :: r => by
  have ih := joinW_len sep (v :: r)
  show (w ++ sep ++ joinW sep (v :: r)).length ≤ _
  rw [List.flatten_cons, List.length_append, List.length_append, List.length_append]
  rw [List.length_cons (as := v :: r), Nat.succ_mul]
  omega
section
variable {K : PySem.W.Frag} {X : Cx}
def rJoinS (K : PySem.W.Frag) : V → List V → Hp → VK → Prop := fun x xs H Q => ∃ (p : Addr) (sep : List Nat) (ws : List (List Nat)), x = .str (S sep) ∧ xs = [.ref p] ∧ SqL K H p (ws.map tx) ∧ ws.flatten.length + ws.length * sep.length ≤ 1000000 ∧ Q (.str (S (joinW sep ws))) H
theorem um_joinS (K : PySem.W.Frag) (e : X.K = K) : MtR X "str.join" (rJoinS K) := by
 subst e
 intro pins s σ H x xs v us Q I rx rs h
 obtain ⟨p, sep, ws, rfl, rfl, hS, hz, q⟩ := h
 obtain ⟨t, rfl⟩ := rx
 obtain ⟨u, rfl, ru⟩ := vals1 rs
 cases (show u = Value.ref p from ru)
 obtain ⟨its, rv, pl, _⟩ := I.list hS
 refine join_list pl.isList (by simpa using strs_of rv) ?_ fun t' k => ?_
 ·rw [List.map_map, S_len]
  have e1 : (ws.map ((fun y : Str => y.length) ∘ S)).sum = ws.flatten.length := by
   rw [List.length_flatten]
   exact congrArg List.sum (List.map_congr_left fun w _ => S_len w)
  rw [e1]
  simp only [List.length_map]
  omega
 ·refine ⟨.str (S (joinW sep ws)), H, I.tok _, ⟨t', ?_⟩, q⟩
  rw [← join_SW]
  exact congrArg (fun z => Value.str z t') (StrLaws.glued_eq_join _ _)
def fJoinS : FM
 | [], [.lst ds], Q => ∃ ws : List (List Nat), ds = ws.map .str ∧ ws.flatten.length ≤ 1000000 ∧ Q (.dat (.str ws.flatten))
 | c :: sep, [.lst ds], Q => ∃ ws : List (List Nat), ds = ws.map .str ∧ ws.flatten.length + ws.length * (c :: sep).length ≤ 1000000 ∧ Q (.dat (.str (joinW (c :: sep) ws)))
 | _, _, _ => False
theorem joinW_nil : ∀ ws : List (List Nat), joinW [] ws = ws.flatten
 | [] => rfl
 | [w] => by show w = w ++ []; rw [List.append_nil]
 | w :: v :: r => by show w ++ [] ++ joinW [] (v :: r) = _; rw [joinW_nil (v :: r), List.append_nil]; rfl
theorem lm_joinS : LM K (rJoinS K) fJoinS := by
 intro O H l xs as Q Q' dom hl fs q k
 unfold fJoinS at q
 split at q
 ·obtain ⟨ws, rfl, hw, q⟩ := q
  cases fs with
  | cons a b =>
   cases b
   obtain ⟨p, ys, rfl, e1, f1⟩ := a.lst
   rw [f1.strs] at e1
   refine ⟨p, [], ws, rfl, rfl, SqL.of e1, by rw [List.length_nil, Nat.mul_zero]; exact hw, ?_⟩
   rw [joinW_nil]
   exact k _ H _ q (Gr.refl _) (.str _ hw)
 ·obtain ⟨ws, rfl, hw, q⟩ := q
  cases fs with
  | cons a b =>
   cases b
   obtain ⟨p, ys, rfl, e1, f1⟩ := a.lst
   rw [f1.strs] at e1
   exact ⟨p, _, ws, rfl, rfl, SqL.of e1, hw, k _ H _ q (Gr.refl _) (.str _ (Nat.le_trans (joinW_len _ _) hw))⟩
 ·exact q.elim
end
theorem stripC_pad {c : Nat} {w : List Nat} (i j : Nat) (h : c ∉ w) : stripC c (List.replicate i c ++ w ++ List.replicate j c) = w := by
 have rep : ∀ (n : Nat) (r : List Nat), (List.replicate n c ++ r).takeWhile (· == c) = List.replicate n c ++ r.takeWhile (· == c) := fun n r => by
  induction n with
  | zero => rfl
  | succ n ih => rw [List.replicate_succ, List.cons_append, List.takeWhile_cons_of_pos (by simp), ih]; rfl
 have tw : ∀ {l : List Nat}, c ∉ l → l.takeWhile (· == c) = [] := fun {l} hl => by
  cases l with
  | nil => rfl
  | cons x r =>
   rw [List.takeWhile_cons_of_neg]
   simp only [beq_iff_eq]
   exact fun z => hl (by rw [z]; exact List.mem_cons_self ..)
 by_cases h0 : w = []
 ·subst h0
  rw [List.append_nil, List.replicate_append_replicate]
  unfold stripC
  have e : (List.replicate (i + j) c).takeWhile (· == c) = List.replicate (i + j) c := by
   have := rep (i + j) []
   rw [List.append_nil] at this
   rw [this]; simp
  rw [e]
  apply List.length_eq_zero_iff.mp
  rw [List.length_drop, List.length_take, List.length_replicate]; omega
 ·have tw2 : (w ++ List.replicate j c).takeWhile (· == c) = [] := by
   cases w with
   | nil => exact absurd rfl h0
   | cons x r =>
    rw [List.cons_append, List.takeWhile_cons_of_neg]
    simp only [beq_iff_eq]
    exact fun z => h (by rw [z]; exact List.mem_cons_self ..)
  have e1 : (List.replicate i c ++ w ++ List.replicate j c).takeWhile (· == c) = List.replicate i c := by
   rw [List.append_assoc, rep, tw2, List.append_nil]
  have hwr : w.reverse ≠ [] := by simpa using h0
  have e2 : ((List.replicate i c ++ w ++ List.replicate j c).drop (List.replicate i c).length).reverse.takeWhile (· == c) = List.replicate j c := by
   rw [List.append_assoc, List.drop_left, List.reverse_append, List.reverse_replicate, rep]
   have : w.reverse.takeWhile (· == c) = [] := tw (by simpa using h)
   rw [this, List.append_nil]
  unfold stripC
  rw [e1, e2]
  have l1 : (List.replicate i c ++ w ++ List.replicate j c).length - (List.replicate j c).length = (List.replicate i c ++ w).length := by
   rw [List.length_append]; omega
  rw [l1, List.take_left, List.drop_left]
end L2
namespace L2
open PySem PySem.Spec PyProof.Rows
section
variable {X : Cx} {K : PySem.W.Frag}
def rEqDic (neg : Bool) : R2 := fun x y H Q => ∃ a b, x = .ref a ∧ y = .ref b ∧ H a = some (.dK []) ∧ H b = some (.dK []) ∧ Q (.bl (!neg)) H
theorem op_eqDic (hu : X.A.units + 64 < cLine) : OpR X (compareOp .Eq) (rEqDic false) := by
 intro pins s σ H x y v u Q I rx ry ⟨a, b, e1, e2, h1, h2, q⟩
 subst e1 e2
 cases rx
 cases ry
 obtain ⟨_, y1, vs, r1, p1⟩ := (show ObjOk X.prog X.w H s.heap a (.dK []) from I.hok a _ h1)
 obtain ⟨_, y2, ws, r2, p2⟩ := (show ObjOk X.prog X.w H s.heap b (.dK []) from I.hok b _ h2)
 cases r1
 cases r2
 exact PySem.W.keq_eq (r := true) y1 y2 p1 p2 (by omega) (fun _ => .nil) ⟨.bl true, H, I, rfl, q⟩
theorem op_neDic (hu : X.A.units + 64 < cLine) : OpR X (compareOp .NotEq) (rEqDic true) := by
 intro pins s σ H x y v u Q I rx ry ⟨a, b, e1, e2, h1, h2, q⟩
 subst e1 e2
 cases rx
 cases ry
 obtain ⟨_, y1, vs, r1, p1⟩ := (show ObjOk X.prog X.w H s.heap a (.dK []) from I.hok a _ h1)
 obtain ⟨_, y2, ws, r2, p2⟩ := (show ObjOk X.prog X.w H s.heap b (.dK []) from I.hok b _ h2)
 cases r1
 cases r2
 exact PySem.W.keq_ne (r := true) y1 y2 p1 p2 (by omega) (fun _ => .nil) ⟨.bl false, H, I, rfl, q⟩
def rEqU2 (K : PySem.W.Frag) (neg : Bool) : R2 := fun x y H Q => rEqU K neg x y H Q ∨ rEqDic neg x y H Q
theorem u_eq2 (K : PySem.W.Frag) (e : X.K = K) (hu : X.A.units + 64 < cLine) : OpR X (compareOp .Eq) (rEqU2 K false) := OpR.or (u_eq K e hu) (op_eqDic hu)
theorem u_ne2 (K : PySem.W.Frag) (e : X.K = K) (hu : X.A.units + 64 < cLine) : OpR X (compareOp .NotEq) (rEqU2 K true) := OpR.or (u_ne K e hu) (op_neDic hu)
def fEq2 : F2
 | .dic [] [], .dic [] [], Q => Q (.dat (.bl true))
 | a, b, Q => fEq a b Q
def fNe2 : F2
 | .dic [] [], .dic [] [], Q => Q (.dat (.bl false))
 | a, b, Q => fNe a b Q
theorem FVc.dic0 {O : Addr → Prop} {H : Hp} {v : V} (h : FVc K O H v (.dic [] [])) : ∃ a, v = .ref a ∧ H a = some (.dK []) := by
 cases h.fv nofun nofun with
 | dic n e m f =>
  rename_i a kvs
  cases kvs with
  | nil => exact ⟨a, rfl, e⟩
  | cons x r => cases m
theorem lo_eq2 : LO K (rEqU2 K false) fEq2 := by
 intro O H x y a b Q Q' dom fx fy q k
 unfold fEq2 at q
 split at q
 ·obtain ⟨a, rfl, e1⟩ := fx.dic0
  obtain ⟨b, rfl, e2⟩ := fy.dic0
  exact .inr ⟨a, b, rfl, rfl, e1, e2, k _ H _ q (Gr.refl _) (.bl _)⟩
 ·exact .inl (lo_eq O H x y _ _ Q Q' dom fx fy q k)
theorem lo_ne2 : LO K (rEqU2 K true) fNe2 := by
 intro O H x y a b Q Q' dom fx fy q k
 unfold fNe2 at q
 split at q
 ·obtain ⟨a, rfl, e1⟩ := fx.dic0
  obtain ⟨b, rfl, e2⟩ := fy.dic0
  exact .inr ⟨a, b, rfl, rfl, e1, e2, k _ H _ q (Gr.refl _) (.bl _)⟩
 ·exact .inl (lo_ne O H x y _ _ Q Q' dom fx fy q k)
end
end L2
namespace L2
open PySem PySem.Spec PyProof.Rows
end L2
namespace L2
open PySem PySem.Spec PyProof.Rows
section
variable {K : PySem.W.Frag} {te : TE} {pe : PTE} {tr : TA} {pr : PTA}
end
end L2
namespace L2
open PySem PySem.Spec PyProof.Rows
section
variable {P : Program} {w : World} {A : Around} {E : Value → Shared → Prop} {s : Shared} {z U V i j : Addr} {n : Nat} {x y : Str} {t t' : Tok} {cx cy : Nat} {u v : Value}
end
section
variable {P : Program} {w : World} {A : Around} {E : Value → Shared → Prop} {s : Shared}
end
section
variable {X : Cx} {es : List Expr} {ct : Nat} {tp : Pos}
end
section
variable {K : PySem.W.Frag} {ta : TA} {pa : PTA}
end
end L2
namespace L2
open PySem PySem.Spec PyProof.Rows
section
variable {X : Cx} {K : PySem.W.Frag} {te : TE} {pe : PTE}
end
end L2
namespace L2
open PySem PySem.Spec PyProof.Rows
section
variable {prog : Program} {w : World} {A : Around} {R : Result → Shared → Prop} {s : Shared}
end
section
variable {Y : Cx} {elt t1 i1 t2 i2 : Expr} {f1 f2 : List Expr} {scope : Scope} {pos : Pos} {te : TE} {D : Addr} {wi : TI} {g : TG} {tts : TT} {tb : TB}
end
section
variable {X : Cx} {elt t1 i1 t2 i2 : Expr} {f1 f2 : List Expr} {scope : Scope} {N' : List Str} {ix : List (Option Nat)} {wi : TI} {g : TG} {tts : TT} {tb : Addr → TB}
end
end L2
namespace L2
open PySem PySem.Spec PyProof.Rows
end L2
namespace L2
open PySem PySem.Spec PyProof.Rows
section
variable {X : Cx} {K : PySem.W.Frag} {te : TE} {pe : PTE} {fs : List Nat}
end
end L2
namespace L2
open PySem PySem.Spec PyProof.Rows
section
variable {X : Cx} {K : PySem.W.Frag} {te tk : TE} {pe pk : PTE}
end
end L2
namespace L2
open PySem PySem.Spec PyProof.Rows
section
variable {prog : Program} {w : World} {A : Around} {E : Value → Shared → Prop} {s : Shared}
end
section
variable {X : Cx} {K : PySem.W.Frag}
end
end L2
namespace L2
open PySem PySem.Spec PyProof.Rows
section
variable {K : PySem.W.Frag} {te te' tk tk' : TE} {pe pe' pk pk' : PTE} {fs : List Nat}
end
end L2
namespace L2
open PySem PySem.Spec PyProof.Rows
section
variable {prog : Program} {w : World} {A : Around} {E : Value → Shared → Prop} {s : Shared}
theorem draw_list {it t : Addr} {items : Array Value} (hne : t ≠ it) : ∀ (n i : Nat) (s : Shared) (Q : List Value → Shared → Prop), s.heap.IsListIter it t i → s.heap.IsList t items → i + n ≤ items.size →
  (∀ h', h'.IsListIter it t (i + n) → Heap.SameBut it s.heap h' → Q ((items.toList.drop i).take n) { s with heap := h' }) → wpAny (model prog w) A (draw (.ref it) n) Q E s
 | 0, i, s, Q, hit, _, _, hQ => by
  show wpAny _ _ (pure []) Q E s
  exact wpAny_pure (by simpa using hQ s.heap hit (Heap.SameBut.refl ..))
 | n + 1, i, s, Q, hit, ht, hle, hQ => by
  have hlt : i < items.size := by omega
  show wpAny _ _ (pyNext (.ref it) >>= _) Q E s
  refine wpAny_bind (wpAny_pyNext_list_item hit ht (x := items[i]) (by simp [hlt]) fun h₁ hit₁ hs₁ => ?_)
  refine wpAny_bind (wpAny_holding (draw_list hne n (i + 1) _ _ hit₁ (ht.extBut hs₁.extBut hne) (by omega) fun h₂ hit₂ hs₂ => wpAny_pure ?_))
  have hd : items.toList.drop i = items[i] :: items.toList.drop (i + 1) := by simp [List.drop_eq_getElem_cons, hlt]
  have := hQ h₂ (by rw [show i + (n + 1) = i + 1 + n by omega]; exact hit₂) (hs₁.trans hs₂)
  rw [hd, List.take_succ_cons] at this
  exact this
theorem unpackItems_list {t : Addr} {items : Array Value} {Q : List Value → Shared → Prop} (hh : A.handled = none) (ht : s.heap.IsList t items)
  (hQ : ∀ h', Heap.ExtBut s.heap.objs.size s.heap h' → Q items.toList { s with heap := h' }) : wpAny (model prog w) A (unpackItems (.ref t) items.size none) Q E s := by
 have hlt : t ≠ s.heap.objs.size := by obtain ⟨o, ho, _⟩ := ht; exact Nat.ne_of_lt (Heap.lt_size ho)
 unfold unpackItems
 refine wpAny_bind ?_
 ·unfold notIterableAtAll
  refine wpAny_bind (wpAny_specialOf ht.typeIs PySem.F.slot_list_iter.lookup ?_)
  refine wpAny_pure ?_
  simp only [Bool.false_eq_true, if_false]
  refine wpAny_bind (wpAny_holding (wpAny_pyIter_list ht ?_))
  refine wpAny_bind (wpAny_holding (draw_list hlt items.size 0 _ _ ⟨_, Heap.get?_push_size _ rfl, rfl, rfl⟩ (ht.push _) (by omega) fun h₁ hit₁ hs₁ => ?_))
  have hall : List.take items.size (List.drop 0 items.toList) = items.toList := by
   rw [List.drop_zero]; exact List.take_of_length_le (by simp)
  rw [hall]
  rw [if_neg (by simp)]
  have ht₁ : h₁.IsList t items := (ht.push _).extBut hs₁.extBut hlt
  refine wpAny_bind (wpAny_holding (wpAny_pyNext_list_end hh hit₁ ht₁ (by simp) fun h₂ he₂ => ?_))
  simp only [Option.isSome_none, Bool.false_eq_true, if_false]
  refine wpAny_pure (hQ h₂ fun b o hb e => he₂ b o hb (hs₁.extBut b o hb (Heap.get?_push_of_some _ e)))
theorem assign_Tuple_list {env : Env} {elts : List Expr} {x1} {pos : Pos} {t : Addr} {items : Array Value} {Q : Unit → Shared → Prop} (hh : A.handled = none) (ht : s.heap.IsList t items)
  (hn : (assignEach elts env).length = items.size) (hstar : (assignEach elts env).findIdx? (·.1) = none)
  (h : ∀ h', Heap.ExtBut s.heap.objs.size s.heap h' → wpAny (model prog w) A (assignInOrder ((assignEach elts env).map (·.2)) items.toList) Q E { s with heap := h' }) :
  wpAny (model prog w) A (assign (.Tuple elts x1 pos) env (.ref t)) Q E s := by
 rw [assign_Tuple]
 refine wpAny_bind (wpAny_standAt ?_)
 unfold unpack
 rw [hn, hstar]
 exact wpAny_bind (wpAny_holding (unpackItems_list hh ht h))
end
def gRow (K : PySem.W.Frag) (n : Nat) (t : TGs) : TG := fun v σ H Q => ∃ b a xs, v = .ref a ∧ Sq b K H a xs ∧ xs.length = n ∧ t xs σ H Q
section
variable {X : Cx}
theorem pg_row (K : PySem.W.Frag) (eK : X.K = K) {es : List Expr} {k : Nat} {t : TGs} {n : Nat} {pos : Pos} (hc : X.calm = true) (h : PGs X es t)
  (hn : (assignEach es X.env).length = n := by rfl) (hst : (assignEach es X.env).findIdx? (·.1) = none := by rfl) : PG X (.Tuple es k pos) (gRow K n t) := by
 subst eK
 intro pins s σ H v u Q I r hw
 obtain ⟨b, a, xs, e1, hq, hl, hw⟩ := hw
 cases b with
 | true => exact pg_tup hc h hn hst pins s σ H v u Q I r ⟨a, xs, e1, hq, hl, hw⟩
 | false =>
  subst e1
  cases r
  obtain ⟨its, rv, ht, hz⟩ := I.list hq
  refine assign_Tuple_list (I.ok.hd hc) ht.isList (by simp [hn, ← hl, rv.length]) hst fun h' hx => ?_
  have I1 : Inv X pins σ H { s with heap := h' } := I.kept (t' := s.toks) fun b o e => hx b o (Nat.ne_of_lt (Heap.lt_size e)) e
  exact h pins _ σ H xs _ Q I1 (by simpa using rv) hw
def pgRow (n : Nat) (gs : PTGs) : PTG := fun p ρ Q => match p with | .dat (.tup ds) => ds.length = n ∧ gs ds ρ Q | .dat (.lst ds) => ds.length = n ∧ gs ds ρ Q | .own ds => ds.length = n ∧ gs ds ρ Q | _ => False
end
section
variable {K : PySem.W.Frag} {fs : List Nat}
theorem lgd_row {n : Nat} {gs : TGs} {pgs : PTGs} (h : LGs K fs gs pgs) : LGd K fs (gRow K n gs) (pgRow n pgs) := fun fx A R H0 ρ σ H d v Q Q' hf F r fv q k => by
 unfold pgRow at q
 split at q
 ·rename_i e
  cases e
  cases fv with
  | tup nn e f => exact ⟨true, _, _, rfl, SqT.of e, by rw [f.length]; exact q.1, h fx A R H0 ρ σ H _ _ Q Q' hf F r f q.2 k⟩
 ·rename_i e
  cases e
  cases fv with
  | lst nn e f => exact ⟨false, _, _, rfl, SqL.of e, by rw [f.length]; exact q.1, h fx A R H0 ρ σ H _ _ Q Q' hf F r f q.2 k⟩
 ·rename_i e
  cases e
 ·exact q.elim
theorem lg_row {n : Nat} {gs : TGs} {pgs : PTGs} (h : LGs K fs gs pgs) : LG K fs (gRow K n gs) (pgRow n pgs) := fun fx A R H0 ρ σ H p v Q Q' hf F o q k => by
 unfold pgRow at q
 split at q
 ·obtain ⟨r, fv⟩ := o
  cases fv with
  | tup nn e f => exact ⟨true, _, _, rfl, SqT.of e, by rw [f.length]; exact q.1, h fx A R H0 ρ σ H _ _ Q Q' hf F r f q.2 fun ρ' σ' q' r' F' _ => k ρ' σ' H q' r' F'⟩
 ·obtain ⟨r, fv⟩ := o
  cases fv with
  | lst nn e f => exact ⟨false, _, _, rfl, SqL.of e, by rw [f.length]; exact q.1, h fx A R H0 ρ σ H _ _ Q Q' hf F r f q.2 fun ρ' σ' q' r' F' _ => k ρ' σ' H q' r' F'⟩
 ·obtain ⟨r, fv⟩ := o.frz
  cases fv with
  | lst nn e f => exact ⟨false, _, _, rfl, SqL.of e, by rw [f.length]; exact q.1, h fx A R H0 ρ σ H _ _ Q Q' hf F r f q.2 fun ρ' σ' q' r' F' _ => k ρ' σ' H q' r' F'⟩
 ·exact q.elim
end
end L2
namespace L2
open PySem PySem.Spec PyProof.Rows
end L2
namespace L2
open PySem PySem.Spec PyProof.Rows
def nSt : Expr → Bool
 | .Starred _ _ => false
 | _ => true
theorem star_of {e : Expr} {es : List Expr} {env : Env} (h : nSt e = true) : starEach (e :: es) env = (false, eval e env) :: starEach es env := by
 cases e <;> first | rfl | cases h
theorem plain_of {env : Env} {pos : Pos} : ∀ {es : List Expr}, es.all nSt = true → (backTo pos (starEach es env)).any (·.1) = false
 | [], _ => rfl
 | e :: es, h => by
  rw [List.all_cons, Bool.and_eq_true] at h
  rw [star_of h.1]
  show (false || (backTo pos (starEach es env)).any (·.1)) = false
  rw [plain_of h.2]; rfl
section
variable {X : Cx} {k : Nat} {x : Str} {ps : List Str} {sp : Sp} {e : Expr} {es : List Expr} {te : TE} {t : TA} {p pos : Pos} {dvs : List V} {C : Addr} {id T : String} {r : List V → Hp → VK → Prop}
theorem paC (ha : PE X e te) (hr : PA X es t) (hn : nSt e = true := by rfl) : PA X (e :: es) (tCons te t) := pa_cons ha hr (star_of hn)
theorem pe_cal2 (C : Cal X.prog X.w X.K X.mg X.base k x ps sp) (hr : Room k X.A) (ha : PA X (e :: es) t) (hg : Gl X x := by rfl) (hdb : (x == ("__debug__" : Str)) = false := by decide) (hn : nSt e = true := by rfl) (hp : es.all nSt = true := by rfl) :
  PE X (.Call (.Name x p) (e :: es) [] pos) (tCall sp [] E0 t) := pe_cal C hr ha hg hdb (star_of hn) (plain_of hp)
theorem pe_calD2 (j : Nat) (C : CalD X.prog X.w X.K X.mg X.base k x ps dvs sp) (hr : Room k X.A) (hj : j ≤ dvs.length) (ha : PA X (e :: es) t) (hg : Gl X x := by rfl) (hdb : (x == ("__debug__" : Str)) = false := by decide) (hn : nSt e = true := by rfl) (hp : es.all nSt = true := by rfl) :
  PE X (.Call (.Name x p) (e :: es) [] pos) (tCall sp (dvs.drop j) E0 t) := pe_calD j C hr hj ha hg hdb (star_of hn) (plain_of hp)
theorem pe_callB2 (hc : CallR X (.builtin id) r) (hg : Gl X x) (hm : X.mg x = none) (hv : bootBuiltins x = some (.builtin id)) (ha : PA X (e :: es) t) (hnn : x ≠ "__name__" := by decide) (hdb : (x == ("__debug__" : Str)) = false := by decide) (hn : nSt e = true := by rfl) (hp : es.all nSt = true := by rfl) :
  PE X (.Call (.Name x p) (e :: es) [] pos) (tCB r t) := pe_callB hc hg hm hv ha hnn hdb (star_of hn) (plain_of hp)
theorem pe_callTy2 (hc : CallR X (.type T) r) (hg : Gl X x) (hm : X.mg x = none) (hv : bootBuiltins x = some (.type T)) (ha : PA X (e :: es) t) (hnn : x ≠ "__name__" := by decide) (hdb : (x == ("__debug__" : Str)) = false := by decide) (hn : nSt e = true := by rfl) (hp : es.all nSt = true := by rfl) :
  PE X (.Call (.Name x p) (e :: es) [] pos) (tCB r t) := pe_callTy hc hg hm hv ha hnn hdb (star_of hn) (plain_of hp)
end
end L2
namespace L2
open PySem PySem.Spec PyProof.Rows
def plT : Expr → Bool
 | .Call _ _ _ _ => true
 | .Name _ _ => true
 | .Subscript _ _ _ => true
 | .Attribute _ _ _ => true
 | _ => false
theorem true_of {e : Expr} {env : Env} (h : plT e = true) : ∀ whole, isTrue e env whole = (do let v ← whole; standAt e.pos; holding [v] (truthy v)) := by
 cases e <;> first | (intro _; rfl) | cases h
theorem pt_val2 {X : Cx} {e : Expr} {t : TE} (h : PE X e t) (hp : plT e = true := by rfl) : PT X e (tB t) := pt_val h (true_of hp)
end L2
namespace L2
open PySem PySem.Spec PyProof.Rows
abbrev vmB : List Value := [.type "ValueError", .type "Exception", .type "BaseException", .type "object"]
section
variable {prog : Program} {w : World} {A : Around} {E : Value → Shared → Prop} {K : PySem.W.Frag} {h : Heap} {g : Array GenState} {d : Drawn} {t : Nat} {os : OsState}
variable {nm q : Str} {C N : Addr} {bs bm : List Value} {sn : List Str} {sub : List Value} {ab : Bool} {col : Option Bool} {k0 k1 k2 k3 k5 : Option Value}
theorem x_type_call {rest : List Value} {fI : Addr} {Q : Fin → Shared → Prop} (X : K.In h) (hC : h.get? C = some (excClassObj nm q C N bs bm true sn sub ab col none k0 k1 k2 k3 k5 "ValueError.__new__")) (T : OwnTail h vmB bm)
  (hi : PySem.W.findIn K (.ref C) "__init__" = some (some (.ref fI))) (hf : PySem.W.typeIn K (.ref fI) = some (.type "function")) (hrest : rest.length ≤ sizeLine)
  (hq : ∀ h', Heap.MadeExcOf h h' (h.objs.size + 1) (.ref C) rest → wpAny (model prog w) A (call (.ref fI) (.ref (h.objs.size + 1) :: rest)) (fun r s' => r = .none ∧ Q (.done (.ret (.ref (h.objs.size + 1)))) s') E ⟨h', g, d, t, os⟩) :
  wpAny (model prog w) A (Builtin.«type.__call__» ⟨.ref C :: rest, []⟩) Q E ⟨h, g, d, t, os⟩ := by
 have FV := PySem.F.excBase_ValueError
 repeat (first
  | with_reducible refine wpAny_loadPart_at hC ?_
  | with_reducible refine wpAny_madeBy_exc hC ?_
  | wp_step)
 refine codeAny_call_builtin_code (Code.quiet_builtin _ FV.quiet) (wpAny_check_new_subT FV T hC ?_)
 refine codeAny_exc_new_subT FV T hC ?_ hrest
 show wpAny _ _ _ _ _ _
 generalize hh1 : (h.push { cls := .type "tuple", data := .seq rest.toArray }) = h1
 generalize hh2 : (h1.push { cls := .ref C, data := .fields #[.ref h.objs.size, .none, .none, .none, .bool false, .none] }) = h2
 have kp : ∀ b o, h.get? b = some o → h2.get? b = some o := fun b o e => by
  rw [← hh2, ← hh1]
  exact Heap.get?_push_of_some _ (Heap.get?_push_of_some _ e)
 have hC2 := kp _ _ hC
 have X2 : K.In h2 := X.keeps kp
 have sz : h1.objs.size = h.objs.size + 1 := by rw [← hh1]; exact Heap.size_push ..
 have ge : h2.get? (h.objs.size + 1) = some { cls := .ref C, data := .fields #[.ref h.objs.size, .none, .none, .none, .bool false, .none] } := by
  rw [← hh2, ← sz]
  exact Heap.get?_push_size _ rfl
 have gt : h2.get? h.objs.size = some { cls := .type "tuple", data := .seq rest.toArray } := by
  rw [← hh2, ← hh1]
  exact Heap.get?_push_of_some _ (Heap.get?_push_size _ rfl)
 have cc : (Value.ref C :: bm).contains (.ref C) = true := by simp
 unfold isInstance
 repeat (first
  | with_reducible refine wpAny_loadPart_at ge ?_
  | (with_reducible refine wpAny_isSubtype_exc hC2 ?_; rw [cc])
  | wp_step)
 show wpAny _ _ (typeLookup (.ref C) _) _ _ _
 refine (PySem.W.looks_findIn X2 hi).at ?_
 refine wpAny_holding (wpAny_bind ((PySem.W.bind_fn X2 _ hf).at ?_))
 refine wpAny_bind (wpAny_mono (hq h2 ⟨kp, Heap.get?_none_of_le (Nat.le_succ _), h.objs.size, ge, Heap.get?_none_of_le (Nat.le_refl _), gt⟩) (fun r s' hr => ?_) fun _ _ x => x)
 obtain ⟨rfl, hQ⟩ := hr
 wp_walk
 exact hQ
theorem x_call1 {rest : List Value} {fI : Addr} {Q : Value → Shared → Prop} (X : K.In h) (hC : h.get? C = some (excClassObj nm q C N bs bm true sn sub ab col none k0 k1 k2 k3 k5 "ValueError.__new__")) (T : OwnTail h vmB bm)
  (hi : PySem.W.findIn K (.ref C) "__init__" = some (some (.ref fI))) (hf : PySem.W.typeIn K (.ref fI) = some (.type "function")) (hrest : rest.length ≤ sizeLine)
  (hq : ∀ h', Heap.MadeExcOf h h' (h.objs.size + 1) (.ref C) rest → wpAny (model prog w) (A.under (.builtin "type.__call__" ⟨.ref C :: rest, []⟩)) (call (.ref fI) (.ref (h.objs.size + 1) :: rest)) (fun r s' => r = .none ∧ Q (.ref (h.objs.size + 1)) s') E ⟨h', g, d, t, os⟩) :
  wpAny (model prog w) A (call (.ref C) rest) Q E ⟨h, g, d, t, os⟩ := by
 have u1 := tc_lookup
 have u2 := tc_bind (.ref C)
 have hT : (⟨h, g, d, t, os⟩ : Shared).TypeIs (.ref C) "type" := ⟨_, hC, rfl⟩
 refine wpAny_call (codeAny_of_tree ?_)
 show wpAny _ _ (callAny (.ref C) _) _ _ _
 repeat (any_goals (first
  | assumption
  | with_reducible refine wpAny_loadPart_at hC ?_
  | wp_step))
 refine ⟨rfl, ?_⟩
 refine codeAny_call_builtin_at (Code.quiet_builtin _ (by decide +kernel)) entry_typeCall ?_
 refine wpAny_check_type_call_sub hC (x_type_call X hC T hi hf hrest fun h' hm => ?_)
 exact hq h' hm
end
end L2
namespace L2
open PySem PySem.Spec PyProof.Rows
open PySem.Builtin PySem.Builtin.ObjectAttr
section
variable {prog : Program} {w : World} {A : Around} {E : Value → Shared → Prop} {K : PySem.W.Frag} {h : Heap} {g : Array GenState} {d : Drawn} {t : Nat} {os : OsState}
variable {nm q : Str} {C G N x : Addr} {bs : List Value} {sn : List Str} {sub : List Value} {ab : Bool} {col : Option Bool} {k0 k1 k2 k3 k5 : Option Value} {name : Str} {v : Value} {o : Obj} {vs : Array Value}
def XSet (h h' : Heap) (x : Addr) (o : Obj) (name : Str) (v : Value) (dx : Addr) : Prop :=
 h'.get? x = some { o with dict := some dx } ∧ h.objs.size ≤ dx ∧ dx ≠ x ∧ h'.Ns1 dx (fun y => if y = name then some v else none) ∧ ∀ b ob, b ≠ x → h.get? b = some ob → h'.get? b = some ob
theorem x_store_entry {tk : Tok} {Q : Fin → Shared → Prop} (X : K.In h) (hC : h.get? C = some (excClassObj nm q C N bs (.ref G :: vmB) true sn sub ab col none k0 k1 k2 k3 k5 "ValueError.__new__"))
  (hna : PySem.W.findIn K (.ref C) name = some none) (hx : h.get? x = some o) (hc : o.cls = .ref C) (hd : o.data = .fields vs) (hdn : o.dict = none)
  (hq : ∀ h' tk' dx, XSet h h' x o name v dx → Q (.done (.ret .none)) ⟨h', g, d, tk', os⟩) :
  wpAny (model prog w) A (Builtin.«object.__setattr__» ⟨[.ref x, .str name tk, v], []⟩) Q E ⟨h, g, d, t, os⟩ := by
 have hpass := PySem.F.store_ValueError.passes (.ref x)
 unfold Builtin.«object.__setattr__»
 repeat (first
  | rw [refuse_eq]
  | (rw [refuseLoop_ref, refuseLoop_ref, hpass])
  | (with_reducible refine wpAny_loadPart_at hx ?_; rw [hc])
  | with_reducible refine wpAny_mroOf_exc hC ?_
  | (with_reducible refine (PySem.W.looks_findIn X hna).at ?_)
  | wp_step)
 rw [hdn, if_neg (by simp [typeHasDict])]
 split
 ·rename_i hcd
  cases hcd
 split
 ·rename_i c hcd
  rw [hd] at hcd; cases hcd
 ·have hx1 : (h.push { cls := .type "dict", data := .dict #[] }).get? x = some o := Heap.get?_push_of_some _ hx
  have hxs : x ≠ h.objs.size := Nat.ne_of_lt (Heap.lt_size hx)
  refine wpAny_bind (wpAny_alloc' ?_)
  refine wpAny_bind (wpAny_update' hx1 ?_)
  refine wpAny_pure ?_
  generalize hg2 : ((h.push { cls := .type "dict", data := .dict #[] }).update x fun o => { cls := o.cls, dict := some h.objs.size, data := o.data, slots := o.slots }) = h2
  have gd : h2.get? h.objs.size = some { cls := .type "dict", data := .dict #[] } := by
   rw [← hg2]
   exact (Heap.get?_update_ne _ _ _ _ hxs.symm).trans (Heap.get?_push_at rfl rfl)
  have gx : h2.get? x = some { o with dict := some h.objs.size } := by
   rw [← hg2]
   refine Heap.get?_update_self _ hx1 ?_
   have hfr := (Heap.get?_some_iff.mp hx).2
   obtain ⟨oc, od, odt, osl⟩ := o
   cases odt <;> first | rfl | exact hfr
  have kp : ∀ b ob, b ≠ x → h.get? b = some ob → h2.get? b = some ob := fun b ob hb e => by
   rw [← hg2]
   exact (Heap.get?_update_ne _ _ _ _ hb).trans (Heap.get?_push_of_some _ e)
  have hnd : h2.Ns h.objs.size (fun _ => none) := ⟨_, #[], _, gd, rfl, fun e he => absurd he (by simp), fun _ => rfl⟩
  show wpAny _ _ (storeInDict h.objs.size (.str name tk) name v) _ _ _
  unfold storeInDict newKeyGuard
  refine wpAny_bind (wpAny_pure (wpAny_bind (wpAny_nsSet1 (Heap.Ns1.of_empty hnd) fun h' hn' hs => ?_)))
  obtain ⟨oD, esD, epD, hoD, hdD, hcD⟩ := hn'.count (Within.cons name v Within.nil)
  refine wpAny_bind (wpAny_lookBehind hoD (by
   rw [hdD]
   exact pastItsLine_dict (Nat.le_trans hcD (by rw [List.length_cons, List.length_nil, sizeLine_eq]; omega))) ?_)
  wp_walk
  exact hq h' _ h.objs.size ⟨(hs.2 x hxs).trans gx, Nat.le_refl _, hxs.symm, hn', fun b ob hb e => (hs.2 b (Nat.ne_of_lt (Heap.lt_size e))).trans (kp b ob hb e)⟩
theorem x_store {Q : Unit → Shared → Prop} (X : K.In h) (hC : h.get? C = some (excClassObj nm q C N bs (.ref G :: vmB) true sn sub ab col none k0 k1 k2 k3 k5 "ValueError.__new__"))
  (hsa : PySem.W.findIn K (.ref C) "__setattr__" = some (some (.builtin "object.__setattr__"))) (hna : PySem.W.findIn K (.ref C) name = some none)
  (hx : h.get? x = some o) (hc : o.cls = .ref C) (hd : o.data = .fields vs) (hdn : o.dict = none)
  (hq : ∀ h' tk' dx, XSet h h' x o name v dx → Q () ⟨h', g, d, tk', os⟩) :
  wpAny (model prog w) A (setAttr (.ref x) name v) Q E ⟨h, g, d, t, os⟩ := by
 have SF := PySem.F.store_ValueError
 have u3 := SF.slot.bind (.ref x)
 unfold setAttr callSpecial? specialOf
 refine wpAny_bind (wpAny_mkText (wpAny_bind (wpAny_bind (wpAny_bind (wpAny_typeOf_ref hx ?_)))))
 rw [hc]
 refine (PySem.W.looks_findIn X hsa).at ?_
 refine wpAny_holding (wpAny_bind (wpAny_of_eq u3 (wpAny_bind (wpAny_call ?_))))
 have own : (Value.ref C :: .ref G :: vmB).contains (.type "object") = true := by
  rw [List.contains_cons, List.contains_cons, SF.hasOwner, Bool.or_true, Bool.or_true]
 refine codeAny_call_builtin SF.slot.plain SF.entry ?_
 simp only [checkBuiltinCall, SF.kind, SF.split]
 have ha := SF.args (.ref x) (.str name t) v
 show wpAny _ _ (isInstance (.ref x) (.type "object") >>= _) _ _ _
 refine wpAny_bind ?_
 unfold isInstance
 refine wpAny_bind (wpAny_typeOf_ref hx ?_)
 rw [hc]
 refine wpAny_isSubtype_exc hC ?_
 rw [own]
 have step : ∀ {Q' : Fin → Shared → Prop}, (∀ s', Q () s' → Q' (.done (.ret .none)) s') → wpAny (model prog w) A.in1 (Builtin.«object.__setattr__» ⟨[.ref x, .str name t, v], []⟩) Q' E ⟨h, g, d, t + 1, os⟩ := fun k =>
  x_store_entry X hC hna hx hc hd hdn fun h' tk' dx z => k _ (hq h' tk' dx z)
 show wpAny _ _ (match Manifest.signature? "object.__setattr__" with | some sig => Bind.checkArgs "object.__setattr__" sig { pos := [Value.ref x] ++ [Value.str name t, v] } | x => pure ()) _ _ _
 cases hsig : Manifest.signature? "object.__setattr__" with
 | none => exact wpAny_pure (step fun s' z => wpAny_pure (wpAny_pure z))
 | some sig =>
  simp only [argsOk, hsig] at ha
  have h2 : Bind.checkArgs "object.__setattr__" sig ⟨[.ref x, .str name t, v], []⟩ = pure () := ha
  show wpAny _ _ (Bind.checkArgs "object.__setattr__" sig ⟨[.ref x, .str name t, v], []⟩) _ _ _
  rw [h2]
  exact wpAny_pure (step fun s' z => wpAny_pure (wpAny_pure z))
end
end L2
namespace L2
open PySem PySem.Spec PyProof.Rows
open PySem.Builtin PySem.Builtin.ObjectAttr
section
variable {prog : Program} {w : World} {A : Around} {E : Value → Shared → Prop} {K : PySem.W.Frag} {h : Heap} {g : Array GenState} {d : Drawn} {t : Nat} {os : OsState}
variable {nm q : Str} {C G N x dx : Addr} {bs : List Value} {sn : List Str} {sub : List Value} {ab : Bool} {col : Option Bool} {k0 k1 k2 k3 k5 : Option Value} {name : Str} {v : Value} {o : Obj} {vs : Array Value} {mA : Str → Option Value}
theorem x_load_entry {tk : Tok} {Q : Fin → Shared → Prop} (X : K.In h) (hC : h.get? C = some (excClassObj nm q C N bs (.ref G :: vmB) true sn sub ab col none k0 k1 k2 k3 k5 "ValueError.__new__"))
  (hna : PySem.W.findIn K (.ref C) name = some none) (hx : h.get? x = some o) (hc : o.cls = .ref C) (hd : o.data = .fields vs) (hdx : o.dict = some dx) (hns : h.Ns dx mA) (hv : mA name = some v)
  (hq : Q (.done (.ret v)) ⟨h, g, d, t, os⟩) : wpAny (model prog w) A (Builtin.«object.__getattribute__» ⟨[.ref x, .str name tk], []⟩) Q E ⟨h, g, d, t, os⟩ := by
 unfold Builtin.«object.__getattribute__»
 repeat (first
  | (with_reducible refine wpAny_loadPart_at hx ?_; rw [hc])
  | (with_reducible refine (PySem.W.looks_findIn X hna).at ?_)
  | wp_step)
 rw [hd]
 show wpAny _ _ (instanceDict x false) _ _ _
 unfold instanceDict
 repeat (first
  | (with_reducible refine wpAny_loadPart_at hx ?_; rw [hc])
  | with_reducible refine wpAny_loadPart_at hC ?_
  | wp_step)
 rw [hdx]
 repeat (first
  | (with_reducible refine wpAny_nsGet hns ?_; rw [hv])
  | wp_step)
 exact hq
end
end L2
namespace L2
open PySem PySem.Spec PyProof.Rows
open PySem.Builtin PySem.Builtin.ObjectAttr
section
variable {prog : Program} {w : World} {A : Around} {E : Value → Shared → Prop} {K : PySem.W.Frag} {h : Heap} {g : Array GenState} {d : Drawn} {t : Nat} {os : OsState}
variable {nm q : Str} {C G N x dx : Addr} {bs : List Value} {sn : List Str} {sub : List Value} {ab : Bool} {col : Option Bool} {k0 k1 k2 k3 k5 : Option Value} {name : Str} {v : Value} {o : Obj} {vs : Array Value} {mA : Str → Option Value}
theorem x_cls_get {R : Result → Shared → Prop} (hC : h.get? C = some (excClassObj nm q C N bs (.ref G :: vmB) true sn sub ab col none k0 k1 k2 k3 k5 "ValueError.__new__")) (hx : h.get? x = some o) (hc : o.cls = .ref C)
  (hq : R (.ok (.ret (.ref C))) ⟨h, g, d, t, os⟩) : codeAny (model prog w) A (.call (.builtin "getset_descriptor.__get__") ⟨[.builtin "object.__class__", .ref x, .ref C], []⟩) R ⟨h, g, d, t, os⟩ := by
 have hT5 : (⟨h, g, d, t, os⟩ : Shared).TypeIs (.builtin "object.__class__") "getset_descriptor" := PySem.F.typeOf_object_class
 have own : (Value.ref C :: .ref G :: vmB).contains (.type (".".intercalate ("object.__class__".cutAt '.').dropLast)) = true := by
  rw [PySem.F.owner_object_class]
  rfl
 refine codeAny_call_builtin PySem.F.slot_gs_get.plain PySem.F.entry_gs_get ?_
 refine PySem.F.slot_gs_get.check _ _ _ _ _ _ _ _ hT5 (PySem.F.args_gs_get _ _ _) ?_
 repeat (any_goals (first
  | assumption
  | (with_reducible refine wpAny_loadPart_at hx ?_; rw [hc])
  | (with_reducible refine wpAny_isSubtype_exc hC ?_; rw [own])
  | wp_step))
 refine ⟨Code.quiet_builtin _ (by decide +kernel), codeAny_builtin PySem.F.entry_object_class ?_⟩
 repeat (any_goals (first
  | assumption
  | (with_reducible refine wpAny_loadPart_at hx ?_; rw [hc])
  | wp_step))
theorem x_cls_entry {tk : Tok} {Q : Fin → Shared → Prop} (X : K.In h) (hC : h.get? C = some (excClassObj nm q C N bs (.ref G :: vmB) true sn sub ab col none k0 k1 k2 k3 k5 "ValueError.__new__")) (hx : h.get? x = some o) (hc : o.cls = .ref C)
  (hcl : PySem.W.findIn K (.ref C) "__class__" = some (some (.builtin "object.__class__"))) (hq : Q (.done (.ret (.ref C))) ⟨h, g, d, t, os⟩) :
  wpAny (model prog w) A (Builtin.«object.__getattribute__» ⟨[.ref x, .str "__class__" tk], []⟩) Q E ⟨h, g, d, t, os⟩ := by
 have u5 := PySem.F.typeOf_object_class
 have u6 := PySem.F.slot_gs_get.lookup
 have u7 := PySem.F.slot_gs_set.lookup
 unfold Builtin.«object.__getattribute__»
 repeat (any_goals (first
  | assumption
  | (with_reducible refine wpAny_loadPart_at hx ?_; rw [hc])
  | (with_reducible refine (PySem.W.looks_findIn X hcl).at ?_)
  | wp_step))
 refine x_cls_get hC hx hc ?_
 repeat (any_goals (first
  | assumption
  | wp_step))
end
end L2
namespace L2
open PySem PySem.Spec PyProof.Rows
open PySem.Builtin PySem.Builtin.ObjectAttr
section
variable {prog : Program} {w : World} {A : Around} {E : Value → Shared → Prop} {K : PySem.W.Frag} {h : Heap} {g : Array GenState} {d : Drawn} {t : Nat} {os : OsState}
variable {nm q : Str} {C G N x dx : Addr} {bs : List Value} {sn : List Str} {sub : List Value} {ab : Bool} {col : Option Bool} {k0 k1 k2 k3 k5 : Option Value} {name : Str} {v : Value} {o : Obj} {vs : Array Value} {mA : Str → Option Value}
theorem x_by {fill expr : Bool} {tk : Tok} {Q : Value → Shared → Prop} (X : K.In h) (hC : h.get? C = some (excClassObj nm q C N bs (.ref G :: vmB) true sn sub ab col none k0 k1 k2 k3 k5 "ValueError.__new__"))
  (hga : PySem.W.findIn K (.ref C) "__getattribute__" = some (some (.builtin "BaseException.__getattribute__"))) (hgh : PySem.W.findIn K (.ref C) "__getattr__" = some none)
  (hx : h.get? x = some o) (hc : o.cls = .ref C) (hh : handedOut v = pure v)
  (step : ∀ {Q' : Fin → Shared → Prop} {E' : Value → Shared → Prop}, Q' (.done (.ret v)) ⟨h, g, d, t, os⟩ → wpAny (model prog w) A.in1 (Builtin.«object.__getattribute__» ⟨[.ref x, .str name tk], []⟩) Q' E' ⟨h, g, d, t, os⟩)
  (hq : Q v ⟨h, g, d, t, os⟩) : wpAny (model prog w) A (getAttrBy (.ref x) (.str name tk) fill expr) Q E ⟨h, g, d, t, os⟩ := by
 unfold getAttrBy
 refine wpAny_holding (wpAny_bind (wpAny_typeOf_ref hx ?_))
 rw [hc]
 refine wpAny_bind ((PySem.W.looks_findIn X hga).at ?_)
 have hx2 : (Value.builtin "BaseException.__getattribute__" == Value.builtin "object.__getattribute__") = false := by decide +kernel
 show wpAny _ _ (if (onTheHeap (.ref C) && (Value.builtin "BaseException.__getattribute__" == Value.builtin "object.__getattribute__")) = true then _ else _) _ _ _
 rw [hx2, Bool.and_false, if_neg (by decide)]
 unfold getAttrByItsOwn
 refine wpAny_bind ((PySem.W.looks_hook X (r := none) (by rw [if_pos (by rfl)]; exact hgh)).at ?_)
 refine wpAny_bind (wpAny_attempt ?_)
 unfold callGetattribute
 refine wpAny_holding ?_
 rw [if_neg (by cases expr <;> decide)]
 unfold boundAndCalled
 have FB := PySem.F.attrBase_ValueError
 have own : (Value.ref C :: .ref G :: vmB).contains (.type "BaseException") = true := by
  rw [List.contains_cons, List.contains_cons, FB.hasBase, Bool.or_true, Bool.or_true]
 have ha := PySem.F.args_bexc_ga (.ref x) (.str name tk)
 have hk : builtinKind "BaseException.__getattribute__" = some .slot := by decide +kernel
 have hsp : splitId "BaseException.__getattribute__" = some ("BaseException", "__getattribute__") := by decide +kernel
 refine wpAny_bind (wpAny_of_eq (FB.ga.bind (.ref x)) ?_)
 refine wpAny_call (codeAny_call_builtin FB.ga.plain PySem.F.entry_bexc_ga ?_)
 simp only [checkBuiltinCall, hk, hsp]
 show wpAny _ _ (isInstance (.ref x) (.type "BaseException") >>= _) _ _ _
 refine wpAny_bind ?_
 unfold isInstance
 refine wpAny_bind (wpAny_typeOf_ref hx ?_)
 rw [hc]
 refine wpAny_isSubtype_exc hC ?_
 rw [own]
 have done : wpAny (model prog w) A (handedOut v) Q E ⟨h, g, d, t, os⟩ := by rw [hh]; exact wpAny_pure hq
 show wpAny _ _ (match Manifest.signature? "BaseException.__getattribute__" with | some sig => Bind.checkArgs "BaseException.__getattribute__" sig { pos := [Value.ref x] ++ [Value.str name tk] } | x => pure ()) _ _ _
 cases hsig : Manifest.signature? "BaseException.__getattribute__" with
 | none => exact wpAny_pure (step done)
 | some sig =>
  simp only [argsOk, hsig] at ha
  have h2 : Bind.checkArgs "BaseException.__getattribute__" sig ⟨[.ref x, .str name tk], []⟩ = pure () := ha
  show wpAny _ _ (Bind.checkArgs "BaseException.__getattribute__" sig ⟨[.ref x, .str name tk], []⟩) _ _ _
  rw [h2]
  exact wpAny_pure (step done)
theorem x_class {Q : Option Value → Shared → Prop} (X : K.In h) (hC : h.get? C = some (excClassObj nm q C N bs (.ref G :: vmB) true sn sub ab col none k0 k1 k2 k3 k5 "ValueError.__new__"))
  (hga : PySem.W.findIn K (.ref C) "__getattribute__" = some (some (.builtin "BaseException.__getattribute__"))) (hgh : PySem.W.findIn K (.ref C) "__getattr__" = some none)
  (hcl : PySem.W.findIn K (.ref C) "__class__" = some (some (.builtin "object.__class__"))) (hx : h.get? x = some o) (hc : o.cls = .ref C) (hq : Q (some (.ref C)) ⟨h, g, d, t + 1, os⟩) :
  wpAny (model prog w) A (getAttr? (.ref x) "__class__") Q E ⟨h, g, d, t, os⟩ := by
 unfold getAttr? getAttrBy?
 refine wpAny_bind (wpAny_mkText (wpAny_bind (wpAny_attempt ?_)))
 exact x_by X hC hga hgh hx hc rfl (fun k => x_cls_entry X hC hx hc hcl k) (wpAny_pure hq)
structure XC (K : PySem.W.Frag) (C G : Addr) : Prop where
 obj : ∃ nm q N bs sn sub ab col k0 k1 k2 k3 k5, K.lookup C = some (excClassObj nm q C N bs (.ref G :: vmB) true sn sub ab col none k0 k1 k2 k3 k5 "ValueError.__new__")
 ga : PySem.W.findIn K (.ref C) "__getattribute__" = some (some (.builtin "BaseException.__getattribute__"))
 gh : PySem.W.findIn K (.ref C) "__getattr__" = some none
 sa : PySem.W.findIn K (.ref C) "__setattr__" = some (some (.builtin "object.__setattr__"))
 cl : PySem.W.findIn K (.ref C) "__class__" = some (some (.builtin "object.__class__"))
theorem kitx_exc {dd : Option Addr} {new : Bool} (c : XC K C G) : PySem.W.KitX K (.ref x) (.ref C) (XAt x C dd new) where
 ty := fun M h X p => by
  obtain ⟨o, vs, h1, h2, _⟩ := p
  exact h2 ▸ (PySem.W.Looks.ld h1).andThen .now
 it := fun M h X p => by
  obtain ⟨nm, q, N, bs, sn, sub, ab, col, k0, k1, k2, k3, k5, e⟩ := c.obj
  intro A' Q' E' s' k q
  unfold isType loadHead
  exact wpAny_bind (wpAny_loadPart (k _ _ (X _ _ e)) (wpAny_pure q))
 ne := fun h tp dd its n sl X htp => by
  obtain ⟨nm, q, N, bs, sn, sub, ab, col, k0, k1, k2, k3, k5, e⟩ := c.obj
  refine Bool.eq_false_iff.mpr fun z => ?_
  have e2 : C = tp := Value.ref.inj (beq_iff_eq.mp z)
  subst e2
  have e3 := congrArg Obj.data (Option.some.inj ((X _ _ e).symm.trans htp))
  cases e3
 ca := fun {prog w A E Q s} X p k => by
  obtain ⟨h, g, d, t, os⟩ := s
  obtain ⟨o, vs, h1, h2, _⟩ := p
  obtain ⟨nm, q, N, bs, sn, sub, ab, col, k0, k1, k2, k3, k5, e⟩ := c.obj
  exact x_class X (X _ _ e) c.ga c.gh c.cl h1 h2 k
end
end L2
namespace L2
open PySem PySem.Spec PyProof.Rows
theorem handed_eq {v : V} {u : Value} (r : RelV v u) : handedOut u = pure u := by
 cases v with
 | non => cases (show u = Value.none from r); rfl
 | bl b => cases (show u = Value.bool b from r); rfl
 | int i => obtain ⟨t, e⟩ := (show ∃ t, u = Value.int i t from r); subst e; rfl
 | str x => obtain ⟨t, e⟩ := (show ∃ t, u = Value.str x t from r); subst e; rfl
 | flt x => obtain ⟨t, e⟩ := (show ∃ t, u = Value.float x t from r); subst e; rfl
 | ty n => cases (show u = Value.type n from r); rfl
 | byt b => obtain ⟨t, e⟩ := (show ∃ t, u = Value.bytes b t from r); subst e; rfl
 | ref a => cases (show u = Value.ref a from r); rfl
theorem XAt.ok {P : Program} {w : World} {H : Hp} {h : Heap} {x C : Addr} {dd : Option Addr} {new : Bool} (p : XAt x C dd new h) : ObjOk P w H h x (.ext (XAt x C dd new)) := by
 obtain ⟨o, vs, h1, h2, h3, h4⟩ := id p
 exact ⟨p, ⟨o, h1⟩, fun g1 g2 ⟨o', vs', a1, a2⟩ k => ⟨o', vs', k _ a1, a2⟩⟩
section
variable {X : Cx} {pins : List (Addr × Obj)} {σ : St} {H : Hp} {s : Shared} {a dx C G : Addr} {f : Str} {v : V} {fs : List (Str × V)} {A : Around} {E : Value → Shared → Prop}
theorem getX {b new : Bool} {Q : Value → Shared → Prop} (I : Inv X pins σ H s) (ea : H a = some (.ext (XAt a C (some dx) new))) (ed : H dx = some (.xd fs)) (c : XC X.K C G) (n : PySem.W.findIn X.K (.ref C) f = some none) (l : fs.lookup f = some v)
  (h : ∀ u s', Inv X pins σ H s' → RelV v u → Q u s') : wpAny (model X.prog X.w) A (getAttr (.ref a) f b) Q E s := by
 obtain ⟨⟨o, vs, h1, h2, h3, h4, h5⟩, _, _⟩ := (show ObjOk X.prog X.w H s.heap a (.ext (XAt a C (some dx) new)) from I.hok a _ ea)
 obtain ⟨mA, hns, r⟩ := (show ObjOk X.prog X.w H s.heap dx (.xd fs) from I.hok dx _ ed)
 obtain ⟨u, hu, ru⟩ := RelO.some_of (v := v) (o := mA f) (by rw [← l]; exact r f)
 obtain ⟨nm, q, N, bs, sn, sub, ab, col, k0, k1, k2, k3, k5, e⟩ := c.obj
 have I2 := I.tok (s.toks + 1)
 have X2 := I.kIn
 obtain ⟨hh, g, d, t, os⟩ := s
 unfold getAttr
 refine wpAny_bind (wpAny_mkText ?_)
 exact x_by X2 (X2 _ _ e) c.ga c.gh h1 h2 (handed_eq ru) (fun k => x_load_entry X2 (X2 _ _ e) n h1 h2 h4 h3 hns.ns hu k) (h u _ I2 ru)
theorem Un.setX {h h' : Heap} {fs ex : List Addr} {o : HO} {o2 : HO} (mu : Mut (H a)) (hx : H dx = none) (hd : h.get? dx = none) (k : ∀ b ob, b ≠ a → h.get? b = some ob → h'.get? b = some ob) (ha : ∃ o, h'.get? a = some o) : Un fs ex H (upd (upd H dx o) a o2) h h' := by
 have na : ∀ b, H b = none → b ≠ a := fun b n z => by subst z; rw [n] at mu; exact mu
 have nd : ∀ b ob, h.get? b = some ob → b ≠ dx := fun b ob e z => by rw [z, hd] at e; cases e
 have hm : ∀ b u, H b = some u → ¬ Mut (some u) → b ≠ a ∧ b ≠ dx := fun b u q nm => ⟨fun z => by subst z; rw [q] at mu; exact nm mu, fun z => by subst z; rw [hx] at q; cases q⟩
 refine ⟨fun b u q n _ _ => k b u (na b n) q, fun b u q n _ _ => ⟨u.slots, k b u (na b n) q⟩, fun b u q n _ => by rw [upd_ne (na b n), upd_ne (nd b u q)]; exact n, fun b u q _ => ?_,
  fun b xs q => by rw [upd_ne (hm b _ q fun z => z).1, upd_ne (hm b _ q fun z => z).2]; exact q, fun b u xs q => by rw [upd_ne (hm b _ q fun z => z).1, upd_ne (hm b _ q fun z => z).2]; exact q,
  fun b ps q => ⟨#[], by rw [upd_ne (hm b _ q fun z => z).1, upd_ne (hm b _ q fun z => z).2, q]; simp⟩⟩
 by_cases hb : b = a
 ·subst hb; exact ha
 ·exact ⟨u, k b u hb q⟩
theorem setX {new : Bool} {y : V} {u : Value} {Q : Unit → Shared → Prop} (I : Inv X pins σ H s) (ea : H a = some (.ext (XAt a C none new))) (c : XC X.K C G) (n : PySem.W.findIn X.K (.ref C) f = some none) (ry : RelV y u)
  (h : ∀ dx s', H dx = none → Inv X pins σ (upd (upd H dx (.xd [(f, y)])) a (.ext (XAt a C (some dx) new))) s' → Q () s') : wpAny (model X.prog X.w) A (setAttr (.ref a) f u) Q E s := by
 obtain ⟨⟨o, vs, h1, h2, h3, h4, h5⟩, _, _⟩ := (show ObjOk X.prog X.w H s.heap a (.ext (XAt a C none new)) from I.hok a _ ea)
 obtain ⟨nm, q, N, bs, sn, sub, ab, col, k0, k1, k2, k3, k5, e⟩ := c.obj
 have X2 := I.kIn
 obtain ⟨hh, g, d, t, os⟩ := s
 refine x_store X2 (X2 _ _ e) c.sa n h1 h2 h4 h3 fun h' tk' dx z => ?_
 obtain ⟨z1, z2, z3, z4, z5⟩ := z
 have hdx : H dx = none := I.hok.fresh z2
 have hg0 : hh.get? dx = none := Heap.get?_none_of_le z2
 have hne : dx ≠ a := z3
 have mu : Mut (H a) := by rw [ea]; exact True.intro
 refine h dx _ hdx (I.un (t' := tk') (Un.setX mu hdx hg0 z5 ⟨_, z1⟩) fun b ob eb => ?_)
 by_cases hb : b = a
 ·subst hb
  rw [upd_same] at eb
  cases eb
  exact XAt.ok ⟨_, vs, z1, h2, rfl, h4, h5⟩
 ·rw [upd_ne hb] at eb
  by_cases hb2 : b = dx
  ·subst hb2
   rw [upd_same] at eb
   cases eb
   refine ⟨_, z4, fun y' => ?_⟩
   show RelO (List.lookup y' [(f, y)]) _
   by_cases q : y' = f
   ·subst q
    rw [if_pos rfl]
    have e1 : List.lookup y' [(y', y)] = some y := by simp [List.lookup]
    rw [e1]; exact ry
   ·rw [if_neg q]
    have : (y' == f) = false := beq_eq_false_iff_ne.mpr q
    simp [List.lookup, this, RelO]
  ·rw [upd_ne hb2] at eb
   refine (I.hok b ob eb).stay (fun c w hc e => ?_) (fun c e => ?_) fun c xs e => ?_
   ·refine z5 c w ?_ e
    rintro rfl
    rcases hc with hc | hc
    ·exact hb hc.symm
    ·rw [ea] at hc; cases hc
   ·rw [upd_ne, upd_ne]
    ·exact e
    ·rintro rfl; rw [hdx] at e; cases e
    ·rintro rfl; rw [ea] at e; cases e
   ·rw [upd_ne, upd_ne]
    ·exact e
    ·rintro rfl; rw [hdx] at e; cases e
    ·rintro rfl; rw [ea] at e; cases e
end
section
variable {X : Cx} {o e value : Expr} {f : Str} {pos pos' : Pos} {ta tv : TE}
def tFldX (K : PySem.W.Frag) (ta : TE) (f : Str) : TE := fun σ H Q => ta σ H fun x H1 => ∃ a C G dx new fs v, x = .ref a ∧ H1 a = some (.ext (XAt a C (some dx) new)) ∧ H1 dx = some (.xd fs) ∧ XC K C G ∧ PySem.W.findIn K (.ref C) f = some none ∧ fs.lookup f = some v ∧ Q v H1
theorem pe_fldX (he : PE X e ta) (hb : attributeBase e f X.env (eval e X.env) = eval e X.env) : PE X (.Attribute e f pos) (tFldX X.K ta f) := by
 intro pins s σ H Q I h
 refine attr_of hb (thn (he pins s σ H _ I h) fun u s1 ⟨x, H1, I1, rx, a, C, G, dx, new, fs, v, ex, ea, ed, c, n, l, q⟩ => ?_)
 subst ex
 obtain rfl : u = Value.ref a := rx
 exact getX I1 ea ed c n l fun u' s2 I2 ru => ⟨v, H1, I2, ru, q⟩
def sFldX (K : PySem.W.Frag) (ta tv : TE) (f : Str) : TS := fun D σ H => tv σ H fun y H1 => ta σ H1 fun x H2 => ∃ a C G new, x = .ref a ∧ H2 a = some (.ext (XAt a C none new)) ∧ XC K C G ∧ PySem.W.findIn K (.ref C) f = some none ∧
 ∀ dx, H2 dx = none → D.nx σ (upd (upd H2 dx (.xd [(f, y)])) a (.ext (XAt a C (some dx) new)))
theorem ps_fldX (ha : PE X o ta) (hv : PE X value tv) (hs : swapsWith value (some (.Attribute o f pos')) pos.line X.env = pure false) : PS X (.Assign [.Attribute o f pos'] value pos) (sFldX X.K ta tv f) := by
 intro pins s σ H D I h
 refine plainObj_wpAny_Assign_Attribute (thn (hv pins s σ H _ I h) fun u s1 ⟨y, H1, I1, ry, q⟩ => thn (ha pins s1 σ H1 _ I1 q) fun ov s2 ⟨x, H2, I2, rx, a, C, G, new, ex, ea, c, n, q2⟩ => ?_) hs
 subst ex
 obtain rfl : ov = Value.ref a := rx
 exact setX I2 ea c n ry fun dx s3 hdx I3 => ⟨σ, _, I3, q2 dx hdx⟩
end
end L2
namespace L2
open PySem PySem.Spec PyProof.Rows
theorem ObjOk.there {P : Program} {w : World} {H : Hp} {h : Heap} {a : Addr} {o : HO} (x : ObjOk P w H h a o) : ∃ ob, h.get? a = some ob := by
 cases o with
 | lst xs => obtain ⟨_, _, _, _, e⟩ := x; exact ⟨_, e⟩
 | tup xs => obtain ⟨_, _, _, ob, e, _⟩ := x; exact ⟨ob, e⟩
 | dK kvs => obtain ⟨_, _, _, _, o, _, _, e, _⟩ := x; exact ⟨o, e⟩
 | dT kvs => obtain ⟨_, _, _, _, o, _, _, e, _⟩ := x; exact ⟨o, e⟩
 | set S n => obtain ⟨o, _, _, _, e, _⟩ := x; exact ⟨o, e⟩
 | ins C dx fs => obtain ⟨_, _, _, e, _⟩ := x; exact ⟨_, e⟩
 | own y => exact x
 | xd fs => obtain ⟨_, ⟨o, _, _, e, _⟩, _⟩ := x; exact ⟨o, e⟩
 | rng lo hi => obtain ⟨_, _, _, e⟩ := x; exact ⟨_, e⟩
 | frz ob u => obtain ⟨e, _⟩ := x; exact ⟨ob, e⟩
 | tbl ps => exact ⟨_, (show h.get? a = some _ from x)⟩
 | met f y => exact ⟨_, (show h.get? a = some _ from x)⟩
 | ext φ => exact x.2.1
theorem HOk.not {P : Program} {w : World} {H : Hp} {h : Heap} {a : Addr} (x : HOk P w H h) (e : h.get? a = none) : H a = none := by
 cases q : H a with
 | none => rfl
 | some u => obtain ⟨ob, e2⟩ := (x a u q).there; rw [e] at e2; cases e2
section
variable {X : Cx} {pins : List (Addr × Obj)} {σ : St} {H : Hp} {s : Shared} {h' : Heap} {a : Addr} {o : HO}
theorem Inv.news {t' : Nat} (I : Inv X pins σ H s) (k : ∀ b u, s.heap.get? b = some u → h'.get? b = some u) (hn : s.heap.get? a = none) (new : ObjOk X.prog X.w (upd H a o) h' a o) : Inv X pins σ (upd H a o) { s with heap := h', toks := t' } := by
 have ha := I.hok.not hn
 refine I.un ⟨fun b u q _ _ _ => k b u q, fun b u q _ _ _ => ⟨u.slots, k b u q⟩, fun b u q n _ => ?_, fun b u q _ => ⟨u, k b u q⟩, fun b xs q => ?_, fun b u xs q => ?_, fun b ps q => ⟨#[], ?_⟩⟩ fun b u q => ?_
 ·rw [upd_ne (fun z => by rw [z, hn] at q; cases q)]; exact n
 ·rw [upd_ne (ne_of_none q ha)]; exact q
 ·rw [upd_ne (ne_of_none q ha)]; exact q
 ·rw [upd_ne (ne_of_none q ha), q]; simp
 ·by_cases hb : b = a
  ·subst hb; rw [upd_same] at q; cases q; exact new
  ·rw [upd_ne hb] at q
   exact (I.hok b u q).stay (fun c v _ e => k c v e) (fun c e => by rw [upd_ne (ne_of_none e ha)]; exact e) fun c xs e => by rw [upd_ne (ne_of_none e ha)]; exact e
end
structure XM (K : PySem.W.Frag) (C G fI : Addr) : Prop where
 c : XC K C G
 tail : ∀ h : Heap, K.In h → OwnTail h vmB (.ref G :: vmB)
 init : PySem.W.findIn K (.ref C) "__init__" = some (some (.ref fI))
 fn : PySem.W.typeIn K (.ref fI) = some (.type "function")
 kp : PySem.W.keepIn K (.ref C) = true
def spInit (K : PySem.W.Frag) (f : Str) : Sp := fun vs H Q _ => ∃ a C G new v, vs = [.ref a, v] ∧ H a = some (.ext (XAt a C none new)) ∧ XC K C G ∧ PySem.W.findIn K (.ref C) f = some none ∧ ∀ dx, H dx = none → Q .non (upd (upd H dx (.xd [(f, v)])) a (.ext (XAt a C (some dx) new)))
structure CalX (P : Program) (w : World) (K : PySem.W.Frag) (mg : Str → Option Value) (base : Heap) (k : Nat) (C : Addr) (x f : Str) : Prop where
 ex : ∃ (G fI : Addr) (fd : FuncData) (ps : List Str), FnOk P w K mg base CX0 k fI fd ps (spInit K f) ∧ Binds K fd ps [] ∧ XM K C G fI ∧ PySem.W.findIn K (.ref C) f = some none ∧ mg x = some (.ref C)
def tExc1 (C : Addr) (f : Str) (t : TA) : TE := fun σ H Q => t σ H fun vs H1 => ∃ v, vs = [v] ∧ ∀ e dx, H1 e = none → H1 dx = none → dx ≠ e → Q (.ref e) (upd (upd H1 dx (.xd [(f, v)])) e (.ext (XAt e C (some dx) true)))
section
variable {X : Cx} {k : Nat} {C : Addr} {x f : Str} {p pos : Pos} {e : Expr} {es : List Expr} {t : TA}
theorem run_exc1 {pins : List (Addr × Obj)} {σ : St} {H : Hp} {s : Shared} {Q : VK} {u : Value} {v : V} (M : CalX X.prog X.w X.K X.mg X.base k C x f) (hr : Room (k + 1) X.A) (I : Inv X pins σ H s) (r : RelV v u)
  (h : ∀ e dx, H e = none → H dx = none → dx ≠ e → Q (.ref e) (upd (upd H dx (.xd [(f, v)])) e (.ext (XAt e C (some dx) true)))) : wpAny (model X.prog X.w) X.A (call (.ref C) [u]) (EP X pins σ Q) X.xe s := by
 obtain ⟨G, fI, fd, ps, F, hb, m, na, hm⟩ := M.ex
 obtain ⟨nm, q, N, bs, sn, sub, ab, col, k0, k1, k2, k3, k5, ob⟩ := m.c.obj
 have X2 := I.kIn
 have I0 := I
 have hz : s.heap.get? (s.heap.objs.size + 1) = none := Heap.get?_none_of_le (Nat.le_succ _)
 have he0 := I.hok.not hz
 obtain ⟨hh, g, d, tk, os⟩ := s
 refine x_call1 X2 (X2 _ _ ob) (m.tail hh X2) m.init m.fn (by show 1 ≤ sizeLine; decide) fun h' made => ?_
 obtain ⟨tt, m1, m2, m3⟩ := made.there
 have new : XAt (hh.objs.size + 1) C none true h' := ⟨_, _, m1, rfl, rfl, rfl, (by show 1 < 6; decide), fun _ => rfl⟩
 have I2 : Inv X pins σ (upd H (hh.objs.size + 1) (.ext (XAt (hh.objs.size + 1) C none true))) { heap := h', gens := g, drawn := d, toks := tk, os := os } := I0.news (t' := tk) made.keeps hz new.ok
 have hsp : spInit X.K f [V.ref (hh.objs.size + 1), v] (upd H (hh.objs.size + 1) (.ext (XAt (hh.objs.size + 1) C none true))) (fun y H2 => y = .non ∧ Q (.ref (hh.objs.size + 1)) H2) E0 := by
  refine ⟨_, C, G, true, v, rfl, upd_same, m.c, na, fun dx hdx => ⟨rfl, ?_⟩⟩
  have hne : dx ≠ hh.objs.size + 1 := fun z => by rw [z, upd_same] at hdx; cases hdx
  rw [upd_ne hne] at hdx
  have e1 : upd (upd (upd H (hh.objs.size + 1) (.ext (XAt (hh.objs.size + 1) C none true))) dx (.xd [(f, v)])) (hh.objs.size + 1) (.ext (XAt (hh.objs.size + 1) C (some dx) true)) = upd (upd H dx (.xd [(f, v)])) (hh.objs.size + 1) (.ext (XAt (hh.objs.size + 1) C (some dx) true)) := by
   funext b
   unfold upd
   by_cases z : b = hh.objs.size + 1
   ·rw [if_pos z, if_pos z]
   ·rw [if_neg z, if_neg z, if_neg z]
  rw [e1]
  exact h _ dx he0 hdx hne
 have hl : [Value.ref (hh.objs.size + 1), u].length = ps.length := (F.len _ _ _ E0 hsp).symm ▸ rfl
 refine wpAny_call (codeAny_mono (F.run _ X.stack _ _ ⟨[Value.ref (hh.objs.size + 1), u], []⟩ [Value.ref (hh.objs.size + 1), u] [V.ref (hh.objs.size + 1), v] _ E0 (hr.make C [u] []) (I2.env0.make C [u] []) (hb _ [Value.ref (hh.objs.size + 1), u] I2.kIn (by rw [List.append_nil]; exact hl)) (.cons rfl (.cons r .nil)) hsp) fun r s' hq => ?_)
 cases r with
 | error e => exact hq.elim
 | ok fl =>
  cases fl with
  | ret w =>
   obtain ⟨y, H', I3, rv, ev, q3⟩ := I2.after hq
   subst ev
   exact ⟨rv, V.ref (hh.objs.size + 1), H', I3, rfl, q3⟩
  | next => exact False.elim hq
  | brk => exact False.elim hq
  | cont => exact False.elim hq
theorem pe_exc1 (M : CalX X.prog X.w X.K X.mg X.base k C x f) (hr : Room (k + 1) X.A) (ha : PA X (e :: es) t) (hg : Gl X x := by rfl) (hdb : (x == ("__debug__" : Str)) = false := by decide) (hn : nSt e = true := by rfl) (hp : es.all nSt = true := by rfl) :
  PE X (.Call (.Name x p) (e :: es) [] pos) (tExc1 C f t) := by
 intro pins s σ H Q I h
 obtain ⟨G, fI, fd, ps, F, hb, m, na, hm⟩ := id M.ex
 refine wpAny_Call_Name_kw (ld_glob I hg hm ?_ hdb)
 refine PySem.W.callWith_K (h₀ := X.base) I.ok.mod.kin m.kp (thn (ha pos pins s σ H _ I h) fun us s1 ⟨vs, H1, I1, r, q⟩ => ⟨I1.kIn, ?_⟩) (star_of hn) (plain_of hp)
 obtain ⟨v, rfl, q⟩ := q
 cases r with
 | cons r rr =>
  cases rr
  exact run_exc1 M hr I1 r q
end
end L2
namespace L2
open PySem PySem.Spec PyProof.Rows
def X0 (K : PySem.W.Frag) (C : Addr) : Prop := ∀ h : Heap, K.In h → ∃ bm N nm q bs hd sn sub ab col dd k0 k1 k2 k3 k5 mN,
 h.get? C = some (excClassObj nm q C N bs bm hd sn sub ab col dd k0 k1 k2 k3 k5 "ValueError.__new__") ∧ h.Ns N mN ∧ mN "__init__" = none ∧ OwnTail h vmB bm
theorem x0_of {K : PySem.W.Frag} {C : Addr} (q : PySem.W.excIn K C vmB "ValueError.__new__" = true) : X0 K C := fun h X => by
 unfold PySem.W.excIn at q
 split at q
 case h_2 => cases q
 case h_1 dd cd sl ho =>
  split at q
  case h_2 => cases q
  case h_1 C' bm k0 k1 k2 k3 n k5 hm hs =>
   simp only [Bool.and_eq_true, beq_iff_eq, Bool.not_eq_true'] at q
   obtain ⟨⟨⟨⟨⟨e1, e2⟩, hdel⟩, ht⟩, hok⟩, hni⟩ := q
   subst e1 e2
   cases cd with
   | mk nm bs mro ns qn hd sn sub ab col del =>
    cases sl with
    | mk l =>
     have hs : l = [k0, k1, k2, k3, some (.builtin "ValueError.__new__"), k5] := hs
     have hm : mro = .ref C' :: bm := hm
     have hdel : del = false := hdel
     subst hs hm hdel
     refine ⟨bm, ns, nm, qn, bs, hd, sn, sub, ab, col, dd, k0, k1, k2, k3, k5, _, X _ _ ho, .of_isNs (PySem.W.isNs_of_in X hok), PySem.W.nsMap_none_of_in X hok hni, PySem.W.tail_of_in X ht⟩
theorem tail_of {K : PySem.W.Frag} {G : Addr} (q : PySem.W.excIn K G vmB "ValueError.__new__" = true) (hg : ∃ nm q N bs sn sub ab col k0 k1 k2 k3 k5, K.lookup G = some (excClassObj nm q G N bs vmB true sn sub ab col none k0 k1 k2 k3 k5 "ValueError.__new__")) :
  ∀ h : Heap, K.In h → OwnTail h vmB (.ref G :: vmB) := fun h X => by
 obtain ⟨bm, N, nm, qn, bs, hd, sn, sub, ab, col, dd, k0, k1, k2, k3, k5, mN, h1, h2, h3, _⟩ := x0_of q h X
 exact .own h1 h2 h3 .base
section
variable {X : Cx} {C : Addr} {x : Str} {p pos : Pos}
def rIsX (K : PySem.W.Frag) (D : Addr) : List V → Hp → VK → Prop := fun xs H Q => ∃ a C G dd new b, xs = [.ref a, .ref D] ∧ H a = some (.ext (XAt a C dd new)) ∧ XC K C G ∧ PySem.W.kitOne K (.ref C) (.ref D) = some b ∧ Q (.bl b) H
theorem call_isX {D : Addr} : CallR X (.builtin "isinstance") (rIsX X.K D) := by
 intro pins s σ H xs us Q I r h
 obtain ⟨a, C, G, dd, new, b, rfl, ea, c, e, q⟩ := h
 obtain ⟨u, w', rfl, rx, ry⟩ := vals2 r
 cases (show u = Value.ref a from rx)
 cases (show w' = Value.ref D from ry)
 have ok := (show ObjOk X.prog X.w H s.heap a (.ext (XAt a C dd new)) from I.hok a _ ea)
 exact PySem.W.kia_one (kitx_exc c) I.kIn ok.1 e (fun z => nomatch z) fun tk => ⟨.bl b, H, I.tok _, rfl, q⟩
def rIsXT (K : PySem.W.Frag) : List V → Hp → VK → Prop := fun xs H Q => ∃ a C G dd new n b, xs = [.ref a, .ty n] ∧ H a = some (.ext (XAt a C dd new)) ∧ XC K C G ∧ PySem.W.kitOne K (.ref C) (.type n) = some b ∧ Q (.bl b) H
theorem call_isXT : CallR X (.builtin "isinstance") (rIsXT X.K) := by
 intro pins s σ H xs us Q I r h
 obtain ⟨a, C, G, dd, new, n, b, rfl, ea, c, e, q⟩ := h
 obtain ⟨u, w', rfl, rx, ry⟩ := vals2 r
 cases (show u = Value.ref a from rx)
 cases (show w' = Value.type n from ry)
 have ok := (show ObjOk X.prog X.w H s.heap a (.ext (XAt a C dd new)) from I.hok a _ ea)
 exact PySem.W.kia_one (kitx_exc c) I.kIn ok.1 e (fun z => nomatch z) fun tk => ⟨.bl b, H, I.tok _, rfl, q⟩
end
end L2
namespace L2
open PySem PySem.Spec PyProof.Rows
def XCl (K : PySem.W.Frag) (c : Str) : Prop := ∃ dd cd sl, K.lookup (clsOf K c) = some ⟨.type "type", dd, .cls cd, sl⟩ ∧ cd.name = c
structure XAll (K : PySem.W.Frag) (cs : List Str) : Prop where
 g : XCl K "GlueError"
 n : ∀ c ∈ cs, XCl K c
 c : ∀ c ∈ cs, XC K (clsOf K c) (clsOf K "GlueError")
section
variable {K : PySem.W.Frag} {C G D : Addr} {c d : Str}
theorem XCl.ne (h1 : XCl K c) (h2 : XCl K d) (n : c ≠ d) : clsOf K c ≠ clsOf K d := fun e => by
 obtain ⟨_, cd, _, l1, n1⟩ := h1
 obtain ⟨_, cd2, _, l2, n2⟩ := h2
 rw [e, l2] at l1
 cases l1
 exact n (n1.symm.trans n2)
theorem kit_sub (x : XC K C G) (base : Value) : PySem.W.subIn K (.ref C) base = some ((Value.ref C :: .ref G :: vmB).contains base) := by
 obtain ⟨nm, q, N, bs, sn, sub, ab, col, k0, k1, k2, k3, k5, e⟩ := x.obj
 show PySem.W.mroIn K C base = _
 unfold PySem.W.mroIn PySem.W.clsIn
 rw [e]
 rfl
theorem kit_own (x : XC K C G) (y : ∃ dd cd sl, K.lookup D = some ⟨.type "type", dd, .cls cd, sl⟩) : PySem.W.kitOne K (.ref C) (.ref D) = some (decide (C = D) || decide (D = G)) := by
 obtain ⟨dd, cd, sl, e⟩ := y
 unfold PySem.W.kitOne
 by_cases h : C = D
 ·subst h; simp
 ·rw [if_neg (fun z => h (Value.ref.inj (beq_iff_eq.mp z)))]
  unfold PySem.W.kitCls
  have e1 : ((PySem.W.clsIn K D).isSome && PySem.W.typeIn K (.ref D) == some (.type "type")) = true := by
   have e2 : PySem.W.clsIn K D = some cd := by unfold PySem.W.clsIn; rw [e]
   have e3 : PySem.W.typeIn K (.ref D) = some (.type "type") := by show (K.lookup D).map (·.cls) = _; rw [e]; rfl
   rw [e2, e3]
   rfl
  show (if ((PySem.W.clsIn K D).isSome && PySem.W.typeIn K (.ref D) == some (.type "type")) = true then PySem.W.subIn K (.ref C) (.ref D) else none) = _
  rw [if_pos e1, kit_sub x, decide_eq_false h, Bool.false_or]
  congr 1
  rw [List.contains_cons, List.contains_cons]
  have t1 : (Value.ref D == Value.ref C) = false := beq_eq_false_iff_ne.mpr fun z => h (Value.ref.inj z).symm
  have t2 : vmB.contains (Value.ref D) = false := rfl
  rw [t1, t2, Bool.false_or, Bool.or_false]
  by_cases g : D = G
  ·subst g; simp
  ·rw [decide_eq_false g]; exact beq_eq_false_iff_ne.mpr fun z => g (Value.ref.inj z)
theorem kit_val (x : XC K C G) : PySem.W.kitOne K (.ref C) (.type "ValueError") = some true := by
 unfold PySem.W.kitOne
 rw [if_neg (by intro z; cases beq_iff_eq.mp z)]
 unfold PySem.W.kitCls
 show (if PySem.W.kitMeta "ValueError" = true then PySem.W.subIn K (.ref C) (.type "ValueError") else none) = _
 rw [if_pos (by decide +kernel), kit_sub x]
 rfl
end
def isaX (c d : Str) : Bool := decide (c = d) || decide (d = "GlueError")
theorem kit_isa {K : PySem.W.Frag} {cs : List Str} (X : XAll K cs) {c d : Str} (hc : c ∈ cs) (hd : d ∈ cs ∨ d = "GlueError") : PySem.W.kitOne K (.ref (clsOf K c)) (.ref (clsOf K d)) = some (isaX c d) := by
 have yd : XCl K d := hd.elim (X.n d) fun e => by rw [e]; exact X.g
 obtain ⟨dd, cd, sl, e1, e2⟩ := id yd
 rw [kit_own (X.c c hc) ⟨dd, cd, sl, e1⟩]
 unfold isaX
 congr 2
 ·by_cases h : c = d
  ·subst h; rw [decide_eq_true rfl, decide_eq_true rfl]
  ·rw [decide_eq_false h, decide_eq_false ((X.n c hc).ne yd h)]
 ·by_cases h : d = "GlueError"
  ·subst h; rw [decide_eq_true rfl, decide_eq_true rfl]
  ·rw [decide_eq_false h, decide_eq_false (yd.ne X.g h)]
section
variable {K : PySem.W.Frag} {ta : TA} {te : TE} {pa : PTA} {pe : PA1} {cs : List Str}
theorem FVc.exc {O : Addr → Prop} {H : Hp} {v : V} {c : Str} {ns : List Str} {ds : List D} (h : FVc K O H v (.exc c ns ds)) : FV K O H v (.exc c ns ds) := h.fv nofun nofun
def pExc1 (c f : Str) (pa : PTA) : PTE := fun ρ Q => pa ρ fun as ρ1 => match avD as with
 | some [d] => Q (.dat (.exc c [f] [d])) ρ1
 | _ => False
def pFldX (cs : List Str) (ats : List (Str × Str)) (f : Str) (pa : PA1) : PTE := fun ρ Q => pa ρ fun x ρ1 => match cont ρ1 x with
 | some (.exc c ns ds) => (cs.contains c = true ∧ ats.contains (c, f) = true) ∧ ∃ i, nameIx f ns = some i ∧ ∃ d, ds[i]? = some d ∧ Q (.dat d) ρ1
 | _ => False
theorem le_fldX {ats : List (Str × Str)} {f : Str} (X : XAll K cs) (hat : ∀ c g, (c, g) ∈ ats → PySem.W.findIn K (.ref (clsOf K c)) g = some none) (h : LA1 K te pe) : LE K (tFldX K te f) (pFldX cs ats f pe) := fun A ρ σ H Q Q' R q k => h A ρ σ H _ _ R q fun v H1 a ρ1 q1 f1 R1 o1 => by
 split at q1
 ·rename_i c ns ds e
  obtain ⟨⟨hc, ha⟩, i, hi, d, hd, q1⟩ := q1
  have hc : c ∈ cs := List.contains_iff_mem.mp hc
  cases (R1.cont o1 e).exc with
  | exc0 n1 e1 => cases hd
  | exc1 n1 n2 e1 e2 m f =>
   obtain ⟨v, hv, fv⟩ := f.getD hd
   exact ⟨_, _, _, _, _, _, v, rfl, e1, e2, X.c c hc, hat c _ (List.contains_iff_mem.mp ha), by rw [lookup_ix (k := i) (by rw [m]; exact hi)]; exact hv, k v H1 _ ρ1 q1 f1 ⟨R1, fv⟩⟩
 ·exact q1.elim
def pIsX (cs : List Str) (d : Str) (pa : PA1) : PTE := fun ρ Q => pa ρ fun x ρ1 => match cont ρ1 x with
 | some (.exc c ns ds) => cs.contains c = true ∧ Q (.dat (.bl (isaX c d))) ρ1
 | _ => False
theorem le_isX {d : Str} (X : XAll K cs) (hd : d ∈ cs ∨ d = "GlueError") (h : LA1 K te pe) : LE K (tCB (rIsX K (clsOf K d)) (tCons te (tCons (tC (.ref (clsOf K d))) tNil))) (pIsX cs d pe) := fun A ρ σ H Q Q' R q k => h A ρ σ H _ _ R q fun v H1 a ρ1 q1 f1 R1 o1 => by
 split at q1
 ·rename_i c ns ds e
  obtain ⟨hc, q1⟩ := q1
  have hc : c ∈ cs := List.contains_iff_mem.mp hc
  have ek := kit_isa X hc hd
  cases (R1.cont o1 e).exc with
  | exc0 n1 e1 => exact ⟨_, _, _, _, _, _, rfl, e1, X.c c hc, ek, k _ H1 _ ρ1 q1 f1 ⟨R1, .bl _⟩⟩
  | exc1 n1 n2 e1 e2 m f => exact ⟨_, _, _, _, _, _, rfl, e1, X.c c hc, ek, k _ H1 _ ρ1 q1 f1 ⟨R1, .bl _⟩⟩
 ·exact q1.elim
def pIsV (cs : List Str) (pa : PA1) : PTE := fun ρ Q => pa ρ fun x ρ1 => match cont ρ1 x with
 | some (.exc c ns ds) => cs.contains c = true ∧ Q (.dat (.bl true)) ρ1
 | _ => False
theorem le_isV (X : XAll K cs) (h : LA1 K te pe) : LE K (tCB (rIsXT K) (tCons te (tCons (tC (.ty "ValueError")) tNil))) (pIsV cs pe) := fun A ρ σ H Q Q' R q k => h A ρ σ H _ _ R q fun v H1 a ρ1 q1 f1 R1 o1 => by
 split at q1
 ·rename_i c ns ds e
  obtain ⟨hc, q1⟩ := q1
  have hc : c ∈ cs := List.contains_iff_mem.mp hc
  have ek := kit_val (X.c c hc)
  cases (R1.cont o1 e).exc with
  | exc0 n1 e1 => exact ⟨_, _, _, _, _, _, _, rfl, e1, X.c c hc, ek, k _ H1 _ ρ1 q1 f1 ⟨R1, .bl _⟩⟩
  | exc1 n1 n2 e1 e2 m f => exact ⟨_, _, _, _, _, _, _, rfl, e1, X.c c hc, ek, k _ H1 _ ρ1 q1 f1 ⟨R1, .bl _⟩⟩
 ·exact q1.elim
end
section
variable {X : Cx}
theorem u_isX (K : PySem.W.Frag) (e : X.K = K) {D : Addr} : CallR X (.builtin "isinstance") (rIsX K D) := by subst e; exact call_isX
theorem u_isV (K : PySem.W.Frag) (e : X.K = K) : CallR X (.builtin "isinstance") (rIsXT K) := by subst e; exact call_isXT
theorem pe_clsN {x : Str} {C : Addr} {p : Pos} (hm : X.mg x = some (.ref C)) (hg : Gl X x := by rfl) (hdb : (x == ("__debug__" : Str)) = false := by decide) : PE X (.Name x p) (tC (.ref C)) := by
 intro pins s σ H Q I h
 exact ld_glob I hg hm ⟨.ref C, H, I, rfl, h⟩ hdb
end
end L2
namespace L2
open PySem PySem.Spec PyProof.Rows
section
variable {P : Program} {w : World} {K : PySem.W.Frag} {mg : Str → Option Value} {base : Heap} {x qual nm : Str} {C G fI : Addr} {st : Stmt} {fd : FuncData} {N ps : List Str}
theorem calX_of (F : Fun K "__init__" qual st fI fd) (S : FnScope N ps (defScope st)) (hl : ps.length = 2)
  (hb : ∀ (kV doc pm : Value) (an : Option Addr) (cdv ct : Value) (us : List Value), us.length = ps.length → bindArgs (PySem.W.fnOf "__init__" qual (defArgs st) (defBody st) (defScope st) .none kV doc pm an cdv ct) ⟨us, []⟩ = pure (ps.zip us))
  (hp : ∀ (cdv : Value) (A : Around) (outer : List Env) (s : Shared) (H : Hp) (E : XK), PSs (cxOf CX0 P w K mg base N qual (defScope st) fI cdv A outer s H E).nox (defBody st) (sFldX K (tVar 0) (tVar 1) nm))
  (m : XM K C G fI) (na : PySem.W.findIn K (.ref C) nm = some none) (hm : mg x = some (.ref C)) : CalX P w K mg base 1 C x nm := by
 refine ⟨G, fI, fd, ps, F.ok (k := 0) S (fun vs H Q E h => ?_) (fun cdv A outer s H vs Q E hr h => ⟨_, hp cdv A outer s H E, ?_⟩), F.binds hb, m, na, hm⟩
 ·obtain ⟨a, C, G, new, v, rfl, _⟩ := h
  exact hl.symm
 ·obtain ⟨a, C, G, new, v, rfl, ea, c, n, q⟩ := h
  exact ⟨v, rfl, .ref a, rfl, a, C, G, new, rfl, ea, c, n, fun dx hdx => q dx hdx⟩
end
section
variable {X : Cx} {e : Expr} {f : Str} {pos : Pos} {ta : TE}
theorem pe_fldXK (K : PySem.W.Frag) (ek : X.K = K) (he : PE X e ta) (hb : attributeBase e f X.env (eval e X.env) = eval e X.env) : PE X (.Attribute e f pos) (tFldX K ta f) := by subst ek; exact pe_fldX he hb
theorem ps_fldXK (K : PySem.W.Frag) (ek : X.K = K) {o value : Expr} {pos' : Pos} {tv : TE} (ha : PE X o ta) (hv : PE X value tv) (hs : swapsWith value (some (.Attribute o f pos')) pos.line X.env = pure false) : PS X (.Assign [.Attribute o f pos'] value pos) (sFldX K ta tv f) := by subst ek; exact ps_fldX ha hv hs
end
end L2
namespace L2
open PySem PySem.Spec PyProof.Rows
def FlyX (h : Heap) (e T : Addr) (fl : Value) : Prop := ∃ oe vs oT ts, h.get? e = some oe ∧ oe.data = .fields vs ∧ vs[1]? = some (.ref T) ∧ T ≠ e ∧ h.get? T = some oT ∧ oT.data = .fields ts ∧ ts[3]? = some fl
structure Moved (fs : List Addr) (e : Addr) (T0 : Option Addr) (h h' : Heap) : Prop where
 kp : ∀ b o, b ∉ fs → b ≠ e → T0 ≠ some b → h.get? b = some o → h'.get? b = some o
 sl : ∀ b o, b ∈ fs → h.get? b = some o → ∃ sl, h'.get? b = some { o with slots := sl }
 ex : ∀ oe vs, h.get? e = some oe → oe.data = .fields vs → ∃ oe' vs', h'.get? e = some oe' ∧ oe'.cls = oe.cls ∧ oe'.dict = oe.dict ∧ oe'.data = .fields vs' ∧ vs'.size = vs.size
section
variable {M : Model} {A : Around} {E : Value → Shared → Prop} {s : Shared} {base : Heap} {env : Env} {outer : List Env} {L e T0 : Addr} {oe : Obj} {vs : Array Value}
theorem x_entry {head : Value} {hadNext : Bool} {Q : Unit → Shared → Prop} (hfr : A.frames = some (env :: outer)) (hl : s.heap.FunFrames base (env :: outer)) (hf : env.frame = some L)
  (he : s.heap.get? e = some oe) (hd : oe.data = .fields vs) (hsz : 1 < vs.size)
  (h : ∀ h' T, s.heap.objs.size ≤ T → Moved (frs (env :: outer)) e none s.heap h' → FlyX h' e T (rawInt L) → Q () { s with heap := h' }) :
  wpAny M A (do let a ← frameOf env; let pl ← entryPlaceOf L hadNext; let b ← EntryCells.newEntry head a .none (rawInt L) .none pl; setField (.ref e) 1 b) Q E s := by
 have nf : e ∉ frs (env :: outer) := fun hm => by
  obtain ⟨_, o, ho, hn⟩ := hl.mem hm
  rw [he] at ho
  cases ho
  exact hn vs hd
 refine wpAny_bind (wpAny_frameOf_fun hfr hl hf fun g1 hs1 => ?_)
 refine wpAny_bind (wpAny_entryPlaceOf fun pl hpl => ?_)
 have e1 : g1.get? e = some oe := (hs1.2.1 e nf).trans he
 unfold EntryCells.newEntry newFields
 refine wpAny_bind (wpAny_newObj_type ?_ (hpl.sizeOk5 _ _ _ _ _))
 have hts : ∃ ts : Array Value, ([head, .ref L, .none, rawInt L, .none] ++ (if pl.isEmpty then List.replicate 6 Value.none else pl)).toArray = ts ∧ ts[3]? = some (rawInt L) := ⟨_, rfl, by
  rcases hpl with rfl | ⟨_, _, _, _, _, _, _, rfl⟩ <;> simp⟩
 obtain ⟨ts, ets, t3⟩ := hts
 rw [ets]
 generalize hg2 : g1.push { cls := .type "traceback", dict := none, data := .fields ts } = g2
 have sz1 : g1.objs.size = s.heap.objs.size := hs1.1
 have k2 : ∀ b o, g1.get? b = some o → g2.get? b = some o := fun b o q => by rw [← hg2]; exact Heap.get?_push_of_some _ q
 have gT : g2.get? g1.objs.size = some { cls := .type "traceback", dict := none, data := .fields ts } := by rw [← hg2]; exact Heap.get?_push_size _ rfl
 refine wpAny_setField (k2 _ _ e1) hd hsz ?_
 have ne : g1.objs.size ≠ e := Nat.ne_of_gt (Heap.lt_size e1)
 generalize hg3 : g2.update e (Obj.mapFields (·.setIfInBounds 1 (Value.ref g1.objs.size))) = g3
 have d3 := Obj.data_mapFields hd (·.setIfInBounds 1 (Value.ref g1.objs.size))
 have e3 : g3.get? e = some (oe.mapFields (·.setIfInBounds 1 (Value.ref g1.objs.size))) := by rw [← hg3]; exact Heap.get?_update_self _ (k2 _ _ e1) (Obj.isFreed_of_fields d3)
 have k3 : ∀ b o, b ≠ e → g2.get? b = some o → g3.get? b = some o := fun b o hb q => by rw [← hg3]; exact (Heap.get?_update_ne _ _ _ _ hb).trans q
 refine h g3 g1.objs.size (by rw [sz1]; exact Nat.le_refl _) ⟨fun b o hb hbe _ q => k3 b o hbe (k2 b o ((hs1.2.1 b hb).trans q)), fun b o hb q => ?_, fun oe' vs' q1 q2 => ?_⟩ ⟨_, _, _, ts, e3, d3, by simp [hsz], ne, k3 _ _ ne gT, rfl, t3⟩
 ·obtain ⟨sl, q'⟩ := hs1.2.2 b o q
  exact ⟨sl, k3 b _ (fun z => nf (by rw [← z]; exact hb)) (k2 b _ q')⟩
 ·rw [he] at q1
  cases q1
  rw [hd] at q2
  cases q2
  obtain ⟨c, dc, dt, sl⟩ := oe
  cases hd
  exact ⟨_, _, e3, rfl, rfl, d3, by simp⟩
theorem x_note1 {Q : Unit → Shared → Prop} (hfr : A.frames = some (env :: outer)) (hl : s.heap.FunFrames base (env :: outer)) (hf : env.frame = some L)
  (he : s.heap.get? e = some oe) (hd : oe.data = .fields vs) (h1 : vs[1]? = some .none)
  (h : ∀ h' T, s.heap.objs.size ≤ T → Moved (frs (env :: outer)) e none s.heap h' → FlyX h' e T (rawInt L) → Q () { s with heap := h' }) : wpAny M A (noteFrame (.ref e) env) Q E s := by
 unfold noteFrame
 simp only [hf]
 refine wpAny_bind (wpAny_field he hd h1 ?_)
 rw [if_neg (by decide)]
 exact x_entry hfr hl hf he hd (Array.getElem?_eq_some_iff.mp h1).1 h
theorem x_note2 {Q : Unit → Shared → Prop} (hfr : A.frames = some (env :: outer)) (hl : s.heap.FunFrames base (env :: outer)) (hf : env.frame = some L) (fly : FlyX s.heap e T0 .none) (nT : T0 ∉ frs (env :: outer))
  (h : ∀ h' T, s.heap.objs.size ≤ T → Moved (frs (env :: outer)) e (some T0) s.heap h' → FlyX h' e T (rawInt L) → Q () { s with heap := h' }) : wpAny M A (noteFrame (.ref e) env) Q E s := by
 obtain ⟨oe, vs, oT, ts, he, hd, h1, ne, hT, hdT, h3⟩ := fly
 have hsz : 1 < vs.size := (Array.getElem?_eq_some_iff.mp h1).1
 unfold noteFrame
 simp only [hf]
 refine wpAny_bind (wpAny_field he hd h1 ?_)
 rw [if_pos (show (Value.ref T0 != Value.none) = true by simp)]
 refine wpAny_bind (wpAny_field hT hdT h3 ?_)
 rw [if_neg (show ¬ ((Value.none == rawInt L) = true) by simp [rawInt])]
 refine wpAny_bind (wpAny_setField hT hdT (Array.getElem?_eq_some_iff.mp h3).1 ?_)
 have ot : ∀ b, b ≠ T0 → (s.heap.update T0 (Obj.mapFields (·.setIfInBounds 3 Value.none))).get? b = s.heap.get? b := fun b hb => Heap.get?_update_ne _ _ _ _ hb
 have sz : (s.heap.update T0 (Obj.mapFields (·.setIfInBounds 3 Value.none))).objs.size = s.heap.objs.size := by simp [Heap.update]
 have hl2 : (s.heap.update T0 (Obj.mapFields (·.setIfInBounds 3 Value.none))).FunFrames base (env :: outer) := hl.of_keeps fun b o q nf => ⟨o, (ot b (fun z => by rw [z, hT] at q; cases q; exact nf ts hdT)).trans q, rfl⟩
 refine x_entry hfr hl2 hf ((ot e (Ne.symm ne)).trans he) hd hsz fun h' T hT' mv fly => h h' T (by rw [← sz]; exact hT') ⟨fun b o h1 h2 h3 q => mv.kp b o h1 h2 (by simp) ((ot b (fun z => h3 (by rw [z]))).trans q), fun b o h1 q => mv.sl b o h1 ((ot b (fun z => nT (by rw [← z]; exact h1))).trans q), fun oe' vs' q1 q2 => mv.ex oe' vs' ((ot e (Ne.symm ne)).trans q1) q2⟩ fly
theorem x_unfly {fl : Value} {T : Addr} {Q : Unit → Shared → Prop} (fly : FlyX s.heap e T fl) (h : ∀ h', (∀ b o, b ≠ T → s.heap.get? b = some o → h'.get? b = some o) → FlyX h' e T .none → Q () { s with heap := h' }) : wpAny M A (setFlight (.ref e) none) Q E s := by
 obtain ⟨oe, vs, oT, ts, he, hd, h1, ne, hT, hdT, h3⟩ := fly
 unfold setFlight
 refine wpAny_bind (wpAny_field he hd h1 ?_)
 rw [if_pos (show (Value.ref T != Value.none) = true by simp)]
 have hs3 : 3 < ts.size := (Array.getElem?_eq_some_iff.mp h3).1
 refine wpAny_setField hT hdT hs3 (h _ (fun b o hb q => (Heap.get?_update_ne _ _ _ _ hb).trans q) ?_)
 have dT := Obj.data_mapFields hdT (·.setIfInBounds 3 ((none : Option Addr).elim Value.none fun f => rawInt f))
 exact ⟨oe, vs, _, _, (Heap.get?_update_ne _ _ _ _ (Ne.symm ne)).trans he, hd, h1, ne, Heap.get?_update_self _ hT (Obj.isFreed_of_fields dT), dT, by simp [hs3]⟩
end
end L2
namespace L2
open PySem PySem.Spec PyProof.Rows
def CXe (P : Program) (w : World) : CXT := fun outer H s E e s' => ∃ (ea C : Addr) (dd : Option Addr) (H' : Hp) (T : Addr), e = .ref ea ∧ s'.os = s.os ∧ AllBare s'.gens ∧ Un (frs outer) [] H H' s.heap s'.heap ∧ HOk P w H' s'.heap ∧
 H' ea = some (.ext (XAt ea C dd false)) ∧ FlyX s'.heap ea T .none ∧ s.heap.get? T = none ∧ H' T = none ∧ E (.ref ea) dd H'
theorem frs_sub {l : List Env} {h base : Heap} (hl : h.FunFrames base l) {b : Addr} (hb : b ∈ frs l) : ∃ o, h.get? b = some o := by
 obtain ⟨_, o, ho, _⟩ := hl.mem hb
 exact ⟨o, ho⟩
theorem XAt.moved {fs : List Addr} {ea C : Addr} {dd : Option Addr} {new : Bool} {T0 : Option Addr} {h h' : Heap} (x : XAt ea C dd new h) (mv : Moved fs ea T0 h h') : XAt ea C dd false h' := by
 obtain ⟨o, vs, h1, h2, h3, h4, h5, _⟩ := x
 obtain ⟨o', vs', q1, q2, q3, q4, q5⟩ := mv.ex o vs h1 h4
 exact ⟨o', vs', q1, q2.trans h2, q3.trans h3, q4, by rw [q5]; exact h5, nofun⟩
theorem HOk.moved {P : Program} {w : World} {H H' : Hp} {h h1 h2 : Heap} {fs : List Addr} {ea C T : Addr} {dd : Option Addr} {new : Bool} {T0 : Option Addr} (ok : HOk P w H h) (hea : H ea = some (.ext (XAt ea C dd new))) (mv : Moved fs ea T0 h h1) (hT : h.objs.size ≤ T) (un : ∀ b o, b ≠ T → h1.get? b = some o → h2.get? b = some o)
  (hfs : ∀ b ∈ fs, H b = none) (hT0 : ∀ b, T0 = some b → H b = none) (fly : FlyX h2 ea T .none) (hH : H' = upd H ea (.ext (XAt ea C dd false))) : HOk P w H' h2 := fun b o eb => by
 subst hH
 have ne : ∀ c u, H c = some u → c ≠ T := fun c u q => Nat.ne_of_lt (Nat.lt_of_lt_of_le (ok.lt q) hT)
 have kp : ∀ c u, c ≠ ea → H c = some u → ∀ v, h.get? c = some v → h2.get? c = some v := fun c u hc q v z => un c v (ne c u q) (mv.kp c v (fun m => by rw [hfs c m] at q; cases q) hc (fun e => by rw [hT0 c e] at q; cases q) z)
 by_cases hb : b = ea
 ·subst hb
  rw [upd_same] at eb
  cases eb
  have x : XAt b C dd new h := (ok b _ hea).1
  obtain ⟨o', vs', q1, q2, q3, q4, q5, q6⟩ := x.moved mv
  exact XAt.ok ⟨o', vs', un b o' (ne b _ hea) q1, q2, q3, q4, q5, q6⟩
 ·rw [upd_ne hb] at eb
  refine (ok b o eb).stay (fun c v hc q => ?_) (fun c q => ?_) fun c xs q => ?_
  ·rcases hc with rfl | hc
   ·exact kp c o hb eb v q
   ·exact kp c _ (fun z => by rw [z, hea] at hc; cases hc) hc v q
  ·rw [upd_ne (fun z => by rw [z, hea] at q; cases q)]; exact q
  ·rw [upd_ne (fun z => by rw [z, hea] at q; cases q)]; exact q
section
variable {P : Program} {w : World} {K : PySem.W.Frag} {mg : Str → Option Value} {base : Heap} {N : List Str} {qual : Str} {scope : Scope} {f : Addr} {cd : Value} {A : Around} {outer : List Env} {s0 : Shared} {H0 : Hp} {E : XK} {pins : List (Addr × Obj)} {σ : St} {H : Hp} {s : Shared}
theorem raise_out {ea C : Addr} {dd : Option Addr} (I : Inv (cxOf (CXe P w) P w K mg base N qual scope f cd A outer s0 H0 E) pins σ H s) (hea : H ea = some (.ext (XAt ea C dd true))) (hE : E (.ref ea) dd (upd H ea (.ext (XAt ea C dd false)))) :
  (cxOf (CXe P w) P w K mg base N qual scope f cd A outer s0 H0 E).xe (.ref ea) s := by
 obtain ⟨⟨o, vs, h1, h2, h3, h4, h5, h6⟩, _, _⟩ := (show ObjOk P w H s.heap ea (.ext (XAt ea C dd true)) from I.hok ea _ hea)
 show wpAny (model P w) _ (leaving _ (.ref ea)) _ _ s
 unfold leaving
 refine wpAny_bind (x_note1 I.ok.frames I.stack rfl h1 h4 (h6 rfl) fun g1 T hT mv fly => ?_)
 refine x_unfly fly fun g2 un fly2 => ?_
 have hf2 : ∀ b ∈ frs (envOfC qual scope s0.heap.objs.size f cd :: outer), H b = none := I.stkFree
 have hok := I.hok.moved hea mv hT un hf2 (fun b e => nomatch e) fly2 rfl
 have old : ∀ b o, s0.heap.get? b = some o → b ≠ s0.heap.objs.size := fun b o q => Nat.ne_of_lt (Heap.lt_size q)
 have bT : ∀ b o, s.heap.get? b = some o → b ≠ T := fun b o q => Nat.ne_of_lt (Nat.lt_of_lt_of_le (Heap.lt_size q) hT)
 have nea : ∀ b, H b = none → b ≠ ea := fun b n z => by rw [z, hea] at n; cases n
 have sub : ∀ b, b ∈ frs outer → b ∈ frs (envOfC qual scope s0.heap.objs.size f cd :: outer) := fun b hb => List.mem_cons_of_mem _ hb
 have nsub : ∀ b o, s0.heap.get? b = some o → b ∉ frs outer → b ∉ frs (envOfC qual scope s0.heap.objs.size f cd :: outer) := fun b o q hb z => by
  rcases List.mem_cons.mp (show b ∈ s0.heap.objs.size :: frs outer from z) with z | z
  ·exact old b o q z
  ·exact hb z
 have un0 : Un (frs outer) [] H0 (upd H ea (.ext (XAt ea C dd false))) s0.heap g2 := by
  refine ⟨fun b ob q n hb hx => ?_, fun b ob q n hb hx => ?_, fun b ob q n hx => ?_, fun b ob q hx => ?_, fun b xs q => ?_, fun b ob u q => ?_, fun b ps q => ?_⟩
  ·have q1 := I.base.keep b ob q n hb hx
   have n1 := I.base.free b ob q n hx
   exact un b ob (bT b ob q1) (mv.kp b ob (nsub b ob q hb) (nea b n1) (by simp) q1)
  ·obtain ⟨sl, q1⟩ := I.base.slot b ob q n hb hx
   obtain ⟨sl2, q2⟩ := mv.sl b _ (sub b hb) q1
   exact ⟨sl2, un b _ (bT b _ q1) q2⟩
  ·have n1 := I.base.free b ob q n hx
   rw [upd_ne (nea b n1)]; exact n1
  ·obtain ⟨o1, q1⟩ := I.base.there b ob q hx
   by_cases hbe : b = ea
   ·subst hbe
    obtain ⟨o2, vs2, q2, _⟩ := mv.ex o vs h1 h4
    exact ⟨o2, un b o2 (bT b _ q1) q2⟩
   ·by_cases hb : b ∈ frs (envOfC qual scope s0.heap.objs.size f cd :: outer)
    ·obtain ⟨sl2, q2⟩ := mv.sl b _ hb q1
     exact ⟨_, un b _ (bT b _ q1) q2⟩
    ·exact ⟨o1, un b o1 (bT b _ q1) (mv.kp b o1 hb hbe (by simp) q1)⟩
  ·have q1 := I.base.tups b xs q
   rw [upd_ne (fun z => by rw [z, hea] at q1; cases q1)]; exact q1
  ·have q1 := I.base.frzs b ob u q
   rw [upd_ne (fun z => by rw [z, hea] at q1; cases q1)]; exact q1
  ·obtain ⟨m, q1⟩ := I.base.tbls b ps q
   exact ⟨m, by rw [upd_ne (fun z => by rw [z, hea] at q1; cases q1)]; exact q1⟩
 refine ⟨ea, C, dd, _, T, rfl, I.os, I.bare, un0, hok, upd_same, fly2, ?_, ?_, hE⟩
 ·cases q : s0.heap.get? T with
  | none => rfl
  | some ob =>
   obtain ⟨o1, q1⟩ := I.base.there T ob q (show T ∉ ([] : List Addr) by simp)
   exact absurd rfl (bT T o1 q1)
 ·rw [upd_ne (fun z => by
   have := I.hok.lt hea
   rw [← z] at this
   exact absurd (Nat.lt_of_lt_of_le this hT) (Nat.lt_irrefl _))]
  exact I.hok.fresh hT
end
end L2
namespace L2
open PySem PySem.Spec PyProof.Rows
section
variable {prog : Program} {w : World} {A : Around} {E : Value → Shared → Prop} {K : PySem.W.Frag} {env : Env}
theorem x_raise {Q : Flow → Shared → Prop} {x : Sem Value} {s : Shared} (hh : A.handled = none)
  (hx : wpAny (model prog w) A x (fun v s₁ => ∃ ea C G dd, v = .ref ea ∧ K.In s₁.heap ∧ XC K C G ∧ XAt ea C dd true s₁.heap ∧ E (.ref ea) s₁) E s) : wpAny (model prog w) A (raiseStmt env (some x) none) Q E s := by
 unfold raiseStmt
 refine wpAny_bind (wpAny_mono hx (fun v s1 h1 => ?_) fun _ _ z => z)
 obtain ⟨ea, C, G, dd, rfl, X, c, ⟨o, vs, q1, q2, q3, q4, q5, q6⟩, hE⟩ := h1
 obtain ⟨nm, q, N, bs, sn, sub, ab, col, k0, k1, k2, k3, k5, e⟩ := c.obj
 have hC := X _ _ e
 obtain ⟨hp, g, d, tk, os⟩ := s1
 have own : (Value.ref C :: .ref G :: vmB).contains (.type "BaseException") = true := rfl
 have qn := q6 rfl
 repeat (first
  | (with_reducible refine wpAny_loadPart_at q1 ?_; first | rw [q2] | rw [q4] | skip)
  | with_reducible refine wpAny_loadPart_at hC ?_
  | (with_reducible refine wpAny_isSubtype_exc hC ?_; rw [own])
  | with_reducible refine wpAny_field q1 q4 qn ?_
  | wp_step)
 exact wpAny_raiseNew_none hh hE
end
def RX (X : Cx) (J : St → XK) : Prop := ∀ (pins : List (Addr × Obj)) (σ : St) (H : Hp) (s : Shared) (ea C : Addr) (dd : Option Addr), Inv X pins σ H s → H ea = some (.ext (XAt ea C dd true)) → J σ (.ref ea) dd (upd H ea (.ext (XAt ea C dd false))) → X.xe (.ref ea) s
def tRaise (K : PySem.W.Frag) (te : TE) (J : St → XK) : TS := fun D σ H => te σ H fun v H1 => ∃ ea C G dd, v = .ref ea ∧ H1 ea = some (.ext (XAt ea C dd true)) ∧ XC K C G ∧ J σ (.ref ea) dd (upd H1 ea (.ext (XAt ea C dd false)))
section
variable {X : Cx} {J : St → XK} {x : Expr} {pos : Pos} {te : TE}
theorem ps_raise (K : PySem.W.Frag) (ek : X.K = K) (hc : X.calm = true) (hx : RX X J) (he : PE X x te) : PS X (.Raise (some x) none pos) (tRaise K te J) := by
 subst ek
 intro pins s σ H D I h
 have key : wpAny (model X.prog X.w) X.A (raiseStmt X.env (some (do let v ← eval x X.env; standAt pos; pure v)) none) (SP X pins D) X.xe s := by
  refine x_raise (K := X.K) (I.ok.hd hc) (wpAny_bind (wpAny_mono (he pins s σ H _ I h) (fun u s1 ⟨v, H1, I1, rv, ea, C, G, dd, ev, hea, c, hj⟩ => wpAny_bind (wpAny_standAt (wpAny_pure ?_))) fun _ _ z => z))
  subst ev
  obtain rfl : u = Value.ref ea := rv
  have ok := (show ObjOk X.prog X.w H1 s1.heap ea (.ext (XAt ea C dd true)) from I1.hok ea _ hea)
  exact ⟨ea, C, G, dd, rfl, I1.kIn, c, ok.1, hx pins σ H1 s1 ea C dd I1 hea hj⟩
 rw [arm_exec_Raise]
 first
  | exact wpAny_bind (wpAny_standAt key)
  | (simp only [evalOpt, Option.map]; exact wpAny_bind (wpAny_standAt key))
  | (show wpAny _ _ (do standAt pos; raiseStmt X.env (some (do let v ← eval x X.env; standAt pos; pure v)) none) _ _ s; exact wpAny_bind (wpAny_standAt key))
theorem rx_out {P : Program} {w : World} {K : PySem.W.Frag} {mg : Str → Option Value} {base : Heap} {N : List Str} {qual : Str} {scope : Scope} {f : Addr} {cd : Value} {A : Around} {outer : List Env} {s0 : Shared} {H0 : Hp} {E : XK} :
  RX (cxOf (CXe P w) P w K mg base N qual scope f cd A outer s0 H0 E) (fun _ => E) := fun pins σ H s ea C dd I hea hj => raise_out I hea hj
end
def PX (CX : CXT) (X : Cx) (J : St → XK) : Prop := ∀ (pins : List (Addr × Obj)) (σ : St) (H : Hp) (s : Shared) (e : Value) (s' : Shared), Inv X pins σ H s → CX X.stack H s (J σ) e s' → X.xe e s'
def tCallX (sp : Sp) (J : St → XK) (t : TA) : TE := fun σ H Q => t σ H fun vs H1 => sp vs H1 Q (J σ)
structure CalE (P : Program) (w : World) (K : PySem.W.Frag) (mg : Str → Option Value) (base : Heap) (k : Nat) (x : Str) (ps : List Str) (sp : Sp) : Prop where
 ex : ∃ (f : Addr) (fd : FuncData), FnOk P w K mg base (CXe P w) k f fd ps sp ∧ Binds K fd ps [] ∧ PySem.W.keepIn K (.ref f) = true ∧ mg x = some (.ref f)
section
variable {X : Cx} {k : Nat} {x : Str} {ps : List Str} {sp : Sp} {p pos : Pos} {e : Expr} {es : List Expr} {t : TA} {J : St → XK}
theorem pe_calE (C : CalE X.prog X.w X.K X.mg X.base k x ps sp) (hr : Room k X.A) (hx : PX (CXe X.prog X.w) X J) (ha : PA X (e :: es) t) (hg : Gl X x := by rfl) (hdb : (x == ("__debug__" : Str)) = false := by decide) (hn : nSt e = true := by rfl) (hp : es.all nSt = true := by rfl) :
  PE X (.Call (.Name x p) (e :: es) [] pos) (tCallX sp J t) := by
 obtain ⟨f, fd, F, hb, hk, hm⟩ := C.ex
 intro pins s σ H Q I h
 refine wpAny_Call_Name_kw (ld_glob I hg hm ?_ hdb)
 refine PySem.W.callWith_K (h₀ := X.base) I.ok.mod.kin hk (thn (ha pos pins s σ H _ I h) fun us s1 ⟨vs, H1, I1, r, q⟩ => ⟨I1.kIn, ?_⟩) (star_of hn) (plain_of hp)
 have hl : us.length = ps.length := by rw [← r.length]; exact F.len _ _ _ _ q
 refine wpAny_call (codeAny_mono (F.run X.A X.stack s1 H1 ⟨us, []⟩ us vs Q (J σ) hr I1.env0 ?_ r q) fun r s' hq => ?_)
 ·have := hb s1 us I1.kIn (by rw [List.append_nil]; exact hl)
  rw [List.append_nil] at this
  exact this
 ·cases r with
  | error e => exact hx pins σ H1 s1 e s' I1 hq
  | ok fl =>
   cases fl with
   | ret u => exact I1.after hq
   | next => exact False.elim hq
   | brk => exact False.elim hq
   | cont => exact False.elim hq
end
end L2
namespace L2
open PySem PySem.Spec PyProof.Rows
section
variable {X : Cx} {pins : List (Addr × Obj)} {σ : St} {H : Hp} {s : Shared}
abbrev Cx.mk' (X : Cx) (e : Value) : Cx := { X with A := X.A.mark (some e), calm := false }
theorem Inv.mark (I : Inv X pins σ H s) (e : Value) : Inv (X.mk' e) pins σ H s :=
 ⟨⟨I.ok.mod, I.ok.kind, I.ok.glob, I.ok.blt, I.ok.above, I.ok.inj, I.ok.has, I.ok.cab, nofun, I.ok.frames, I.ok.stk, I.ok.exf, I.ok.bs, I.ok.bsz, I.ok.noex, I.ok.exfs, I.ok.funs, I.ok.frf⟩, I.os, I.bare, I.base, I.loc, I.cell, I.free, I.freeC, I.pin, I.hok, I.len⟩
theorem Inv.unmark {e : Value} (I : Inv (X.mk' e) pins σ H s) (hd : X.calm = true → X.A.handled = none) : Inv X pins σ H s :=
 ⟨⟨I.ok.mod, I.ok.kind, I.ok.glob, I.ok.blt, I.ok.above, I.ok.inj, I.ok.has, I.ok.cab, hd, I.ok.frames, I.ok.stk, I.ok.exf, I.ok.bs, I.ok.bsz, I.ok.noex, I.ok.exfs, I.ok.funs, I.ok.frf⟩, I.os, I.bare, I.base, I.loc, I.cell, I.free, I.freeC, I.pin, I.hok, I.len⟩
theorem unbind_ok {M : Model} {A : Around} {E : Value → Shared → Prop} {i : Nat} {x : Str} {pos : Pos} {Q : Unit → Shared → Prop} (I : Inv X pins σ H s) (hN : X.N.Nodup) (hi : X.N[i]? = some x) (hk : X.env.scope.names.lookup x = some .local)
  (h : ∀ s', Inv X pins (σ.set i none) H s' → Q () s') : wpAny M A (do bindName X.env x .none; unbindBehindTheSuite X.env x pos) Q E s := by
 refine wpAny_bind (wpAny_bindName (store_ok I hN hi (.inl hk) (v := .non) rfl (fun s1 I1 => ?_) (.inr hk)))
 have hiσ : i < σ.length := by rw [I.len]; exact (List.getElem?_eq_some_iff.mp hi).1
 obtain ⟨m, hn, hl⟩ := id I1.loc
 obtain ⟨u, ru, lk⟩ := hl i x .non hi (List.getElem?_set_self hiσ) (.inl hk)
 have hm : m x = some u := by
  rcases lk with ⟨_, z⟩ | ⟨z, _⟩
  ·exact z
  ·have z' : X.env.scope.names.lookup x = some .cell ∨ X.env.scope.names.lookup x = some .free := z
   rw [hk] at z'
   rcases z' with z' | z' <;> cases z'
 unfold unbindBehindTheSuite
 refine wpAny_onRaise (wpAny_unbindName_local hk hn hm (by rw [I.ok.kind]; rfl) fun h' u' hn' hs => ?_)
 have cne := I1.cne
 obtain ⟨oL, _, _, hoL, _⟩ := id hn
 have big : ∀ b o, X.s₀.heap.get? b = some o → b ≠ X.env.locals := fun b o q => Nat.ne_of_lt (Nat.lt_of_lt_of_le (Heap.lt_size q) I.ok.above)
 refine h _ ⟨I1.ok, I1.os, I1.bare, ⟨fun b o q n hb hx => (hs.2 b (big b o q)).trans (I1.base.keep b o q n hb hx), fun b o q n hb hx => ?_, I1.base.free, fun b o q hx => ?_, I1.base.tups, I1.base.frzs, I1.base.tbls⟩, ⟨_, hn', fun j y v' e1 e2 e3 => ?_⟩, fun y c q => ?_, I1.free, I1.freeC, fun p hp => ?_, fun b ob q => ?_, by simpa using I.len⟩
 ·obtain ⟨sl, q1⟩ := I1.base.slot b o q n hb hx
  exact ⟨sl, (hs.2 b (big b o q)).trans q1⟩
 ·obtain ⟨o', q1⟩ := I1.base.there b o q hx
  exact ⟨o', (hs.2 b (big b o q)).trans q1⟩
 ·by_cases hj : j = i
  ·subst hj
   rw [List.getElem?_set_self hiσ] at e2
   cases e2
  ·rw [List.getElem?_set_ne (Ne.symm hj)] at e2
   obtain ⟨u2, r2, q⟩ := hl j y v' e1 (by rw [List.getElem?_set_ne (Ne.symm hj)]; exact e2) e3
   refine ⟨u2, r2, ?_⟩
   rcases q with ⟨k, z⟩ | ⟨k, c, z1, z2⟩
   ·have : y ≠ x := fun z => hj (nodup_ix hN e1 (z ▸ hi))
    exact .inl ⟨k, by simp [this, z]⟩
   ·exact .inr ⟨k, c, z1, z2.sameBut hs (cne y c z1)⟩
 ·obtain ⟨w', z⟩ := I1.cell y c q
  exact ⟨w', z.sameBut hs (cne y c q)⟩
 ·obtain ⟨q, n, ne, nf, dd⟩ := I1.pin p hp
  exact ⟨(hs.2 p.1 ne).trans q, n, ne, nf, dd⟩
 ·refine (I1.hok b ob q).stay (fun c w' hc z => (hs.2 c ?_).trans z) (fun _ z => z) fun _ _ z => z
  rintro rfl
  rcases hc with hc | hc
  ·rw [← hc, I1.free] at q; cases q
  ·rw [I1.free] at hc; cases hc
end
section
variable {M : Model} {A : Around} {E : Value → Shared → Prop} {K : PySem.W.Frag} {C G D : Addr}
theorem x_matches {h : Heap} {g : Array GenState} {d : Drawn} {t : Nat} {os : OsState} {ea : Addr} {dd : Option Addr} {new : Bool} {Q : Bool → Shared → Prop} (X : K.In h) (c : XC K C G) (x : XAt ea C dd new h)
  (hD : ∃ nm q N bs bm hd sn sub ab col d0 k0 k1 k2 k3 k5 nw, K.lookup D = some (excClassObj nm q D N bs bm hd sn sub ab col d0 k0 k1 k2 k3 k5 nw) ∧ (Value.ref D :: bm).contains (.type "BaseException") = true)
  (hq : Q ((Value.ref C :: .ref G :: vmB).contains (.ref D)) ⟨h, g, d, t, os⟩) : wpAny M A (excMatches (.ref ea) (.ref D)) Q E ⟨h, g, d, t, os⟩ := by
 obtain ⟨nm, q, N, bs, sn, sub, ab, col, k0, k1, k2, k3, k5, e⟩ := c.obj
 obtain ⟨nm', q', N', bs', bm', hd', sn', sub', ab', col', d0', k0', k1', k2', k3', k5', nw', e2, hb⟩ := hD
 obtain ⟨o, vs, q1, q2, _⟩ := x
 have hC := X _ _ e
 have hDo := X _ _ e2
 have f := tc_notTuple
 generalize hbb : (Value.ref C :: .ref G :: vmB).contains (.ref D) = b at hq
 unfold excMatches
 repeat (first
  | (with_reducible refine wpAny_loadPart_at q1 ?_; rw [q2])
  | with_reducible refine wpAny_loadPart_at hDo ?_
  | with_reducible refine wpAny_loadPart_at hC ?_
  | (with_reducible refine wpAny_isSubtype_exc hDo ?_; rw [hb])
  | (with_reducible refine wpAny_isSubtype_exc hC ?_; rw [hbb])
  | wp_step)
 cases b <;> (wp_walk; exact hq)
end
end L2
namespace L2
open PySem PySem.Spec PyProof.Rows
structure FTk (X : Cx) (pins : List (Addr × Obj)) (H : Hp) (T : Addr) : Prop where
 nt : H T = none
 sz : X.s₀.heap.objs.size ≤ T
 nl : T ≠ X.env.locals
 nc : ∀ x c, X.env.cells.lookup x = some c → c ≠ T
 np : ∀ p ∈ X.pn ++ pins, p.1 ≠ T
section
variable {X : Cx} {pins : List (Addr × Obj)} {σ : St} {H : Hp} {s : Shared}
theorem land {M : Model} {Er : Value → Shared → Prop} {E1 : XK} {e : Value} {s' : Shared} {Q : Unit → Shared → Prop} (hst : X.stack = X.env :: X.outer) (hfm : X.env.frame = some X.env.locals) (I : Inv X pins σ H s) (h : CXe X.prog X.w X.stack H s E1 e s')
  (k : ∀ ea C dd H' T s2, e = .ref ea → Inv X pins σ H' s2 → H' ea = some (.ext (XAt ea C dd false)) → FlyX s2.heap ea T .none → FTk X pins H' T → E1 (.ref ea) dd H' → Q () s2) :
  wpAny M X.A (noteFrame e X.env) (fun _ s1 => wpAny M X.A (setFlight e none) Q Er s1) Er s' := by
 obtain ⟨ea, C, dd, H', T0, rfl, os, bare, un1, hok1, hea, fly0, hT0, hT0', hE1⟩ := h
 have hf1 : ∀ b ∈ frs X.stack, H b = none := I.stkFree
 have hss := I.stack
 have hl : s'.heap.FunFrames X.base X.stack := by
  have all : ∀ l : List Env, (∀ b ∈ frs l, b ∈ frs X.stack) → s.heap.FunFrames X.base l → s'.heap.FunFrames X.base l := by
   intro l
   induction l with
   | nil => intro _ _; trivial
   | cons en r ih =>
    intro hs hl
    obtain ⟨hk, ⟨L, o, hf, hn, ho, hd⟩, hr⟩ := hl
    have hL : L ∈ frs (en :: r) := by unfold frs; rw [List.filterMap_cons, hf]; exact List.mem_cons_self
    obtain ⟨sl, q⟩ := un1.slot L o ho (hf1 L (hs L hL)) (hs L hL) (by simp)
    exact ⟨hk, ⟨L, _, hf, hn, q, hd⟩, ih (fun b hb => hs b (by unfold frs; rw [List.filterMap_cons, hf]; exact List.mem_cons_of_mem _ hb)) hr⟩
  exact all _ (fun _ hb => hb) hss
 have nT0 : T0 ∉ frs X.stack := fun z => by
  obtain ⟨o, q⟩ := frs_sub hss z
  rw [hT0] at q; cases q
 have hf2 : ∀ b ∈ frs X.stack, H' b = none := fun b hb => by
  obtain ⟨o, q⟩ := frs_sub hss hb
  exact un1.free b o q (hf1 b hb) (by simp)
 have fr := I.ok.frames
 rw [hst] at fr hl nT0 hf2
 refine x_note2 fr hl hfm fly0 nT0 fun g1 T hT mv fly => ?_
 refine x_unfly fly fun g2 un fly2 => ?_
 have hok := hok1.moved hea mv hT un hf2 (fun b e => by cases e; exact hT0') fly2 rfl
 have upe : upd H' ea (.ext (XAt ea C dd false)) = H' := by
  funext b
  by_cases z : b = ea
  ·subst z; rw [upd_same, hea]
  ·rw [upd_ne z]
 rw [upe] at hok
 have bT : ∀ b o, s'.heap.get? b = some o → b ≠ T := fun b o q => Nat.ne_of_lt (Nat.lt_of_lt_of_le (Heap.lt_size q) hT)
 have bT0 : ∀ b o, s.heap.get? b = some o → some T0 ≠ some b := fun b o q z => by cases z; rw [hT0] at q; cases q
 have nea : ∀ b, H' b = none → b ≠ ea := fun b n z => by rw [z, hea] at n; cases n
 obtain ⟨oe, vs, oT, ts, he1, he2, _⟩ := id fly0
 have u : Un (frs X.stack) [] H H' s.heap g2 := by
  rw [hst] at un1 ⊢
  refine ⟨fun b ob q n hb hx => ?_, fun b ob q n hb hx => ?_, un1.free, fun b ob q hx => ?_, un1.tups, un1.frzs, un1.tbls⟩
  ·have q2 := un1.keep b ob q n hb hx
   exact un b ob (bT b ob q2) (mv.kp b ob hb (nea b (un1.free b ob q n hx)) (bT0 b ob q) q2)
  ·obtain ⟨sl1, q2⟩ := un1.slot b ob q n hb hx
   obtain ⟨sl2, q3⟩ := mv.sl b _ hb q2
   exact ⟨sl2, un b _ (bT b _ q2) q3⟩
  ·obtain ⟨o2, q2⟩ := un1.there b ob q hx
   by_cases hbe : b = ea
   ·subst hbe
    obtain ⟨o3, vs3, q3, _⟩ := mv.ex oe vs he1 he2
    exact ⟨o3, un b o3 (bT b _ q2) q3⟩
   ·by_cases hb : b ∈ frs (X.env :: X.outer)
    ·obtain ⟨sl2, q3⟩ := mv.sl b _ hb q2
     exact ⟨_, un b _ (bT b _ q2) q3⟩
    ·exact ⟨o2, un b o2 (bT b _ q2) (mv.kp b o2 hb hbe (bT0 b ob q) q2)⟩
 have far : ∀ b o, s.heap.get? b = some o → b < T := fun b o q => by
  obtain ⟨o2, q2⟩ := un1.there b o q (by simp)
  exact Nat.lt_of_lt_of_le (Heap.lt_size q2) hT
 have hL : X.env.locals < T := by
  obtain ⟨m, ⟨o, _, _, ho, _⟩, _⟩ := I.loc
  exact far _ o ho
 refine k ea C dd H' T { s' with heap := g2 } rfl (I.call' (s' := { s' with heap := g2 }) os u hok bare (fun b z => nomatch z)) hea fly2 ⟨hok1.fresh hT, Nat.le_of_lt (Nat.lt_of_le_of_lt I.ok.above hL), Ne.symm (Nat.ne_of_lt hL), fun x c q => ?_, fun p hp => ?_⟩ hE1
 ·obtain ⟨v, o, ho, _⟩ := I.cell x c q
  exact Nat.ne_of_lt (far c o ho)
 ·exact Nat.ne_of_lt (far _ _ (I.pin p hp).1)
end
abbrev THd := Addr → Addr → Option Addr → Ends → St → Hp → Prop
def PH (X : Cx) (hs : List ExceptHandler) (th : THd) : Prop := ∀ (pins : List (Addr × Obj)) (s : Shared) (σ : St) (H : Hp) (ea C : Addr) (dd : Option Addr) (T : Addr) (D : Ends), Inv X pins σ H s → H ea = some (.ext (XAt ea C dd false)) → FlyX s.heap ea T .none → FTk X pins H T → th ea C dd D σ H →
 wpAny (model X.prog X.w) X.A (handleBy (.ref ea) X.env hs) (SP X pins D) X.xe s
def hAs (K : PySem.W.Frag) (C0 : Addr) (i : Nat) (ts : TS) (tr : THd) : THd := fun ea C dd D σ H => ∃ G, XC K C G ∧
 ((Value.ref C :: .ref G :: vmB).contains (.ref C0) = true → ts { nx := fun σ' H' => D.nx (σ'.set i none) H', bk := fun σ' H' => D.bk (σ'.set i none) H', ct := fun σ' H' => D.ct (σ'.set i none) H', rt := D.rt } (σ.set i (some (.ref ea))) H) ∧
 ((Value.ref C :: .ref G :: vmB).contains (.ref C0) = false → tr ea C dd D σ H)
def XD (K : PySem.W.Frag) (D : Addr) : Prop := ∃ nm q N bs bm hd sn sub ab col d0 k0 k1 k2 k3 k5 nw, K.lookup D = some (excClassObj nm q D N bs bm hd sn sub ab col d0 k0 k1 k2 k3 k5 nw) ∧ (Value.ref D :: bm).contains (.type "BaseException") = true
section
variable {X : Cx} {C0 : Addr} {cn n : Str} {np pos : Pos} {b0 : Stmt} {suite : List Stmt} {rest : List ExceptHandler} {i : Nat} {ts : TS} {tr : THd}
theorem ph_as (K : PySem.W.Frag) (ek : X.K = K) (hx : XD K C0) (hm : X.mg cn = some (.ref C0)) (hN : X.N.Nodup) (hi : X.N[i]? = some n) (hk : X.env.scope.names.lookup n = some .local) (hs : ∀ e, PSs (X.mk' e).nox (b0 :: suite) ts) (hr : PH X rest tr)
  (hg : Gl X cn := by rfl) (hdb : (cn == ("__debug__" : Str)) = false := by decide) : PH X (.ExceptHandler (some (.Name cn np)) (some n) (b0 :: suite) pos :: rest) (hAs K C0 i ts tr) := by
 subst ek
 intro pins s σ H ea C dd T D I hea fly ft h
 obtain ⟨G, c, h1, h2⟩ := h
 have xa : XAt ea C dd false s.heap := (show ObjOk X.prog X.w H s.heap ea (.ext (XAt ea C dd false)) from I.hok ea _ hea).1
 refine wpAny_handleBy_cons (codeAny_handlers_test ?_) (by intro z; cases z)
 refine ld_glob (X := X.mk' (.ref ea)) (I.mark (.ref ea)) hg hm ?_ hdb
 have X2 := I.kIn
 have I0 := I
 obtain ⟨hh, g, d, tk, os⟩ := s
 refine x_matches X2 c xa hx ?_
 cases hb : (Value.ref C :: .ref G :: vmB).contains (.ref C0) with
 | false => exact hr pins _ σ H ea C dd T D I0 hea fly ft (h2 hb)
 | true =>
  refine codeAny_handlers_suite_as ?_
  refine x_unfly fly fun g2 un fly2 => ?_
  have I1 : Inv X pins σ H { heap := g2, gens := g, drawn := d, toks := tk, os := os } := I0.turned (it := T) (t' := tk) un ft.nt ft.nl (.inr ft.sz) ft.nc ft.np
  refine store_ok (X := X) (v := .ref ea) I1 hN hi (.inl hk) rfl (fun s2 I2 => ?_) (.inr hk)
  refine wpAny_mono (hs (.ref ea) pins s2 _ H _ ((I2.mark (.ref ea)).wish _) (h1 hb)) (fun f s3 hf => ?_) fun _ _ z => False.elim z
  have un1 : ∀ {σ' H'}, Inv (X.mk' (.ref ea)).nox pins σ' H' s3 → Inv X pins σ' H' s3 := fun J => (Inv.unwish J).unmark I0.ok.hd
  show wpAny _ X.A (do bindName X.env n .none; unbindBehindTheSuite X.env n pos) (fun _ s4 => SP X pins D f s4) X.xe s3
  cases f with
  | next =>
   obtain ⟨σ', H', J, q⟩ := hf
   exact unbind_ok (un1 J) hN hi hk fun s4 I4 => ⟨_, H', I4, q⟩
  | brk =>
   obtain ⟨σ', H', J, q⟩ := hf
   exact unbind_ok (un1 J) hN hi hk fun s4 I4 => ⟨_, H', I4, q⟩
  | cont =>
   obtain ⟨σ', H', J, q⟩ := hf
   exact unbind_ok (un1 J) hN hi hk fun s4 I4 => ⟨_, H', I4, q⟩
  | ret u =>
   obtain ⟨v, σ', H', J, r, q⟩ := hf
   exact unbind_ok (un1 J) hN hi hk fun s4 I4 => ⟨v, _, H', I4, r, q⟩
theorem ph_nil : PH X [] (fun _ _ _ _ _ _ => False) := fun _ _ _ _ _ _ _ _ _ _ _ _ _ h => h.elim
end
end L2
namespace L2
open PySem PySem.Spec PyProof.Rows
abbrev Cx.tryb (X : Cx) (pn : List (Addr × Obj)) (E : Value → Shared → Prop) : Cx := { X with pn := pn, xe := E }
def tTry (tb : (St → XK) → TS) (th : THd) : TS := fun D σ H => ∃ J : St → XK, tb J D σ H ∧ ∀ (σ' : St) (ea : Addr) (dd : Option Addr) (H' : Hp), J σ' (.ref ea) dd H' → ∃ C, H' ea = some (.ext (XAt ea C dd false)) ∧ th ea C dd D σ' H'
section
variable {X : Cx} {C0 : Addr} {cn n : Str} {np pos : Pos} {b0 : Stmt} {suite body : List Stmt} {rest : List ExceptHandler} {h0 : ExceptHandler} {hs : List ExceptHandler} {i : Nat} {ts : TS} {tr th : THd} {tb : (St → XK) → TS}
theorem ps_try (hst : X.stack = X.env :: X.outer) (hfm : X.env.frame = some X.env.locals)
  (hb : ∀ J pn E, PX (CXe X.prog X.w) (X.tryb pn E) J → PSs (X.tryb pn E) body (tb J)) (hh : PH X (h0 :: hs) th) : PS X (.Try body (h0 :: hs) [] [] pos) (tTry tb th) := by
 intro pins s σ H D I h
 obtain ⟨J, h1, h2⟩ := h
 have mk : ∀ {E σ H s}, Inv X pins σ H s → Inv (X.tryb (X.pn ++ pins) E) [] σ H s := fun I =>
  ⟨⟨I.ok.mod, I.ok.kind, I.ok.glob, I.ok.blt, I.ok.above, I.ok.inj, I.ok.has, I.ok.cab, I.ok.hd, I.ok.frames, I.ok.stk, I.ok.exf, I.ok.bs, I.ok.bsz, I.ok.noex, I.ok.exfs, I.ok.funs, I.ok.frf⟩, I.os, I.bare, I.base, I.loc, I.cell, I.free, I.freeC, fun p hp => I.pin p (by simpa using hp), I.hok, I.len⟩
 have un : ∀ {E pins' σ H s}, Inv (X.tryb (X.pn ++ pins) E) pins' σ H s → Inv X pins σ H s := fun {E pins' σ H s} I =>
  ⟨⟨I.ok.mod, I.ok.kind, I.ok.glob, I.ok.blt, I.ok.above, I.ok.inj, I.ok.has, I.ok.cab, I.ok.hd, I.ok.frames, I.ok.stk, I.ok.exf, I.ok.bs, I.ok.bsz, I.ok.noex, I.ok.exfs, I.ok.funs, I.ok.frf⟩, I.os, I.bare, I.base, I.loc, I.cell, I.free, I.freeC, fun p hp => I.pin p (List.mem_append_left pins' hp), I.hok, I.len⟩
 let XE : Value → Shared → Prop := fun e s1 => ∃ σ H s, Inv X pins σ H s ∧ CXe X.prog X.w X.stack H s (J σ) e s1
 have px : PX (CXe X.prog X.w) (X.tryb (X.pn ++ pins) XE) J := fun pins' σ' H' s' e s1 I' h => ⟨σ', H', s', un I', h⟩
 refine wpAny_Try_except (wpAny_mono (hb J _ _ px [] s σ H D (mk I) h1) (fun f s1 hf => ?_) fun e s1 he => ?_)
 ·cases f with
  | next =>
   obtain ⟨σ', H', I', q⟩ := hf
   rw [arm_execs_nil]
   exact wpAny_pure ⟨σ', H', un I', q⟩
  | brk =>
   obtain ⟨σ', H', I', q⟩ := hf
   exact ⟨σ', H', un I', q⟩
  | cont =>
   obtain ⟨σ', H', I', q⟩ := hf
   exact ⟨σ', H', un I', q⟩
  | ret u =>
   obtain ⟨v, σ', H', I', r, q⟩ := hf
   exact ⟨v, σ', H', un I', r, q⟩
 ·obtain ⟨σ', H', s', I', cx⟩ := he
  refine land hst hfm I' cx fun ea C dd H2 T s2 ee I2 hea fly ft hJ => ?_
  subst ee
  obtain ⟨C2, hea2, ht⟩ := h2 σ' ea dd H2 hJ
  exact hh pins s2 σ' H2 ea C2 dd T D I2 hea2 fly ft ht
end
end L2
namespace L2
open PySem PySem.Spec PyProof.Rows
def XR (K : PySem.W.Frag) (O : Addr → Prop) (H : Hp) (ea : Addr) (dd : Option Addr) (d : D) : Prop := ∃ c ns ds, d = .exc c ns ds ∧ H ea = some (.ext (XAt ea (clsOf K c) dd false)) ∧ FV K O H (.ref ea) d
theorem XR.keeps {K : PySem.W.Frag} {O O' : Addr → Prop} {H H' : Hp} {ea : Addr} {dd : Option Addr} {d : D} (k : Keeps O H O' H') (h : XR K O H ea dd d) : XR K O' H' ea dd d := by
 obtain ⟨c, ns, ds, rfl, e, f⟩ := h
 have n : ¬ O ea := by cases f with
  | exc0 n _ => exact n
  | exc1 n _ _ _ _ _ => exact n
 exact ⟨c, ns, ds, rfl, (k _ _ n e).2, f.keeps k⟩
def LSX (K : PySem.W.Frag) (E : D → Prop) (Eo : XK) (fs : List Nat) (ts : TS) (ps : PTS) : Prop := ∀ (fx : List (Nat × V)) (A R : Addr → Prop) (H0 : Hp) (ρ : PSt) (σ : St) (H : Hp) (D : PEnds) (D' : Ends), fx.map Prod.fst = fs → Rel K A ρ σ H → RelF fx R H0 ρ σ H → ps D ρ →
 (∀ ρ' σ' H', D.nx ρ' → Rel K A ρ' σ' H' → RelF fx R H0 ρ' σ' H' → D'.nx σ' H') →
 (∀ v p ρ' σ' H', D.rt p ρ' → Out K A ρ' σ' H0 H' p v → RelF fx R H0 ρ' σ' H' → D'.rt v H') →
 (∀ ρ' σ' H', D.bk ρ' → Rel K A ρ' σ' H' → RelF fx R H0 ρ' σ' H' → D'.bk σ' H') →
 (∀ ρ' σ' H', D.ct ρ' → Rel K A ρ' σ' H' → RelF fx R H0 ρ' σ' H' → D'.ct σ' H') →
 (∀ ρ' σ' H' ea dd d, E d → Rel K A ρ' σ' H' → RelF fx R H0 ρ' σ' H' → H0 ea = none → XR K (OO A ρ' σ') H' ea dd d → Eo (.ref ea) dd H') → ts D' σ H
theorem RelF.nn {fx : List (Nat × V)} {R : Addr → Prop} {H0 H : Hp} {ρ : PSt} {σ : St} (F : RelF fx R H0 ρ σ H) {b : Addr} (h : H b = none) : H0 b = none := by
 cases e : H0 b with
 | none => rfl
 | some o => exact absurd h (F.dm b (by rw [e]; exact nofun))
section
variable {K : PySem.W.Frag} {E : D → Prop} {Eo : XK} {fs : List Nat} {ta tb ts : TS} {pa pb ps : PTS} {te : TE} {pe : PTE} {tt : TT} {pt : PTT} {wi : TI} {pi : PTI} {g : TG} {pg : PTG}
theorem LS.x (h : LS K fs ts ps) : LSX K E Eo fs ts ps := fun fx A R H0 ρ σ H D D' hf r F q k1 k2 k3 k4 _ => h fx A R H0 ρ σ H D D' hf r F q k1 k2 k3 k4
theorem lx_seq (ha : LSX K E Eo fs ta pa) (hb : LSX K E Eo fs tb pb) : LSX K E Eo fs (tSeq ta tb) (psSeq pa pb) := fun fx A R H0 ρ σ H D D' hf r F q k1 k2 k3 k4 k5 =>
 ha fx A R H0 ρ σ H _ _ hf r F q (fun ρ1 σ1 H1 q1 r1 F1 => hb fx A R H0 ρ1 σ1 H1 _ _ hf r1 F1 q1 k1 k2 k3 k4 k5) k2 k3 k4 k5
theorem lx_if (ht : LT K tt pt) (ha : LSX K E Eo fs ta pa) (hb : LSX K E Eo fs tb pb) : LSX K E Eo fs (tIfS tt ta tb) (psIf pt pa pb) := fun fx A R H0 ρ σ H D D' hf r F q k1 k2 k3 k4 k5 => ht A ρ σ H _ _ r q fun c H1 ρ1 q1 f1 r1 => by
 cases c with
 | true => exact ha fx A R H0 ρ1 σ H1 D D' hf r1 (F.fr f1) q1 k1 k2 k3 k4 k5
 | false => exact hb fx A R H0 ρ1 σ H1 D D' hf r1 (F.fr f1) q1 k1 k2 k3 k4 k5
theorem lx_for (hi : LI K wi pi) (hg : LGd K fs g pg) (hb : LSX K E Eo fs tb pb) : LSX K E Eo fs (tFor wi g tb) (psFor pi pg pb) := fun fx A R H0 ρ σ H D D' hf r F q k1 k2 k3 k4 k5 => hi A ρ σ H _ _ r q fun J H1 n it ρ1 q1 f1 r1 W => by
 obtain ⟨I, i0, turn, after⟩ := q1
 have F1 := F.fr f1
 refine ⟨fun i m σ' H' => i + m = n ∧ ∃ ρ', I i ρ' ∧ Rel K A ρ' σ' H' ∧ RelF fx (Wr ρ1 σ) H1 ρ' σ' H', ⟨n, Nat.zero_add n, ρ1, i0, r1, RelF.start F1.fx⟩, fun i m σ' H' ⟨him, ρ', iv, r', F'⟩ => ?_⟩
 obtain ⟨go, stop⟩ := W _ H' F'.keeps r'.dom2
 by_cases hk : i < n
 ·obtain ⟨g1, g2⟩ := go i hk
  refine .inr ⟨g1, fun σ'' H'' => ∃ ρ'', I (i + 1) ρ'' ∧ Rel K A ρ'' σ'' H'' ∧ RelF fx (Wr ρ1 σ) H1 ρ'' σ'' H'', fun σ'' H'' z => ⟨m - 1, by omega, by omega, z⟩, fun x H'' y => ?_⟩
  obtain ⟨gr, fv⟩ := g2 x H'' y
  refine hg fx A (Wr ρ1 σ) H1 ρ' σ' H'' _ x _ _ hf (F'.fr gr.fr) (r'.gr gr) fv (turn i ρ' _ hk rfl iv) fun ρ2 σ2 q2 r2 F2 _ => ?_
  refine hb fx A (Wr ρ1 σ) H1 ρ2 σ2 H'' _ _ hf r2 F2 q2 (fun ρ3 σ3 H3 q3 r3 F3 => ⟨ρ3, q3, r3, F3⟩) (fun v p ρ3 σ3 H3 q3 o3 F3 => k2 v p ρ3 σ3 H3 q3 (o3.h0 F1.dm) (F1.trans F3 F3.fx)) (fun ρ3 σ3 H3 q3 r3 F3 => k1 ρ3 σ3 H3 q3 r3 (F1.trans F3 F3.fx)) (fun ρ3 σ3 H3 q3 r3 F3 => ⟨ρ3, q3, r3, F3⟩)
   (fun ρ3 σ3 H3 ea dd d q3 r3 F3 n3 x3 => k5 ρ3 σ3 H3 ea dd d q3 r3 (F1.trans F3 F3.fx) (F1.nn n3) x3)
 ·have e : i = n := by omega
  subst e
  exact .inl ⟨stop, k1 ρ' σ' H' (after ρ' iv) r' (F1.trans F' F'.fx)⟩
end
def psRaise (E : D → Prop) (pe : PTE) : PTS := fun _ ρ => pe ρ fun p _ => match p with
 | .dat d => E d
 | _ => False
section
variable {K : PySem.W.Frag} {E : D → Prop} {Eo : XK} {fs : List Nat} {ta : TA} {pa : PTA} {cs : List Str} {c f : Str}
theorem updx2 {H : Hp} {a : Addr} {o o' : HO} : upd (upd H a o) a o' = upd H a o' := by
 funext b
 by_cases z : b = a
 ·subst z; rw [upd_same, upd_same]
 ·rw [upd_ne z, upd_ne z, upd_ne z]
theorem lx_raise1 (X : XAll K cs) (hc : c ∈ cs) (h : LAs K ta pa) : LSX K E Eo fs (tRaise K (tExc1 (clsOf K c) f ta) (fun _ => Eo)) (psRaise E (pExc1 c f pa)) := fun fx A R H0 ρ σ H D D' hf r F q k1 k2 k3 k4 k5 =>
 h A ρ σ H _ _ r q fun vs H1 as ρ1 q1 f1 R1 o1 => by
  split at q1
  ·rename_i d e1
   have fs := o1.avD e1
   cases fs with
   | @cons v _ _ _ fv fr =>
    cases fr
    refine ⟨_, rfl, fun e dx he hdx hne => ⟨e, clsOf K c, clsOf K "GlueError", some dx, rfl, upd_same, X.c c hc, ?_⟩⟩
    rw [updx2]
    have he2 : upd H1 dx (.xd [(f, v)]) e = none := by rw [upd_ne (fun z => hne z.symm)]; exact he
    have g1 : Gr H1 (upd H1 dx (.xd [(f, v)])) := Gr.new hdx
    have g2 := Gr.new (o := .ext (XAt e (clsOf K c) (some dx) false)) he2
    have g : Gr H1 (upd (upd H1 dx (.xd [(f, v)])) e (.ext (XAt e (clsOf K c) (some dx) false))) := fun b o z => g2 b o (g1 b o z)
    have F1 := F.fr f1
    exact k5 ρ1 σ _ e _ _ q1 (R1.gr g) (F1.fr g.fr) (F1.nn he) ⟨_, _, _, rfl, upd_same, .exc1 (fs := [(f, v)]) (fun z => R1.dom2 e z he) (fun z => R1.dom2 dx z hdx) upd_same (by rw [upd_ne hne]; exact upd_same) rfl (.cons (fv.keeps fun b o n z => ⟨n, g b o z⟩) .nil)⟩
  ·exact q1.elim
end
abbrev FX := List D → (PV → Prop) → (D → Prop) → Prop
def spX (K : PySem.W.Frag) (c : FX) : Sp := fun vs H Q E => ∃ (O : Addr → Prop) (ds : List D) (Qc : PV → Prop) (Ec : D → Prop), (∀ b, O b → H b ≠ none) ∧ FVs K O H vs ds ∧ c ds Qc Ec ∧ (∀ r, Qc r → ∀ v H', Gr H H' → OutV K O H H' r v → Q v H') ∧
 ∀ d, Ec d → ∀ ea dd H', Gr H H' → H ea = none → XR K O H' ea dd d → E (.ref ea) dd H'
section
variable {K : PySem.W.Frag} {tr : TA} {pr : PTA} {ts : XK → TS} {ps : (D → Prop) → PTS}
def pCallN (c : FX) (pr : PTA) : PTE := fun ρ Q => pr ρ fun as ρ1 => match avD as with
 | some ds => c ds (fun r => Q r ρ1) (fun _ => False)
 | none => False
theorem le_callN {c : FX} (h : LAs K tr pr) : LE K (tCallX (spX K c) (fun _ => E0) tr) (pCallN c pr) := fun A ρ σ H Q Q' R q k => h A ρ σ H _ _ R q fun vs H1 as ρ1 q1 f1 R1 o1 => by
 split at q1
 ·rename_i ds e
  exact ⟨OO A ρ1 σ, ds, _, _, R1.dom2, o1.avD e, q1, fun r qr v H' g ov => k v H' r ρ1 qr (f1.trans g.fr) ((ov.out R1 g).h0 f1.dm), fun d z => z.elim⟩
 ·exact q1.elim
end
end L2
namespace L2
open PySem PySem.Spec PyProof.Rows
section
variable {K : PySem.W.Frag} {cs : List Str}
theorem contains_isa (X : XAll K cs) {c d : Str} (hc : c ∈ cs) (hd : d ∈ cs ∨ d = "GlueError") : (Value.ref (clsOf K c) :: .ref (clsOf K "GlueError") :: vmB).contains (.ref (clsOf K d)) = isaX c d := by
 have yd : XCl K d := hd.elim (X.n d) fun e => by rw [e]; exact X.g
 have rr : ∀ a b : Addr, (Value.ref a == Value.ref b) = decide (a = b) := fun a b => by
  by_cases h : a = b
  ·subst h; simp
  ·rw [decide_eq_false h]; exact beq_eq_false_iff_ne.mpr fun z => h (Value.ref.inj z)
 rw [List.contains_cons, List.contains_cons, rr, rr]
 have t2 : vmB.contains (Value.ref (clsOf K d)) = false := rfl
 rw [t2, Bool.or_false]
 unfold isaX
 congr 1
 ·by_cases h : c = d
  ·subst h; rw [decide_eq_true rfl, decide_eq_true rfl]
  ·rw [decide_eq_false h, decide_eq_false fun z => (X.n c hc).ne yd h z.symm]
 ·by_cases h : d = "GlueError"
  ·subst h; rw [decide_eq_true rfl, decide_eq_true rfl]
  ·rw [decide_eq_false h, decide_eq_false (yd.ne X.g h)]
end
section
variable {K : PySem.W.Frag} {A R : Addr → Prop} {fx : List (Nat × V)} {fs : List Nat} {H0 H : Hp} {ρ : PSt} {σ : St} {i : Nat}
theorem unset_get {j : Nat} {q : PV} (e : (ρ.set i none)[j]? = some (some q)) : j ≠ i ∧ ρ[j]? = some (some q) := by
 by_cases z : i = j
 ·subst z
  by_cases hi : i < ρ.length
  ·rw [List.getElem?_set_self hi] at e; cases e
  ·rw [List.getElem?_eq_none (by rw [List.length_set]; omega)] at e; cases e
 ·rw [List.getElem?_set_ne z] at e; exact ⟨fun q => z q.symm, e⟩
theorem unset_wr {b : Addr} (h : Wr (ρ.set i none) (σ.set i none) b) : Wr ρ σ b := by
 obtain ⟨j, r, e1, o1, s1⟩ := h
 obtain ⟨n, e⟩ := unset_get e1
 rw [List.getElem?_set_ne (fun z => n z.symm)] at s1
 exact ⟨j, r, e, o1, s1⟩
theorem Rel.unset (R1 : Rel K A ρ σ H) : Rel K A (ρ.set i none) (σ.set i none) H := by
 have k : Keeps (OO A ρ σ) H (OO A (ρ.set i none) (σ.set i none)) H := Keeps.less fun b z => z.imp id unset_wr
 refine ⟨by rw [List.length_set, List.length_set]; exact R1.len, fun j r e1 => ?_, fun j l p1 q1 v' e1 e2 o1 o2 s1 s2 => ?_, R1.dom, fun b z w => R1.sep b z (unset_wr w)⟩
 ·obtain ⟨n, e⟩ := unset_get e1
  obtain ⟨u, s, r'⟩ := R1.get j r e
  exact ⟨u, by rw [List.getElem?_set_ne (fun z => n z.symm)]; exact s, r'.keeps k fun _ _ _ => rfl⟩
 ·obtain ⟨n1, e1⟩ := unset_get e1
  obtain ⟨n2, e2⟩ := unset_get e2
  rw [List.getElem?_set_ne (fun z => n1 z.symm)] at s1
  rw [List.getElem?_set_ne (fun z => n2 z.symm)] at s2
  exact R1.dj j l p1 q1 v' e1 e2 o1 o2 s1 s2
theorem RelF.unset (hf : fx.map Prod.fst = fs) (hi : fs.contains i = false) (F : RelF fx R H0 ρ σ H) : RelF fx R H0 (ρ.set i none) (σ.set i none) H :=
 ⟨F.kp, F.dm, fun b w => F.ow b (unset_wr w), fun q hq => by
  have : q.1 ≠ i := fun z => by
   have h1 : i ∈ fs := by rw [← hf, ← z]; exact List.mem_map_of_mem hq
   rw [List.contains_iff_mem.mpr h1] at hi; cases hi
  rw [List.getElem?_set_ne (fun z => this z.symm)]; exact F.fx q hq⟩
end
abbrev PTH := D → PTS
def LH (K : PySem.W.Frag) (fs : List Nat) (th : THd) (ph : PTH) : Prop := ∀ (fx : List (Nat × V)) (A R : Addr → Prop) (H0 : Hp) (ρ : PSt) (σ : St) (H : Hp) (D : PEnds) (D' : Ends) (ea : Addr) (dd : Option Addr) (c : Str) (ns : List Str) (ds : List L2.D), fx.map Prod.fst = fs → Rel K A ρ σ H → RelF fx R H0 ρ σ H →
 H ea = some (.ext (XAt ea (clsOf K c) dd false)) → FV K (OO A ρ σ) H (.ref ea) (.exc c ns ds) → ph (.exc c ns ds) D ρ →
 (∀ ρ' σ' H', D.nx ρ' → Rel K A ρ' σ' H' → RelF fx R H0 ρ' σ' H' → D'.nx σ' H') →
 (∀ v p ρ' σ' H', D.rt p ρ' → Out K A ρ' σ' H0 H' p v → RelF fx R H0 ρ' σ' H' → D'.rt v H') →
 (∀ ρ' σ' H', D.bk ρ' → Rel K A ρ' σ' H' → RelF fx R H0 ρ' σ' H' → D'.bk σ' H') →
 (∀ ρ' σ' H', D.ct ρ' → Rel K A ρ' σ' H' → RelF fx R H0 ρ' σ' H' → D'.ct σ' H') → th ea (clsOf K c) dd D' σ H
def phNil : PTH := fun _ _ _ => False
def phAs (cs : List Str) (c0 : Str) (i : Nat) (pb : PTS) (rest : PTH) : PTH := fun d D ρ => match d with
 | .exc c _ _ => cs.contains c = true ∧ PIte (isaX c c0) (pb { nx := fun ρ' => D.nx (ρ'.set i none), bk := fun ρ' => D.bk (ρ'.set i none), ct := fun ρ' => D.ct (ρ'.set i none), rt := D.rt } (ρ.set i (some (.dat d)))) (rest d D ρ)
 | _ => False
section
variable {K : PySem.W.Frag} {cs : List Str} {fs : List Nat} {ts : TS} {ps : PTS} {tr : THd} {pr : PTH} {c0 : Str} {i : Nat}
theorem lh_nil : LH K fs (fun _ _ _ _ _ _ => False) phNil := fun _ _ _ _ _ _ _ _ _ _ _ _ _ _ _ _ _ _ _ h _ _ _ _ => h
theorem lh_as (X : XAll K cs) (h0 : c0 ∈ cs ∨ c0 = "GlueError") (hi : fs.contains i = false) (hs : LS K fs ts ps) (hr : LH K fs tr pr) : LH K fs (hAs K (clsOf K c0) i ts tr) (phAs cs c0 i ps pr) := fun fx A R H0 ρ σ H D D' ea dd c ns ds hf r F hea fv q k1 k2 k3 k4 => by
 obtain ⟨hc, q⟩ := (show cs.contains c = true ∧ _ from q)
 have hc : c ∈ cs := List.contains_iff_mem.mp hc
 have ek := contains_isa X hc h0
 refine ⟨clsOf K "GlueError", X.c c hc, fun e => ?_, fun e => ?_⟩
 ·rw [ek] at e
  rw [e] at q
  have o : Out K A ρ σ H0 H (.dat (.exc c ns ds)) (.ref ea) := ⟨r, fv⟩
  exact hs fx A R H0 _ _ H _ _ hf (o.put (i := i)).1 (F.put hf hi o.put.2) q (fun ρ' σ' H' q' r' F' => k1 _ _ _ q' r'.unset (F'.unset hf hi)) k2 (fun ρ' σ' H' q' r' F' => k3 _ _ _ q' r'.unset (F'.unset hf hi)) (fun ρ' σ' H' q' r' F' => k4 _ _ _ q' r'.unset (F'.unset hf hi))
 ·rw [ek] at e
  rw [e] at q
  exact hr fx A R H0 ρ σ H D D' ea dd c ns ds hf r F hea fv q k1 k2 k3 k4
end
def psTry (c : FX) (pa : PTA) (ph : PTH) : PTS := fun D ρ => pa ρ fun as ρ1 => match avD as with
 | some ds => c ds (fun _ => D.nx ρ1) (fun d => ph d D ρ1)
 | none => False
section
variable {K : PySem.W.Frag} {fs : List Nat} {ta : TA} {pa : PTA} {th : THd} {ph : PTH} {c : FX}
theorem ls_try (ha : LAs K ta pa) (hh : LH K fs th ph) : LS K fs (tTry (fun J => tSeq (tDrop (tCallX (spX K c) J ta)) tNext) th) (psTry c pa ph) := fun fx A R H0 ρ σ H D D' hf r F q k1 k2 k3 k4 => by
 refine ⟨fun σ' v dd H' => ∃ ρ1 ea d, v = .ref ea ∧ σ' = σ ∧ Rel K A ρ1 σ H' ∧ RelF fx R H0 ρ1 σ H' ∧ XR K (OO A ρ1 σ) H' ea dd d ∧ ph d D ρ1, ?_, fun σ' ea dd H' ⟨ρ1, ea', d, ev, es, r1, F1, x1, q1⟩ => ?_⟩
 ·refine ha A ρ σ H _ _ r q fun vs H1 as ρ1 q1 f1 R1 o1 => ?_
  split at q1
  ·rename_i ds e
   exact ⟨OO A ρ1 σ, ds, _, _, R1.dom2, o1.avD e, q1, fun r qr v H' g ov => k1 ρ1 σ H' qr (ov.out R1 g).frz.1 ((F.fr f1).fr g.fr), fun d qd ea dd H' g n x => ⟨ρ1, ea, d, rfl, rfl, R1.gr g, (F.fr f1).fr g.fr, x, qd⟩⟩
  ·exact q1.elim
 ·cases ev
  subst es
  obtain ⟨c, ns, ds, rfl, hea, fv⟩ := x1
  exact ⟨_, hea, hh fx A R H0 ρ1 σ' H' D D' ea dd c ns ds hf r1 F1 hea fv q1 k1 k2 k3 k4⟩
end
section
variable {K : PySem.W.Frag} {E : D → Prop} {Eo : XK} {fs : List Nat} {ta : TA} {pa : PTA} {c : FX} {te : TE} {pe : PTE} {g : TG} {pg : PTG}
end
section
variable {X : Cx} {st : Stmt} {t : TS}
theorem PS.nox (h : PS X.nox st t) : PS X st t := fun pins s σ H D I hw =>
 wpAny_mono (h pins s σ H D (I.wish _) hw) (fun f s' hs => by
  cases f with
  | next => obtain ⟨σ', H', J, q⟩ := hs; exact ⟨σ', H', J.unwish, q⟩
  | brk => obtain ⟨σ', H', J, q⟩ := hs; exact ⟨σ', H', J.unwish, q⟩
  | cont => obtain ⟨σ', H', J, q⟩ := hs; exact ⟨σ', H', J.unwish, q⟩
  | ret u => obtain ⟨v, σ', H', J, r, q⟩ := hs; exact ⟨v, σ', H', J.unwish, r, q⟩) fun _ _ z => z.elim
end
section
variable {P : Program} {w : World} {K : PySem.W.Frag} {mg : Str → Option Value} {base : Heap} {x : Str} {st : Stmt} {N ps : List Str} {k : Nat} {sp : Sp}
theorem DefAt.okE (D : DefAt K mg x st) (S : FnScope N ps (defScope st))
  (hb : ∀ (kV doc pm : Value) (an : Option Addr) (cdv ct : Value) (us : List Value), us.length = ps.length → bindArgs (PySem.W.fnOf x x (defArgs st) (defBody st) (defScope st) .none kV doc pm an cdv ct) ⟨us, []⟩ = pure (ps.zip us))
  (len : ∀ vs H Q E, sp vs H Q E → vs.length = ps.length)
  (hbody : ∀ (f : Addr) (cdv : Value) (A : Around) (outer : List Env) (s : Shared) (H : Hp) (vs : List V) (Q : VK) (E : XK), Room k (A.deeper (envOfC x (defScope st) s.heap.objs.size f cdv)) → sp vs H Q E →
   ∃ t, PSs (cxOf (CXe P w) P w K mg base N x (defScope st) f cdv A outer s H E) (defBody st) t ∧ t { nx := fun _ H' => Q .non H', rt := Q } (start N vs) H) : CalE P w K mg base (k + 1) x ps sp := by
 obtain ⟨f, fd, F, hm⟩ := D.ex
 refine ⟨f, fd, ?_, F.binds hb, F.kp, hm⟩
 obtain ⟨oc, od, kV, doc, pm, an, cdv, ct, osl, rfl, lk, hcd⟩ := F.ex
 exact fn_of lk hcd S len fun A outer s H vs Q E hr hsp => hbody f cdv A outer s H vs Q E hr hsp
end
end L2
namespace L2
open PySem PySem.Spec PyProof.Rows
theorem px0 {P : Program} {w : World} {X : Cx} : PX (CXe P w) X (fun _ => E0) := fun pins σ H s e s' I h => by
 obtain ⟨_, _, _, _, _, _, _, _, _, _, _, _, _, _, z⟩ := h
 exact z.elim
abbrev RunX (pp : (D → Prop) → PTS) (n : Nat) (ds : List D) (Q : PV → Prop) (E : D → Prop) : Prop := pp E { nx := fun _ => Q (.dat .non), rt := fun p _ => Q p } (begin_ n (ds.map .dat))
section
variable {K : PySem.W.Frag} {ts : TS} {ps : (D → Prop) → PTS}
theorem lenX {c : FX} {n : Nat} (hn : ∀ ds Q E, c ds Q E → ds.length = n) {vs : List V} {H : Hp} {Q : VK} {E : XK} (h : spX K c vs H Q E) : vs.length = n := by
 obtain ⟨O, ds, Qc, Ec, _, fv, hq, _⟩ := h
 rw [fv.length]
 exact hn ds Qc Ec hq
theorem fnX2 {c : FX} {N : List Str} {vs : List V} {H : Hp} {Q : VK} {E : XK} (hl : ∀ Ec, LSX K Ec E [] ts (ps Ec)) (hn : ∀ ds Q E, c ds Q E → ds.length ≤ N.length) (hc : ∀ ds Q E, c ds Q E → RunX ps N.length ds Q E)
  (h : spX K c vs H Q E) : ts { nx := fun _ H' => Q .non H', rt := Q } (start N vs) H := by
 obtain ⟨O, ds, Qc, Ec, dom, fv, hq, k, kx⟩ := h
 have nw : ∀ (ρ : PSt) (b : Addr), ρ = begin_ N.length (ds.map .dat) → ¬ Wr ρ (start N vs) b := fun ρ b e ⟨i, p, e1, o1, s1⟩ => by
  rw [e] at e1
  have := begin_get e1
  rw [List.getElem?_map] at this
  cases e2 : ds[i]? with
  | none => rw [e2] at this; cases this
  | some d => rw [e2] at this; cases this; cases o1
 have lenv := fv.length
 have hle := hn ds Qc Ec hq
 have R0 : Rel K O (begin_ N.length (ds.map .dat)) (start N vs) H := by
  refine ⟨?_, fun i p e => ?_, fun i j p q v e1 e2 o1 o2 s1 s2 => ?_, dom, fun b _ w => nw _ b rfl w⟩
  ·unfold begin_ start
   rw [List.length_append, List.length_append, List.length_map, List.length_map, List.length_map, List.length_replicate, List.length_replicate, lenv]
  ·have := begin_get e
   rw [List.getElem?_map] at this
   cases e2 : ds[i]? with
   | none => rw [e2] at this; cases this
   | some d =>
    rw [e2] at this; cases this
    obtain ⟨v, hv, f⟩ := fv.getD e2
    exact ⟨v, start_get hv, f.keeps (Keeps.less fun b z => z.elim id fun w => absurd w (nw _ b rfl))⟩
  ·have := begin_get e1
   rw [List.getElem?_map] at this
   cases e3 : ds[i]? with
   | none => rw [e3] at this; cases this
   | some d => rw [e3] at this; cases this; cases o1
 refine hl Ec [] O (fun _ => False) H _ _ H _ _ rfl R0 ⟨fun _ _ _ h => h, fun _ h => h, fun b w => absurd w (nw _ b rfl), fun p hp => nomatch hp⟩ (hc ds Qc Ec hq) (fun ρ' σ' H' q r F => ?_) (fun v p ρ' σ' H' q o F => ?_) (fun _ _ _ z => z.elim) (fun _ _ _ z => z.elim) (fun ρ' σ' H' ea dd d q r F n x => ?_)
 ·exact k _ q .non H' (fun b o e => F.kp b o id e) .non
 ·exact k _ q v H' (fun b o e => F.kp b o id e) o.outV
 ·exact kx d q ea dd H' (fun b o e => F.kp b o id e) n (x.keeps (Keeps.less fun b z => .inl z))
end
theorem ph_asN {X : Cx} {c0 cn n : Str} {np pos : Pos} {b0 : Stmt} {suite : List Stmt} {rest : List ExceptHandler} {ts : TS} {tr : THd} (i : Nat) (K : PySem.W.Frag) (ek : X.K = K) (hx : XD K (clsOf K c0)) (hm : X.mg cn = some (.ref (clsOf K c0))) (hN : X.N.Nodup) (hi : X.N[i]? = some n) (hk : X.env.scope.names.lookup n = some .local) (hs : ∀ e, PSs (X.mk' e).nox (b0 :: suite) ts) (hr : PH X rest tr)
  (hg : Gl X cn := by rfl) (hdb : (cn == ("__debug__" : Str)) = false := by decide) : PH X (.ExceptHandler (some (.Name cn np)) (some n) (b0 :: suite) pos :: rest) (hAs K (clsOf K c0) i ts tr) := ph_as K ek hx hm hN hi hk hs hr hg hdb
end L2
namespace L2
open PySem PySem.Spec PyProof.Rows
theorem vals_refs : ∀ {ds : List Addr} {us : List Value}, Vals (ds.map V.ref) us → us = ds.map Value.ref
 | [], _, .nil => rfl
 | d :: ds, _, .cons (l₂ := us) r rs => by
  rw [vals_refs rs]
  cases (show _ = Value.ref d from r)
  rfl
def rIsXs (K : PySem.W.Frag) : List V → Hp → VK → Prop := fun xs H Q => ∃ a C G dd new p ds b, xs = [.ref a, .ref p] ∧ H a = some (.ext (XAt a C dd new)) ∧ XC K C G ∧ H p = some (.tup (List.map V.ref ds)) ∧ PySem.W.kitAny K (.ref C) (List.map Value.ref ds) = some b ∧ Q (.bl b) H
section
variable {X : Cx}
theorem call_isXs : CallR X (.builtin "isinstance") (rIsXs X.K) := by
 intro pins s σ H xs us Q I r h
 obtain ⟨a, C, G, dd, new, p, ds, b, rfl, ea, c, hp, e, q⟩ := h
 obtain ⟨u, w', rfl, rx, ry⟩ := vals2 r
 cases (show u = Value.ref a from rx)
 cases (show w' = Value.ref p from ry)
 have ok := (show ObjOk X.prog X.w H s.heap a (.ext (XAt a C dd new)) from I.hok a _ ea)
 obtain ⟨its, rv, ⟨⟨cls, d1, data, sl⟩, ho, hc, n, hd⟩, _⟩ := I.tuple (SqT.of hp)
 simp only at hc hd
 subst hc hd
 exact PySem.W.kia_tup (kitx_exc c) I.kIn ok.1 ho (by rw [vals_refs rv]; exact e) (fun z => nomatch z) fun tk => ⟨.bl b, H, I.tok _, rfl, q⟩
theorem u_isXs (K : PySem.W.Frag) (e : X.K = K) : CallR X (.builtin "isinstance") (rIsXs K) := by subst e; exact call_isXs
end
def tRefs : List Addr → TA
 | [] => tNil
 | a :: r => tCons (tC (.ref a)) (tRefs r)
theorem tRefs_run {σ : St} {H : Hp} : ∀ {ds : List Addr} {Q : List V → Hp → Prop}, Q (ds.map V.ref) H → tRefs ds σ H Q
 | [], Q, h => h
 | d :: ds, Q, h => by
  show tRefs ds σ H fun vs H2 => Q (V.ref d :: vs) H2
  exact tRefs_run h
theorem kit_any {K : PySem.W.Frag} {cs : List Str} (X : XAll K cs) {c : Str} (hc : c ∈ cs) : ∀ {ds : List Str}, (∀ d ∈ ds, d ∈ cs ∨ d = "GlueError") → PySem.W.kitAny K (.ref (clsOf K c)) (List.map Value.ref (ds.map (clsOf K))) = some (ds.any (isaX c))
 | [], _ => rfl
 | d :: ds, h => by
  have ih := kit_any X hc (ds := ds) fun x hx => h x (List.mem_cons_of_mem _ hx)
  show (match PySem.W.kitOne K (.ref (clsOf K c)) (.ref (clsOf K d)) with | some true => some true | some false => PySem.W.kitAny K (.ref (clsOf K c)) (List.map Value.ref (ds.map (clsOf K))) | none => none) = _
  rw [kit_isa X hc (h d (List.mem_cons_self ..)), List.any_cons]
  cases isaX c d with
  | true => rfl
  | false => rw [Bool.false_or]; exact ih
def pIsXs (cs ds : List Str) (pa : PA1) : PTE := fun ρ Q => pa ρ fun x ρ1 => match cont ρ1 x with
 | some (.exc c _ _) => cs.contains c = true ∧ Q (.dat (.bl (ds.any (isaX c)))) ρ1
 | _ => False
section
variable {K : PySem.W.Frag} {te : TE} {pe : PA1} {cs : List Str}
theorem le_isXs (ds : List Str) (X : XAll K cs) (hd : ds.all (fun d => cs.contains d || decide (d = "GlueError")) = true) (hz : ds.length ≤ 1000) (h : LA1 K te pe) : LE K (tCB (rIsXs K) (tCons te (tCons (tTup (tRefs (ds.map (clsOf K)))) tNil))) (pIsXs cs ds pe) := fun A ρ σ H Q Q' R q k => h A ρ σ H _ _ R q fun v H1 a ρ1 q1 f1 R1 o1 => by
 split at q1
 ·rename_i c ns es e
  obtain ⟨hc, q1⟩ := q1
  have hc : c ∈ cs := List.contains_iff_mem.mp hc
  have ek := kit_any X hc (ds := ds) fun d hd' => by
   have := List.all_eq_true.mp hd d hd'
   rcases Bool.or_eq_true_iff.mp this with z | z
   ·exact .inl (List.contains_iff_mem.mp z)
   ·exact .inr (of_decide_eq_true z)
  refine tRefs_run ⟨by rw [List.length_map, List.length_map]; exact Nat.le_trans hz (by decide), fun p hp => ?_⟩
  have g : Gr H1 (upd H1 p (.tup ((ds.map (clsOf K)).map V.ref))) := Gr.new hp
  have fin : Q' (.bl (ds.any (isaX c))) (upd H1 p (.tup ((ds.map (clsOf K)).map V.ref))) := k _ _ _ ρ1 q1 (f1.trans g.fr) ⟨R1.gr g, .bl _⟩
  cases (R1.cont o1 e).exc with
  | exc0 n1 e1 => exact ⟨_, _, _, _, _, p, _, _, rfl, g _ _ e1, X.c c hc, upd_same, ek, fin⟩
  | exc1 n1 n2 e1 e2 m f => exact ⟨_, _, _, _, _, p, _, _, rfl, g _ _ e1, X.c c hc, upd_same, ek, fin⟩
 ·exact q1.elim
end
end L2
namespace K66
open PySem PySem.Spec PyProof.Rows L2
def top (i : Nat) : Stmt := PySem.Challenge.pw_shortglue_k66_no_pieces.main.body.getD i (.Pass ⟨0, 0, 0, 0⟩)
abbrev s_is_text : Stmt := top 12
abbrev s_read_pieces : Stmt := top 14
abbrev s_law_stream : Stmt := top 16
abbrev s_law_take : Stmt := top 17
abbrev s_law_letters : Stmt := top 18
abbrev s_law_word : Stmt := top 19
abbrev s_law_cut : Stmt := top 20
abbrev s_law_pieces : Stmt := top 21
abbrev s_law_odd : Stmt := top 22
abbrev s_law_lines : Stmt := top 23
abbrev s_law_caught : Stmt := top 24
abbrev s_law_no_line : Stmt := top 25
abbrev s_law_too_many : Stmt := top 26
abbrev s_law_spoiled : Stmt := top 27
abbrev s_law : Stmt := top 28
theorem sc_is_text : FnScope ["thing", "least", "most"] ["thing", "least", "most"] (defScope s_is_text) := ⟨rfl, rfl, rfl, by decide +kernel, rfl, by decide +kernel, by decide +kernel⟩
theorem sc_read_pieces : FnScope ["text", "pieces", "at", "line", "piece"] ["text"] (defScope s_read_pieces) := ⟨rfl, rfl, rfl, by decide +kernel, rfl, by decide +kernel, by decide +kernel⟩
theorem sc_law_stream : FnScope ["_law_script", "_law_k", "_law_cell"] ["_law_script", "_law_k"] (defScope s_law_stream) := ⟨rfl, rfl, rfl, by decide +kernel, rfl, by decide +kernel, by decide +kernel⟩
theorem sc_law_take : FnScope ["_law_stream_here", "_law_most", "_law_digit"] ["_law_stream_here", "_law_most"] (defScope s_law_take) := ⟨rfl, rfl, rfl, by decide +kernel, rfl, by decide +kernel, by decide +kernel⟩
theorem sc_law_letters : FnScope ["_law_stream_here", "_law_alphabet", "_law_way"] ["_law_stream_here"] (defScope s_law_letters) := ⟨rfl, rfl, rfl, by decide +kernel, rfl, by decide +kernel, by decide +kernel⟩
theorem sc_law_word : FnScope ["_law_stream_here", "_law_letters_here", "_law_most"] ["_law_stream_here", "_law_letters_here", "_law_most"] (defScope s_law_word) := ⟨rfl, rfl, rfl, by decide +kernel, rfl, by decide +kernel, by decide +kernel⟩
theorem sc_law_cut : FnScope ["_law_stream_here", "_law_text", "_law_most", "_law_at"] ["_law_stream_here", "_law_text", "_law_most"] (defScope s_law_cut) := ⟨rfl, rfl, rfl, by decide +kernel, rfl, by decide +kernel, by decide +kernel⟩
theorem sc_law_pieces : FnScope ["_law_stream_here", "_law_many", "_law_most", "_law_letters_here", "_law_base", "_law_found", "_law_k", "_law_way", "_law_piece"] ["_law_stream_here", "_law_many", "_law_most"] (defScope s_law_pieces) := ⟨rfl, rfl, rfl, by decide +kernel, rfl, by decide +kernel, by decide +kernel⟩
theorem sc_law_odd : FnScope ["_law_stream_here", "_law_letters_here", "_law_signs", "_law_way", "_law_word_here", "_law_at", "_law_sign"] ["_law_stream_here"] (defScope s_law_odd) := ⟨rfl, rfl, rfl, by decide +kernel, rfl, by decide +kernel, by decide +kernel⟩
theorem sc_law_lines : FnScope ["_law_stream_here", "_law_pieces_here", "_law_lines_here", "_law_piece"] ["_law_stream_here", "_law_pieces_here"] (defScope s_law_lines) := ⟨rfl, rfl, rfl, by decide +kernel, rfl, by decide +kernel, by decide +kernel⟩
theorem sc_law_caught : FnScope ["_law_text", "_law_caught_here", "error"] ["_law_text"] (defScope s_law_caught) := ⟨rfl, rfl, rfl, by decide +kernel, rfl, by decide +kernel, by decide +kernel⟩
theorem sc_law_no_line : FnScope ["_law_lines_here", "_law_at", "_law_caught_here"] ["_law_lines_here", "_law_at"] (defScope s_law_no_line) := ⟨rfl, rfl, rfl, by decide +kernel, rfl, by decide +kernel, by decide +kernel⟩
theorem sc_law_too_many : FnScope ["_law_lines_here", "_law_caught_here"] ["_law_lines_here"] (defScope s_law_too_many) := ⟨rfl, rfl, rfl, by decide +kernel, rfl, by decide +kernel, by decide +kernel⟩
theorem sc_law_spoiled : FnScope ["_law_stream_here", "_law_lines_here", "_law_bent", "_law_first", "_law_second"] ["_law_stream_here", "_law_lines_here"] (defScope s_law_spoiled) := ⟨rfl, rfl, rfl, by decide +kernel, rfl, by decide +kernel, by decide +kernel⟩
theorem sc_law : FnScope ["_law_script", "_law_k", "_law_stream_here", "_law_pieces_here", "_law_lines_here", "_law_bent", "_law_first", "_law_many", "_law_more", "_law_rest"] ["_law_script"] (defScope s_law) := ⟨rfl, rfl, rfl, by decide +kernel, rfl, by decide +kernel, by decide +kernel⟩
structure Txt (mg : Str → Option Value) : Prop where
 b_ValueError : mg "ValueError" = none
 b_abs : mg "abs" = none
 b_all : mg "all" = none
 b_bool : mg "bool" = none
 b_enumerate : mg "enumerate" = none
 b_int : mg "int" = none
 b_isinstance : mg "isinstance" = none
 b_len : mg "len" = none
 b_list : mg "list" = none
 b_max : mg "max" = none
 b_min : mg "min" = none
 b_range : mg "range" = none
 b_str : mg "str" = none
 b_tuple : mg "tuple" = none
 g_MOST_PIECES : ∃ t, mg "MOST_PIECES" = some (.int 40 t)
 g_MOST_SIGNS : ∃ t, mg "MOST_SIGNS" = some (.int 60 t)
abbrev s_TooMany_init : Stmt := inClass (top 2) 0
theorem sc_TooMany_init : FnScope ["self", "most"] ["self", "most"] (defScope s_TooMany_init) := ⟨rfl, rfl, rfl, by decide +kernel, rfl, by decide +kernel, by decide +kernel⟩
abbrev s_NoPiece_init : Stmt := inClass (top 3) 0
theorem sc_NoPiece_init : FnScope ["self", "at"] ["self", "at"] (defScope s_NoPiece_init) := ⟨rfl, rfl, rfl, by decide +kernel, rfl, by decide +kernel, by decide +kernel⟩
abbrev s_NotHeld_init : Stmt := inClass (top 4) 0
theorem sc_NotHeld_init : FnScope ["self", "at"] ["self", "at"] (defScope s_NotHeld_init) := ⟨rfl, rfl, rfl, by decide +kernel, rfl, by decide +kernel, by decide +kernel⟩
abbrev s_TooGreat_init : Stmt := inClass (top 5) 0
theorem sc_TooGreat_init : FnScope ["self", "most"] ["self", "most"] (defScope s_TooGreat_init) := ⟨rfl, rfl, rfl, by decide +kernel, rfl, by decide +kernel, by decide +kernel⟩
abbrev s_NoLine_init : Stmt := inClass (top 6) 0
theorem sc_NoLine_init : FnScope ["self", "at"] ["self", "at"] (defScope s_NoLine_init) := ⟨rfl, rfl, rfl, by decide +kernel, rfl, by decide +kernel, by decide +kernel⟩
abbrev xcs : List Str := ["TooMany", "NoPiece", "NotHeld", "TooGreat", "NoLine", "NoPaper"]
abbrev xats : List (Str × Str) := [("TooMany", "most"), ("NoPiece", "at"), ("NotHeld", "at"), ("TooGreat", "most"), ("NoLine", "at")]
structure TxX (K : PySem.W.Frag) (mg : Str → Option Value) : Prop where
 all : XAll K xcs
 at_ : ∀ c g, (c, g) ∈ xats → PySem.W.findIn K (.ref (clsOf K c)) g = some none
 m_TooMany : mg "TooMany" = some (.ref (clsOf K "TooMany"))
 m_NoPiece : mg "NoPiece" = some (.ref (clsOf K "NoPiece"))
 m_NotHeld : mg "NotHeld" = some (.ref (clsOf K "NotHeld"))
 m_TooGreat : mg "TooGreat" = some (.ref (clsOf K "TooGreat"))
 m_NoLine : mg "NoLine" = some (.ref (clsOf K "NoLine"))
 m_NoPaper : mg "NoPaper" = some (.ref (clsOf K "NoPaper"))
 m_GlueError : mg "GlueError" = some (.ref (clsOf K "GlueError"))
 d_TooMany : XD K (clsOf K "TooMany")
 d_NoPiece : XD K (clsOf K "NoPiece")
 d_NotHeld : XD K (clsOf K "NotHeld")
 d_TooGreat : XD K (clsOf K "TooGreat")
 d_NoLine : XD K (clsOf K "NoLine")
 d_NoPaper : XD K (clsOf K "NoPaper")
 d_GlueError : XD K (clsOf K "GlueError")
 z_NoPaper : X0 K (clsOf K "NoPaper")
 kp_NoPaper : PySem.W.keepIn K (.ref (clsOf K "NoPaper")) = true
local macro_rules | `(tactic| walk_at "s") => `(tactic| first | (with_reducible omega) | (with_reducible assumption) | (with_reducible rfl) | exact Nat.le_of_ble_eq_true rfl | (simp only [List.length_cons, List.length_nil, List.length_append, List.length_map]; (with_reducible omega)) | assumption | rfl | (refine ⟨?_, ?_⟩ <;> first | (with_reducible omega) | (with_reducible assumption) | (with_reducible rfl) | exact Nat.le_of_ble_eq_true rfl | assumption | rfl | (refine ⟨?_, ?_⟩ <;> first | (with_reducible omega) | (with_reducible assumption) | (with_reducible rfl) | exact Nat.le_of_ble_eq_true rfl | assumption | rfl | (refine ⟨?_, ?_⟩ <;> first | (with_reducible omega) | (with_reducible assumption) | (with_reducible rfl) | exact Nat.le_of_ble_eq_true rfl | assumption | rfl | fail) | fail) | fail) | omega | fail)
local macro_rules | `(tactic| walk_at "r") => `(tactic| ((try dsimp only [List.set_cons_zero, List.set_cons_succ]); (conv => whnf); repeat (first | (refine And.intro (by walk_at "s") ?_; (conv => whnf)) | (refine ⟨_, rfl, ?_⟩; (conv => whnf)) | (refine pitT (by with_reducible assumption) ?_; (conv => whnf)) | (refine pitF (by with_reducible assumption) ?_; (conv => whnf)) | (refine pitNT (by with_reducible assumption) ?_; (conv => whnf)) | (refine pitNF (by with_reducible assumption) ?_; (conv => whnf)) | (refine piteT (by first | (with_reducible rfl) | (with_reducible assumption) | (with_reducible omega)) ?_; (conv => whnf)) | (refine piteF (by first | (with_reducible rfl) | (with_reducible assumption) | (with_reducible omega)) ?_; (conv => whnf)) | (refine piteNT (by first | (with_reducible rfl) | (with_reducible assumption) | (with_reducible omega)) ?_; (conv => whnf)) | (refine piteNF (by first | (with_reducible rfl) | (with_reducible assumption) | (with_reducible omega)) ?_; (conv => whnf)) | (refine pitT (by assumption) ?_; (conv => whnf)) | (refine pitF (by assumption) ?_; (conv => whnf)) | (refine pitNT (by assumption) ?_; (conv => whnf)) | (refine pitNF (by assumption) ?_; (conv => whnf)) | (refine piteT (by first | rfl | assumption | omega) ?_; (conv => whnf)) | (refine piteF (by first | assumption | omega) ?_; (conv => whnf)) | (refine piteNT (by first | assumption | omega) ?_; (conv => whnf)) | (refine piteNF (by first | rfl | assumption | omega) ?_; (conv => whnf)))))
def stv (s : Int × Int) : PV := .own [.int s.1, .int s.2]
def SOk : Int × Int → Prop
 | (a, b) => 0 ≤ a ∧ 0 ≤ b ∧ b < 2 ^ 60
def nn_is_text : Nat := 3
def pc_is_text : FN
 | [d, .int a, .int b], Q => d.sort = true ∧ txLen d ≤ 1000000 ∧ Q (.dat (.bl (isTx d a b)))
 | _, _ => False
def nn_read_pieces : Nat := 5
def told (l : List Nat) : List (List Nat) := ((splitC 10 l).map (stripC 32)).filter fun w => w ≠ []
def fineW (w : List Nat) : Prop := stripC 32 w = [] ∨ Pc 60 (stripC 32 w)
def fineL (l : List Nat) (j : Nat) : Prop := fineW (pw (splitC 10 l) j)
def pc_read_pieces : FX
 | [.str l], Q, E => (l.length < 1000000 ∧ (splitC 10 l).length ≤ 1000) ∧ (∀ k : Nat, k < (splitC 10 l).length → (∀ j, j < k → fineL l j) → ¬ fineL l k → E (.exc "NoLine" ["at"] [.int k])) ∧ ((∀ j, j < (splitC 10 l).length → fineL l j) → 40 < (told l).length → E (.exc "TooMany" ["most"] [.int 40])) ∧ ((∀ j, j < (splitC 10 l).length → fineL l j) → (told l).length ≤ 40 → Q (.dat (.tup ((told l).map .str))))
 | _, _, _ => False
def nn_law_stream : Nat := 3
def pc_law_stream : FN
 | [.scr ns, .int k], Q => 0 ≤ k ∧ k ≤ 1000 ∧ ∀ s : Int × Int, SOk s → Q (stv s)
 | _, _ => False
def nn_law_take : Nat := 3
def pc_law_take : FR
 | .own [.int c0, .int c1], [.int m], Q => SOk (c0, c1) ∧ 0 < m ∧ m ≤ 1000000 ∧ ∀ (x : Int) (s : Int × Int), SOk s → 0 ≤ x → x < m → Q (.dat (.int x)) (stv s)
 | _, _, _ => False
def nn_law_letters : Nat := 3
def pc_law_letters : FR
 | .own [.int c0, .int c1], [], Q => SOk (c0, c1) ∧ ∀ (ls : List Nat) (s : Int × Int), SOk s → 2 ≤ ls.length → ls.length ≤ 26 → Lts ls → Q (.dat (.str ls)) (stv s)
 | _, _, _ => False
def nn_law_word : Nat := 3
def pc_law_word : FR
 | .own [.int c0, .int c1], [.str ls, .int m], Q => SOk (c0, c1) ∧ (0 < ls.length ∧ ls.length ≤ 26 ∧ Lts ls) ∧ (0 < m ∧ m ≤ 10000) ∧ ∀ (w : List Nat) (s : Int × Int), SOk s → 0 < w.length → w.length ≤ m.toNat → Lts w → Q (.dat (.str w)) (stv s)
 | _, _, _ => False
def nn_law_cut : Nat := 4
def pc_law_cut : FR
 | .own [.int c0, .int c1], [.str t, .int m], Q => SOk (c0, c1) ∧ (0 < t.length ∧ t.length ≤ 100000 ∧ Lts t) ∧ (0 < m ∧ m ≤ 10000) ∧ ∀ (w : List Nat) (s : Int × Int), SOk s → 0 < w.length → w.length ≤ m.toNat → Lts w → Q (.dat (.str w)) (stv s)
 | _, _, _ => False
def nn_law_pieces : Nat := 9
def pc_law_pieces : FR
 | .own [.int c0, .int c1], [.int n, .int m], Q => SOk (c0, c1) ∧ (0 ≤ n ∧ n ≤ 40) ∧ (0 < m ∧ m ≤ 60) ∧ ∀ (ps : List (List Nat)) (s : Int × Int), SOk s → ps.length = n.toNat → Pcs m.toNat ps → Q (.dat (.lst (ps.map .str))) (stv s)
 | _, _, _ => False
def nn_law_odd : Nat := 7
structure OddW (w : List Nat) : Prop where
 ln : w.length ≤ 100
 nl : 10 ∉ w
 od : ∀ i j : Nat, ¬ fineW (List.replicate i 32 ++ w ++ List.replicate j 32)
theorem odd_of {w : List Nat} (h32 : 32 ∉ w) (h10 : 10 ∉ w) (hl : w.length ≤ 100) (hn : w ≠ []) (hp : ¬ Pc 60 w) : OddW w :=
 ⟨hl, h10, fun i j z => by
  unfold fineW at z
  rw [stripC_pad i j h32] at z
  exact z.elim hn hp⟩
theorem stripC_ends {c a b : Nat} {m : List Nat} (i j : Nat) (ha : a ≠ c) (hb : b ≠ c) : stripC c (List.replicate i c ++ (a :: (m ++ [b])) ++ List.replicate j c) = a :: (m ++ [b]) := by
 have rep : ∀ (n : Nat) (r : List Nat), (List.replicate n c ++ r).takeWhile (· == c) = List.replicate n c ++ r.takeWhile (· == c) := fun n r => by
  induction n with
  | zero => rfl
  | succ n ih => rw [List.replicate_succ, List.cons_append, List.takeWhile_cons_of_pos (by simp), ih]; rfl
 have tw2 : ((a :: (m ++ [b])) ++ List.replicate j c).takeWhile (· == c) = [] := by
  rw [List.cons_append, List.takeWhile_cons_of_neg]
  simp only [beq_iff_eq]
  exact ha
 have e1 : (List.replicate i c ++ (a :: (m ++ [b])) ++ List.replicate j c).takeWhile (· == c) = List.replicate i c := by
  rw [List.append_assoc, rep, tw2, List.append_nil]
 have e2 : ((List.replicate i c ++ (a :: (m ++ [b])) ++ List.replicate j c).drop (List.replicate i c).length).reverse.takeWhile (· == c) = List.replicate j c := by
  rw [List.append_assoc, List.drop_left, List.reverse_append, List.reverse_replicate, rep]
  have : (a :: (m ++ [b])).reverse.takeWhile (· == c) = [] := by
   rw [show (a :: (m ++ [b])).reverse = b :: (m.reverse ++ [a]) by simp, List.takeWhile_cons_of_neg]
   simp only [beq_iff_eq]
   exact hb
  rw [this, List.append_nil]
 unfold stripC
 rw [e1, e2]
 have l1 : (List.replicate i c ++ (a :: (m ++ [b])) ++ List.replicate j c).length - (List.replicate j c).length = (List.replicate i c ++ (a :: (m ++ [b]))).length := by
  rw [List.length_append]; omega
 rw [l1, List.take_left, List.drop_left]
theorem odd_two {x y : List Nat} {n : Nat} (hx : Lts x) (hy : Lts y) (x0 : 0 < x.length) (y0 : 0 < y.length) (x1 : x.length ≤ 10) (y1 : y.length ≤ 10) (n0 : 0 < n) (n1 : n ≤ 10) : OddW (x ++ List.replicate n 32 ++ y) := by
 have h32 : 32 ∈ x ++ List.replicate n 32 ++ y := List.mem_append_left _ (List.mem_append_right _ (List.mem_replicate.mpr ⟨by omega, rfl⟩))
 have hlen : (x ++ List.replicate n 32 ++ y).length = x.length + n + y.length := by rw [List.length_append, List.length_append, List.length_replicate]
 refine ⟨by omega, fun z => ?_, fun i j z => ?_⟩
 ·rcases List.mem_append.mp z with z | z
  ·rcases List.mem_append.mp z with z | z
   ·exact hx.no (by decide) z
   ·have := List.eq_of_mem_replicate z; omega
  ·exact hy.no (by decide) z
 ·cases x with
  | nil => exact absurd x0 (Nat.lt_irrefl _)
  | cons a x' =>
   rcases List.eq_nil_or_concat y with rfl | ⟨y', b, rfl⟩
   ·exact absurd y0 (Nat.lt_irrefl _)
   ·rw [List.concat_eq_append] at z h32 hy
    have ha := (hx a (List.mem_cons_self ..)).1
    have hb := (hy b (List.mem_append_right _ (List.mem_singleton.mpr rfl))).1
    have e : (a :: x') ++ List.replicate n 32 ++ (y' ++ [b]) = a :: ((x' ++ List.replicate n 32 ++ y') ++ [b]) := by simp
    rw [e] at z h32
    unfold fineW at z
    rw [stripC_ends i j (by omega) (by omega)] at z
    rcases z with z | z
    ·cases z
    ·exact z.2.2.no (by decide) h32
theorem odd_sign {w : List Nat} {c : Nat} {k : Nat} (hw : Lts w) (hl : w.length ≤ 20) (hc : (c < 97 ∨ 122 < c) ∧ c ≠ 32 ∧ c ≠ 10) : OddW (w.take k ++ [c] ++ w.drop k) := by
 have mem : ∀ d, d ∈ w.take k ++ [c] ++ w.drop k → (97 ≤ d ∧ d ≤ 122) ∨ d = c := fun d z => by
  rcases List.mem_append.mp z with z | z
  ·rcases List.mem_append.mp z with z | z
   ·exact .inl (hw d (List.mem_of_mem_take z))
   ·exact .inr (List.mem_singleton.mp z)
  ·exact .inl (hw d (List.mem_of_mem_drop z))
 have hc' : c ∈ w.take k ++ [c] ++ w.drop k := List.mem_append_left _ (List.mem_append_right _ (List.mem_singleton.mpr rfl))
 refine odd_of (fun z => ?_) (fun z => ?_) ?_ (fun z => by rw [z] at hc'; cases hc') fun z => ?_
 ·rcases mem 32 z with z | z
  ·omega
  ·exact hc.2.1 z.symm
 ·rcases mem 10 z with z | z
  ·omega
  ·exact hc.2.2 z.symm
 ·rw [List.length_append, List.length_append, List.length_take, List.length_drop]; show _ + 1 + _ ≤ _; omega
 ·have := z.2.2 c hc'
  omega
theorem odd_long {c : Nat} {n : Nat} (hc : 97 ≤ c ∧ c ≤ 122) (h0 : 60 < n) (h1 : n ≤ 100) : OddW (List.replicate n c) := by
 have mem : ∀ d, d ∈ List.replicate n c → d = c := fun d z => List.eq_of_mem_replicate z
 refine odd_of (fun z => ?_) (fun z => ?_) (by rw [List.length_replicate]; exact h1) (fun z => ?_) fun z => ?_
 ·have := mem _ z; omega
 ·have := mem _ z; omega
 ·have := congrArg List.length z
  rw [List.length_replicate] at this
  have : n = 0 := this
  omega
 ·have := z.2.1
  rw [List.length_replicate] at this
  omega
abbrev abcL : List Nat := [97, 98, 99, 100, 101, 102, 103, 104, 105, 106, 107, 108, 109, 110, 111, 112, 113, 114, 115, 116, 117, 118, 119, 120, 121, 122]
theorem abc_lts : Lts abcL := all_ltB.mp (by decide)
abbrev sgL : List Nat := [33, 35, 36, 38, 39, 40, 41, 42, 43, 44, 45, 46, 47, 48, 49, 50, 51, 52, 53, 54, 55, 56, 57, 58, 59, 60, 61, 62, 63, 64, 65, 66, 67, 75, 76, 77, 88, 89, 90, 91, 93, 94, 95, 123, 124, 125, 126]
theorem sg_ok : ∀ c ∈ sgL, (c < 97 ∨ 122 < c) ∧ c ≠ 32 ∧ c ≠ 10 := by decide
def pc_law_odd : FR
 | .own [.int c0, .int c1], [], Q => SOk (c0, c1) ∧ ∀ (w : List Nat) (s : Int × Int), SOk s → OddW w → Q (.dat (.str w)) (stv s)
 | _, _, _ => False
def nn_law_lines : Nat := 4
abbrev ne0 (ws : List (List Nat)) : List (List Nat) := (ws.map (stripC 32)).filter fun w => decide (w ≠ [])
theorem ne0_app (a : List (List Nat)) (w : List Nat) : ne0 (a ++ [w]) = ne0 a ++ ne0 [w] := by
 unfold ne0
 rw [List.map_append, List.filter_append]
theorem ne0_blank (n : Nat) : ne0 [List.replicate n 32] = [] := by
 have := stripC_pad (c := 32) (w := []) n 0 (by simp)
 rw [List.append_nil, List.replicate_zero, List.append_nil] at this
 show List.filter _ [stripC 32 _] = []
 rw [this]; rfl
theorem ne0_piece {w : List Nat} (i j : Nat) (h : Pc 60 w) : ne0 [List.replicate i 32 ++ w ++ List.replicate j 32] = [w] := by
 show List.filter _ [stripC 32 _] = _
 rw [stripC_pad i j (h.2.2.no (by decide))]
 have := h.1
 rw [List.filter_cons_of_pos]
 ·rfl
 ·rw [decide_eq_true_eq]; intro z; rw [z] at this; exact absurd this (Nat.lt_irrefl _)
structure Lns (m : Nat) (lines ps : List (List Nat)) : Prop where
 len : lines.length ≤ m
 ok : ∀ w ∈ lines, 10 ∉ w ∧ w.length ≤ 70
 told : ne0 lines = ps
theorem Lns.blank {m : Nat} {lines ps : List (List Nat)} (h : Lns m lines ps) (n : Nat) (hn : n ≤ 10) : Lns (m + 1) (lines ++ [List.replicate n 32]) ps :=
 ⟨by rw [List.length_append]; have := h.len; show _ + 1 ≤ _; omega, fun w hw => (List.mem_append.mp hw).elim (h.ok w) fun z => by
  rw [List.mem_singleton.mp z]
  exact ⟨fun z => by have := List.eq_of_mem_replicate z; omega, by rw [List.length_replicate]; omega⟩, by rw [ne0_app, ne0_blank, List.append_nil]; exact h.told⟩
theorem Lns.piece {m : Nat} {lines ps : List (List Nat)} {w : List Nat} (h : Lns m lines ps) (i j : Nat) (hi : i ≤ 5) (hj : j ≤ 5) (hw : Pc 60 w) : Lns (m + 1) (lines ++ [List.replicate i 32 ++ w ++ List.replicate j 32]) (ps ++ [w]) :=
 ⟨by rw [List.length_append]; have := h.len; show _ + 1 ≤ _; omega, fun v hv => (List.mem_append.mp hv).elim (h.ok v) fun z => by
  rw [List.mem_singleton.mp z]
  refine ⟨fun z => ?_, ?_⟩
  ·rcases List.mem_append.mp z with z | z
   ·rcases List.mem_append.mp z with z | z
    ·have := List.eq_of_mem_replicate z; omega
    ·exact hw.2.2.no (by decide) z
   ·have := List.eq_of_mem_replicate z; omega
  ·have := hw.2.1
   rw [List.length_append, List.length_append, List.length_replicate, List.length_replicate]; omega, by rw [ne0_app, ne0_piece i j hw, h.told]⟩
theorem repN_sp {n : Int} (h : 0 ≤ n) (c : Nat) : repN [c] n = List.replicate n.toNat c := by
 obtain ⟨k, rfl⟩ : ∃ k : Nat, n = (k : Int) := ⟨n.toNat, by omega⟩
 rw [repN_one, Int.toNat_natCast]
theorem fine_blank (n : Nat) : fineW (List.replicate n 32) := by
 have := stripC_pad (c := 32) (w := []) n 0 (by simp)
 rw [List.append_nil, List.replicate_zero, List.append_nil] at this
 exact .inl this
theorem fine_piece (i j : Nat) {w : List Nat} (h : Pc 60 w) : fineW (List.replicate i 32 ++ w ++ List.replicate j 32) := by
 unfold fineW
 rw [stripC_pad i j (h.2.2.no (by decide))]
 exact .inr h
def pc_law_lines : FR
 | .own [.int c0, .int c1], [.lst ds], Q => SOk (c0, c1) ∧ ∃ ps : List (List Nat), ds = ps.map .str ∧ (ps.length ≤ 40 ∧ Pcs 60 ps) ∧ ∀ (ws : List (List Nat)) (s : Int × Int), SOk s → Lns (2 * ps.length) ws ps → ps.length ≤ ws.length → (∀ w ∈ ws, fineW w) → Q (.dat (.lst (ws.map .str))) (stv s)
 | _, _, _ => False
def nn_law_caught : Nat := 3
def pc_law_caught : FN
 | [.str l], Q => (l.length < 1000000 ∧ (splitC 10 l).length ≤ 1000) ∧ (∀ k : Nat, k < (splitC 10 l).length → (∀ j, j < k → fineL l j) → ¬ fineL l k → Q (.dat (.exc "NoLine" ["at"] [.int k]))) ∧ ((∀ j, j < (splitC 10 l).length → fineL l j) → 40 < (told l).length → Q (.dat (.exc "TooMany" ["most"] [.int 40]))) ∧ ((∀ j, j < (splitC 10 l).length → fineL l j) → (told l).length ≤ 40 → Q (.dat .non))
 | _, _ => False
def nn_law_no_line : Nat := 3
theorem splitC_join : ∀ ws : List (List Nat), ws ≠ [] → (∀ w ∈ ws, 10 ∉ w) → splitC 10 (joinW [10] ws) = ws
 | [w], _, h => splitC_one 10 (h w (List.mem_cons_self ..))
 | w :: v :: r, _, h => by
  show splitC 10 (w ++ [10] ++ joinW [10] (v :: r)) = _
  rw [List.append_assoc]
  show splitC 10 (w ++ 10 :: joinW [10] (v :: r)) = _
  rw [splitC_app 10 _ (h w (List.mem_cons_self ..)), splitC_join (v :: r) nofun fun x hx => h x (List.mem_cons_of_mem _ hx)]
theorem join_facts {ws : List (List Nat)} (h0 : 0 < ws.length) (hn : ws.length ≤ 1000) (hw : ∀ w ∈ ws, 10 ∉ w ∧ w.length ≤ 200) :
  splitC 10 (joinW [10] ws) = ws ∧ (joinW [10] ws).length ≤ 201000 ∧ ws.flatten.length + ws.length * [10].length ≤ 1000000 := by
 refine ⟨splitC_join ws (fun z => by rw [z] at h0; exact absurd h0 (Nat.lt_irrefl _)) fun w hw' => (hw w hw').1, ?_⟩
 have hfl : ws.flatten.length ≤ ws.length * 200 := flatten_le fun w hw' => (hw w hw').2
 have hj := joinW_len [10] ws
 have hj1 : ws.length * [10].length = ws.length := by show _ * 1 = _; omega
 exact ⟨by omega, by omega⟩
theorem fineL_join {ws : List (List Nat)} (h : splitC 10 (joinW [10] ws) = ws) (j : Nat) : fineL (joinW [10] ws) j ↔ fineW (pw ws j) := by unfold fineL; rw [h]
def pc_law_no_line : FN
 | [.lst ds, .int a], Q => ∃ ws : List (List Nat), ds = ws.map .str ∧ (0 < ws.length ∧ ws.length ≤ 1000 ∧ ∀ w ∈ ws, 10 ∉ w ∧ w.length ≤ 200) ∧ ∃ k : Nat, a = k ∧ (k < ws.length ∧ (∀ j, j < k → fineW (pw ws j)) ∧ ¬ fineW (pw ws k)) ∧ Q (.dat (.bl true))
 | _, _ => False
def nn_law_too_many : Nat := 2
def pc_law_too_many : FN
 | [.lst ds], Q => ∃ ws : List (List Nat), ds = ws.map .str ∧ (0 < ws.length ∧ ws.length ≤ 1000 ∧ ∀ w ∈ ws, 10 ∉ w ∧ w.length ≤ 200) ∧ ((∀ j, j < ws.length → fineW (pw ws j)) ∧ 40 < (ne0 ws).length) ∧ Q (.dat (.bl true))
 | _, _ => False
def nn_law_spoiled : Nat := 5
theorem pw_set_eq {ws : List (List Nat)} {i : Nat} {x : List Nat} (h : i < ws.length) : pw (ws.set i x) i = x := by
 unfold pw
 rw [List.getD_eq_getElem?_getD, List.getElem?_set_self h]; rfl
theorem pw_set_ne {ws : List (List Nat)} {i j : Nat} {x : List Nat} (h : i ≠ j) : pw (ws.set i x) j = pw ws j := by
 unfold pw
 rw [List.getD_eq_getElem?_getD, List.getElem?_set_ne h, List.getD_eq_getElem?_getD]
structure Spo (ws vs : List (List Nat)) (k : Nat) : Prop where
 len : vs.length = ws.length
 bad : k < vs.length ∧ (∀ j, j < k → fineW (pw vs j)) ∧ ¬ fineW (pw vs k)
 ok : ∀ w ∈ vs, 10 ∉ w ∧ w.length ≤ 200
theorem spo1 {ws : List (List Nat)} {i : Nat} {x : List Nat} (hfi : ∀ w ∈ ws, fineW w) (hok : ∀ w ∈ ws, 10 ∉ w ∧ w.length ≤ 100) (hi : i < ws.length) (hx : ¬ fineW x ∧ 10 ∉ x ∧ x.length ≤ 200) : Spo ws (ws.set i x) i := by
 refine ⟨List.length_set, ⟨by rw [List.length_set]; exact hi, fun j hj => ?_, ?_⟩, fun w hw => ?_⟩
 ·rw [pw_set_ne (by omega)]; exact hfi _ (pw_mem (by omega))
 ·rw [pw_set_eq hi]; exact hx.1
 ·rcases List.mem_or_eq_of_mem_set hw with z | z
  ·exact ⟨(hok w z).1, Nat.le_trans (hok w z).2 (by decide)⟩
  ·rw [z]; exact hx.2
theorem spo2 {ws : List (List Nat)} {i j m : Nat} {x y : List Nat} (hfi : ∀ w ∈ ws, fineW w) (hok : ∀ w ∈ ws, 10 ∉ w ∧ w.length ≤ 100) (hi : i < ws.length) (hj : j < ws.length) (hx : ¬ fineW x ∧ 10 ∉ x ∧ x.length ≤ 200) (hy : ¬ fineW y ∧ 10 ∉ y ∧ y.length ≤ 200) (hm : m = i ∧ i ≤ j ∨ m = j ∧ j ≤ i) : Spo ws ((ws.set i x).set j y) m := by
 have hj' : j < (ws.set i x).length := by rw [List.length_set]; exact hj
 refine ⟨by rw [List.length_set, List.length_set], ⟨by rw [List.length_set, List.length_set]; omega, fun l hl => ?_, ?_⟩, fun w hw => ?_⟩
 ·rw [pw_set_ne (by omega), pw_set_ne (by omega)]; exact hfi _ (pw_mem (by omega))
 ·by_cases e : m = j
  ·subst e; rw [pw_set_eq hj']; exact hy.1
  ·have e2 : m = i := by omega
   subst e2
   rw [pw_set_ne (by omega), pw_set_eq hi]; exact hx.1
 ·rcases List.mem_or_eq_of_mem_set hw with z | z
  ·rcases List.mem_or_eq_of_mem_set z with z | z
   ·exact ⟨(hok w z).1, Nat.le_trans (hok w z).2 (by decide)⟩
   ·rw [z]; exact hx.2
  ·rw [z]; exact hy.2
theorem odd_left {w : List Nat} (h : OddW w) (n : Nat) (hn : n ≤ 10) : ¬ fineW (List.replicate n 32 ++ w) ∧ 10 ∉ List.replicate n 32 ++ w ∧ (List.replicate n 32 ++ w).length ≤ 200 := by
 refine ⟨fun z => h.od n 0 (by rw [List.replicate_zero, List.append_nil]; exact z), fun z => ?_, ?_⟩
 ·rcases List.mem_append.mp z with z | z
  ·have := List.eq_of_mem_replicate z; omega
  ·exact h.nl z
 ·have := h.ln
  rw [List.length_append, List.length_replicate]; omega
theorem odd_right {w : List Nat} (h : OddW w) : ¬ fineW (w ++ [32]) ∧ 10 ∉ w ++ [32] ∧ (w ++ [32]).length ≤ 200 := by
 refine ⟨fun z => h.od 0 1 z, fun z => ?_, ?_⟩
 ·rcases List.mem_append.mp z with z | z
  ·exact h.nl z
  ·have := List.mem_singleton.mp z; omega
 ·have := h.ln
  rw [List.length_append]; show _ + 1 ≤ _; omega
theorem ixN_nat {n i : Nat} (h : i < n) : ixN n (i : Int) = some i := by
 unfold ixN
 rw [if_pos (by omega)]
 simp; omega
theorem ne0_rep (n : Nat) : ne0 (List.replicate n [97, 98]) = List.replicate n [97, 98] := by
 unfold ne0
 rw [List.map_replicate, show stripC 32 [97, 98] = [97, 98] by decide]
 induction n with
 | zero => rfl
 | succ n ih => rw [List.replicate_succ, List.filter_cons_of_pos (by decide), ih]
theorem ne0_apps (a b : List (List Nat)) : ne0 (a ++ b) = ne0 a ++ ne0 b := by
 unfold ne0
 rw [List.map_append, List.filter_append]
theorem repN_str {n : Int} (h : 0 ≤ n) (u : List Nat) : repN [D.str u] n = (List.replicate n.toNat u).map D.str := by
 obtain ⟨k, rfl⟩ : ∃ k : Nat, n = (k : Int) := ⟨n.toNat, by omega⟩
 rw [repN_one, Int.toNat_natCast, List.map_replicate]
theorem pc_ab : Pc 60 [97, 98] := ⟨by decide, by decide, all_ltB.mp (by decide)⟩
theorem fine_ab : fineW [97, 98] := .inr (by rw [show stripC 32 [97, 98] = [97, 98] by decide]; exact pc_ab)
structure Good (W ts : List (List Nat)) : Prop where
 pos : 0 < W.length
 len : W.length ≤ 500
 fin : ∀ w ∈ W, fineW w
 ok : ∀ w ∈ W, 10 ∉ w ∧ w.length ≤ 100
 tld : ne0 W = ts
theorem Good.more {W ts : List (List Nat)} (g : Good W ts) (n : Nat) (h : W.length + n ≤ 500) : Good (W ++ List.replicate n [97, 98]) (ts ++ List.replicate n [97, 98]) := by
 refine ⟨by rw [List.length_append]; have := g.pos; omega, by rw [List.length_append, List.length_replicate]; exact h, fun w hw => ?_, fun w hw => ?_, by rw [ne0_apps, g.tld, ne0_rep]⟩
 ·rcases List.mem_append.mp hw with z | z
  ·exact g.fin w z
  ·rw [List.eq_of_mem_replicate z]; exact fine_ab
 ·rcases List.mem_append.mp hw with z | z
  ·exact g.ok w z
  ·rw [List.eq_of_mem_replicate z]; exact ⟨by decide, by decide⟩
theorem Good.facts {W ts : List (List Nat)} (g : Good W ts) : (0 < W.length ∧ W.length ≤ 1000 ∧ ∀ w ∈ W, 10 ∉ w ∧ w.length ≤ 200) ∧ (W.flatten.length + W.length * [10].length ≤ 1000000) ∧ ((joinW [10] W).length < 1000000 ∧ (splitC 10 (joinW [10] W)).length ≤ 1000) ∧ told (joinW [10] W) = ts ∧ (∀ j, j < (splitC 10 (joinW [10] W)).length → fineL (joinW [10] W) j) ∧ ∀ j, j < W.length → fineW (pw W j) := by
 have h1 : 0 < W.length ∧ W.length ≤ 1000 ∧ ∀ w ∈ W, 10 ∉ w ∧ w.length ≤ 200 := ⟨g.pos, Nat.le_trans g.len (by decide), fun w hw => ⟨(g.ok w hw).1, Nat.le_trans (g.ok w hw).2 (by decide)⟩⟩
 obtain ⟨hs, hl, hB⟩ := join_facts h1.1 h1.2.1 h1.2.2
 refine ⟨h1, hB, ⟨by omega, by rw [hs]; exact h1.2.1⟩, ?_, fun j hj => ?_, fun j hj => g.fin _ (pw_mem hj)⟩
 ·unfold told; rw [hs]; exact g.tld
 ·rw [hs] at hj
  exact (fineL_join hs j).mpr (g.fin _ (pw_mem hj))
def pc_law_spoiled : FR
 | .own [.int c0, .int c1], [.lst ds], Q => SOk (c0, c1) ∧ ∃ ws : List (List Nat), ds = ws.map .str ∧ (0 < ws.length ∧ ws.length ≤ 500 ∧ (∀ w ∈ ws, fineW w) ∧ ∀ w ∈ ws, 10 ∉ w ∧ w.length ≤ 100) ∧ ∀ (vs : List (List Nat)) (k : Nat) (s : Int × Int), SOk s → Spo ws vs k → Q (.dat (.tup [.lst (vs.map .str), .int k])) (stv s)
 | _, _, _ => False
def nn_law : Nat := 10
abbrev pc_law : FN := cLaw
def pp_is_text : PTS := (psSeq (psIf (pOr (pNot (pB (pIsI .str (pSl 0)))) (pNot (pB (pChain fLe fLe (pSl 1) (pFz (pCB fLen (paCons (pSl 0) paNil))) (pSl 2))))) (psRet (pC (.bl false))) psNext) (psRet (pCB fAll (paCons (pFz (pComp [none] (piAny (pVar 0)) (pgName 0) pYes (pChain fLe fLe (pFz (pC (.str [97]))) (pSl 0) (pFz (pC (.str [122])))))) paNil))))
set_option maxHeartbeats 4000000 in
theorem rd_is_text_ (d : D) (a b : Int) (Q : PV → Prop) (h : pc_is_text ([d, .int a, .int b]) Q) : RunP pp_is_text nn_is_text ([d, .int a, .int b]) Q := by
 obtain ⟨hd, hl, q⟩ := h
 cases d with
 | str l =>
  have hl : l.length ≤ 1000000 := hl
  walk_at "r"
  refine piteD (fun c1 => ?_) (fun c1 => ?_)
  ·walk_at "r"
   refine piteN (fun c2 => ?_) (fun c2 => ?_)
   ·walk_at "r"
    rw [show isTx (.str l) a b = false by rw [isTx_str, decide_eq_false c2, Bool.and_false]; rfl] at q
    exact q
   ·walk_at "r"
    refine cmap (fun τ => ∃ v, τ = [v]) (fun k => .bl (ltB (l.getD k 0))) ?_ ?_ ?_
    ·exact ⟨_, rfl⟩
    ·rintro k τ _ hk rfl ⟨v, rfl⟩ K1 k1
     walk_at "r"
     refine piteN (fun c => ?_) (fun c => ?_)
     ·have hc : 97 ≤ l.getD k 0 := of_decide_eq_true (by rw [← lex_one]; rw [decide_eq_false c]; rfl)
      walk_at "r"
      show K1 (.bl (!decide (([122] : List Nat) < [l.getD k 0]))) _
      rw [lex_one]
      rw [show ltB (l.getD k 0) = decide (l.getD k 0 ≤ 122) by unfold ltB; rw [decide_eq_true hc]; rfl] at k1
      exact k1 _ ⟨_, rfl⟩
     ·have hc : ¬ 97 ≤ l.getD k 0 := of_decide_eq_false (by rw [← lex_one, decide_eq_true c]; rfl)
      walk_at "r"
      rw [show ltB (l.getD k 0) = false by unfold ltB; rw [decide_eq_false hc]; rfl] at k1
      exact k1 _ ⟨_, rfl⟩
    ·rintro τ ⟨v, rfl⟩
     walk_at "r"
     refine ⟨(List.range l.length).map fun k => ltB (l.getD k 0), by rw [List.map_map]; rfl, ?_⟩
     have e : isTx (.str l) a b = (((List.range l.length).map fun k => ltB (l.getD k 0)).all id) := by
      rw [isTx_str, decide_eq_true c1, decide_eq_true c2, Bool.and_self, Bool.true_and, range_getDf]
      rw [List.all_map]; rfl
     rw [e] at q
     exact q
  ·walk_at "r"
   rw [show isTx (.str l) a b = false by rw [isTx_str, decide_eq_false c1, Bool.false_and]; rfl] at q
   exact q
 | non => walk_at "r"; exact q
 | bl b => walk_at "r"; exact q
 | int i => walk_at "r"; exact q
 | ty n => cases hd
 | lst ds => walk_at "r"; exact q
 | tup ds => walk_at "r"; exact q
 | scr ns => cases hd
 | dic ks ds => walk_at "r"; exact q
 | obj c ns ds => cases hd
 | exc c ns ds => cases hd
theorem rd_is_text : ∀ ds Q, pc_is_text ds Q → RunP pp_is_text nn_is_text ds Q := fun ds Q h => by
 unfold pc_is_text at h
 split at h
 ·exact rd_is_text_ _ _ _ _ h
 ·exact h.elim
def pp_read_pieces (E : D → Prop) : PTS := (psSeq (psAsg (pLst paNil) (pgName 1)) (psSeq (psFor (piEnum (paCons (pFz (pSM fSplit (pVar 0) (paCons (pFz (pC (.str [10]))) paNil))) paNil)) (pgRow 2 (pgCons (pgName 2) (pgCons (pgName 3) pgNil))) (psSeq (psAsg (pSM fStrip (pVar 3) (paCons (pFz (pC (.str [32]))) paNil)) (pgName 4)) (psSeq (psIf (pAnd (pB (pOp fNe2 (pSl 4) (pFz (pC (.str []))))) (pNot (pB (pCallD pc_is_text [] (paCons (pFz (pVar 4)) (paCons (pFz (pC (.int 1))) (paCons (pFz (pC (.int 60))) paNil))))))) (psRaise E (pExc1 "NoLine" "at" (paCons (pFz (pVar 2)) paNil))) psNext) (psIf (pB (pOp fNe2 (pSl 4) (pFz (pC (.str []))))) (psDrop (pApp 1 (pVar 4))) psNext)))) (psSeq (psIf (pB (pOp fGt (pFz (pCB fLen (paCons (pSl 1) paNil))) (pFz (pC (.int 40))))) (psRaise E (pExc1 "TooMany" "most" (paCons (pFz (pC (.int 40))) paNil))) psNext) (psRet (pCB fTuple (paCons (pSl 1) paNil))))))
set_option maxHeartbeats 4000000 in
theorem rd_read_pieces_ (l : List Nat) (Q : PV → Prop) (E : D → Prop) (h : pc_read_pieces ([.str l]) Q E) : RunX pp_read_pieces nn_read_pieces ([.str l]) Q E := by
 obtain ⟨⟨hl, hn⟩, he1, he2, q⟩ := h
 have hlm : ((splitC 10 l).map D.str).length = (splitC 10 l).length := List.length_map _
 have htw : ∀ k, ((((splitC 10 l).take k).map (stripC 32)).filter fun w => decide (w ≠ [])).length ≤ 1000 := fun k => by
  refine Nat.le_trans (List.length_filter_le _ _) ?_
  rw [List.length_map, List.length_take]; omega
 walk_at "r"
 refine ⟨fun k ρ => ∃ (ps : List (List Nat)) (v2 v3 v4 : Option PV), ρ = [some (.dat (.str l)), some (.own (ps.map .str)), v2, v3, v4] ∧ ps = (((splitC 10 l).take k).map (stripC 32)).filter (fun w => decide (w ≠ [])) ∧ ∀ j, j < k → fineL l j, ⟨[], none, none, none, rfl, rfl, nofun⟩, ?_, ?_⟩
 ·rintro k ρ d hk ed ⟨ps, v2, v3, v4, rfl, hps, hfi⟩
  have hk : k < ((splitC 10 l).map D.str).length := hk
  have hk' : k < (splitC 10 l).length := by omega
  have ed : d = .tup [.int k, itD ((splitC 10 l).map D.str) k] := ed
  rw [itD_str hk] at ed
  subst ed
  have ht : ((((splitC 10 l).take (k + 1)).map (stripC 32)).filter fun w => decide (w ≠ [])) = ps ++ ([stripC 32 (pw (splitC 10 l) k)].filter fun w => decide (w ≠ [])) := by
   rw [pw_take hk', List.map_append, List.filter_append, hps]; rfl
  have hlen : (stripC 32 (pw (splitC 10 l) k)).length ≤ 1000000 := Nat.le_trans (stripC_le _ _) (Nat.le_trans (splitC_le _ _ _ (pw_mem hk')) (by omega))
  have h4 : (ps.map D.str).length ≤ 1000 := by rw [List.length_map, hps]; exact htw k
  have nxt : fineL l k → ∀ j, j < k + 1 → fineL l j := fun z j hj => by
   by_cases e : j = k
   ·subst e; exact z
   ·exact hfi j (by omega)
  walk_at "r"
  by_cases hw : stripC 32 (pw (splitC 10 l) k) = []
  ·refine piteNF hw ?_
   walk_at "r"
   exact ⟨ps, _, _, _, rfl, by rw [ht, hw]; simp, nxt (.inl hw)⟩
  ·refine piteNT hw ?_
   walk_at "r"
   by_cases hp : Pc 60 (stripC 32 (pw (splitC 10 l) k))
   ·refine pitNF (isTx_pc.mpr hp) ?_
    walk_at "r"
    exact ⟨ps ++ [stripC 32 (pw (splitC 10 l) k)], _, _, _, by rw [List.map_append]; rfl, by rw [ht]; simp [hw], nxt (.inr hp)⟩
   ·refine pitNT (by rw [Bool.eq_false_iff]; exact fun z => hp (isTx_pc.mp z)) ?_
    walk_at "r"
    exact he1 k hk' hfi fun z => z.elim hw hp
 ·rintro ρ ⟨ps, v2, v3, v4, rfl, hps, hfi⟩
  rw [hlm, List.take_length] at hps
  rw [hlm] at hfi
  have hps : ps = told l := hps
  subst hps
  have hl2 : ((told l).map D.str).length = (told l).length := List.length_map _
  walk_at "r"
  refine piteD (fun c => ?_) (fun c => ?_)
  ·walk_at "r"
   exact he2 hfi (by omega)
  ·walk_at "r"
   exact q hfi (by omega)
theorem rd_read_pieces : ∀ ds Q E, pc_read_pieces ds Q E → RunX pp_read_pieces nn_read_pieces ds Q E := fun ds Q E h => by
 unfold pc_read_pieces at h
 split at h
 ·exact rd_read_pieces_ _ _ _ h
 ·exact h.elim
def pp_law_stream : PTS := (psSeq (psAsg (pOp fAdd (pFz (pOp fMul (pFz (pOp fMul (pSl 1) (pSl 1))) (pFz (pC (.int 7919))))) (pFz (pC (.int 5)))) (pgName 2)) (psSeq (psJoin (psIf (pB (pOp fLt (pSl 1) (pFz (pCB fLen (paCons (pSl 0) paNil))))) (psAsg (pCB fAbs (paCons (pFz (pOp fIx (pSl 0) (pSl 1))) paNil)) (pgName 2)) psNext)) (psRet (pLst (paCons (pFz (pVar 2)) (paCons (pFz (pOp fAdd (pFz (pOp fAdd (pFz (pOp fMod (pSl 2) (pFz (pC (.int 2147483629))))) (pFz (pOp fMul (pSl 1) (pFz (pC (.int 7919))))))) (pFz (pC (.int 1))))) paNil))))))
set_option maxHeartbeats 4000000 in
theorem rd_law_stream_ (ns : List Int) (k : Int) (Q : PV → Prop) (h : pc_law_stream ([.scr ns, .int k]) Q) : RunP pp_law_stream nn_law_stream ([.scr ns, .int k]) Q := by
 obtain ⟨hk0, hk1, q⟩ := h
 have hkk : k * k ≤ 1000 * 1000 ∧ 0 ≤ k * k := ⟨Int.mul_le_mul hk1 hk1 hk0 (by decide), Int.mul_nonneg hk0 hk0⟩
 walk_at "r"
 refine ⟨fun ρ => ∃ c : Int, ρ = [some (.dat (.scr ns)), some (.dat (.int k)), some (.dat (.int c))] ∧ 0 ≤ c, ?_, ?_⟩
 ·walk_at "r"
  refine piteD (fun c => ?_) (fun c => ⟨_, rfl, by omega⟩)
  obtain ⟨n, rfl⟩ : ∃ n : Nat, k = (n : Int) := ⟨k.toNat, by omega⟩
  have hn : n < ns.length := by omega
  walk_at "r"
  refine ⟨ns[n], atI_of (List.getElem?_eq_getElem hn) rfl, ?_⟩
  exact ⟨_, rfl, by split <;> omega⟩
 ·rintro ρ ⟨c, rfl, hc⟩
  walk_at "r"
  exact q (c, c % 2147483629 + k * 7919 + 1) ⟨hc, by omega, by omega⟩
theorem rd_law_stream : ∀ ds Q, pc_law_stream ds Q → RunP pp_law_stream nn_law_stream ds Q := fun ds Q h => by
 unfold pc_law_stream at h
 split at h
 ·exact rd_law_stream_ _ _ _ h
 ·exact h.elim
def pp_law_take : PTS := (psSeq (psIf (pB (pOp fGt (pFz (pOp fIx (pSl 0) (pFz (pC (.int 0))))) (pFz (pC (.int 0))))) (psSeq (psAsg (pOp fMod (pFz (pOp fIx (pSl 0) (pFz (pC (.int 0))))) (pSl 1)) (pgName 2)) (psSeq (psSetI 0 (pOp fDiv (pFz (pOp fIx (pSl 0) (pFz (pC (.int 0))))) (pSl 1)) (pC (.int 0))) (psRet (pVar 2)))) psNext) (psSeq (psSetI 0 (pOp fMod (pFz (pOp fAdd (pFz (pOp fMul (pFz (pOp fIx (pSl 0) (pFz (pC (.int 1))))) (pFz (pC (.int 48271))))) (pFz (pC (.int 12345))))) (pFz (pC (.int 2147483647)))) (pC (.int 1))) (psRet (pOp fMod (pFz (pOp fMod (pFz (pOp fMul (pFz (pOp fIx (pSl 0) (pFz (pC (.int 1))))) (pFz (pOp fIx (pSl 0) (pFz (pC (.int 1))))))) (pFz (pC (.int 2147483629))))) (pSl 1)))))
set_option maxHeartbeats 4000000 in
theorem rd_law_take_ (c0 c1 m : Int) (Q : PV → PV → Prop) (h : pc_law_take (.own [.int c0, .int c1]) ([.int m]) Q) : RunR pp_law_take nn_law_take (.own [.int c0, .int c1]) ([.int m]) Q := by
 obtain ⟨⟨g0, g1, g2⟩, hm, hm2, q⟩ := h
 have mod : ∀ z : Int, 0 ≤ z % m ∧ z % m < m := fun z => ⟨Int.emod_nonneg z (by omega), Int.emod_lt_of_pos z hm⟩
 walk_at "r"
 refine piteD (fun c => ?_) (fun c => ?_)
 ·walk_at "r"
  exact q _ (_, _) ⟨Int.ediv_nonneg g0 (by omega), g1, g2⟩ (mod c0).1 (mod c0).2
 ·have n0 : 0 ≤ (c1 * 48271 + 12345) % 2147483647 := Int.emod_nonneg _ (by decide)
  have n1 : (c1 * 48271 + 12345) % 2147483647 < 2147483647 := Int.emod_lt_of_pos _ (by decide)
  walk_at "r"
  exact q _ (_, _) ⟨g0, n0, by omega⟩ (mod _).1 (mod _).2
theorem rd_law_take : ∀ p ds Q, p.isOwn = true → pc_law_take p ds Q → RunR pp_law_take nn_law_take p ds Q := fun p ds Q _ h => by
 unfold pc_law_take at h
 split at h
 ·exact rd_law_take_ _ _ _ _ h
 ·exact h.elim
def pp_law_letters : PTS := (psSeq (psAsg (pC (.str [97, 98, 99, 100, 101, 102, 103, 104, 105, 106, 107, 108, 109, 110, 111, 112, 113, 114, 115, 116, 117, 118, 119, 120, 121, 122])) (pgName 1)) (psSeq (psAsg (pCallR pc_law_take 0 (paCons (pFz (pC (.int 4))) paNil)) (pgName 2)) (psSeq (psIf (pB (pOp fEq2 (pSl 2) (pFz (pC (.int 3))))) (psRet (pVar 1)) psNext) (psRet (pSM fJoinS (pC (.str [])) (paCons (pFz (pComp [none, some 1, some 0] (piR1 (paCons (pFz (pOp fAdd (pFz (pC (.int 2))) (pFz (pOp fMod (pSl 2) (pFz (pC (.int 2))))))) paNil)) (pgName 0) pYes (pOp fIx (pSl 1) (pFz (pCallR pc_law_take 2 (paCons (pFz (pC (.int 26))) paNil)))))) paNil))))))
set_option maxHeartbeats 4000000 in
theorem rd_law_letters_ (c0 c1 : Int) (Q : PV → PV → Prop) (h : pc_law_letters (.own [.int c0, .int c1]) ([]) Q) : RunR pp_law_letters nn_law_letters (.own [.int c0, .int c1]) ([]) Q := by
 obtain ⟨g, q⟩ := h
 walk_at "r"
 intro x s hs hx0 hx1
 walk_at "r"
 refine piteD (fun c => ?_) (fun c => ?_)
 ·walk_at "r"
  exact q _ s hs (by decide) (by decide) (all_ltB.mp (by decide))
 ·walk_at "r"
  refine ⟨fun k ys τ => ∃ (v : Option PV) (s : Int × Int) (ls : List Nat), τ = [v, some (.dat (.str [97, 98, 99, 100, 101, 102, 103, 104, 105, 106, 107, 108, 109, 110, 111, 112, 113, 114, 115, 116, 117, 118, 119, 120, 121, 122])), some (stv s)] ∧ SOk s ∧ ys = ls.map (fun c => .str [c]) ∧ ls.length = k ∧ Lts ls, ⟨none, s, [], rfl, hs, rfl, rfl, Lts.nil⟩, ?_, ?_⟩
  ·rintro k ys τ _ hk rfl ⟨v, ⟨a, b⟩, ls, rfl, hs, rfl, hl, hL⟩
   walk_at "r"
   intro z s2 hs2 hz0 hz1
   obtain ⟨j, rfl⟩ : ∃ j : Nat, z = (j : Int) := ⟨z.toNat, by omega⟩
   have hj : j < 26 := by omega
   walk_at "r"
   obtain ⟨ch, hch⟩ : ∃ ch, ([97, 98, 99, 100, 101, 102, 103, 104, 105, 106, 107, 108, 109, 110, 111, 112, 113, 114, 115, 116, 117, 118, 119, 120, 121, 122] : List Nat)[j]? = some ch := ⟨_, List.getElem?_eq_getElem hj⟩
   refine ⟨ch, atI_of hch rfl, ?_⟩
   have hm := List.mem_of_getElem? hch
   exact ⟨_, s2, ls ++ [ch], rfl, hs2, by rw [List.map_append]; rfl, by rw [List.length_append, hl]; rfl, hL.app (Lts.one (by simp only [List.mem_cons, List.not_mem_nil, or_false] at hm; omega))⟩
  ·rintro ys τ ⟨v, s2, ls, rfl, hs2, rfl, hl, hL⟩
   walk_at "r"
   refine ⟨ls.map fun c => [c], ones_str ls, ?_, ?_⟩
   ·rw [ones_flatten]; omega
   ·rw [ones_flatten]; walk_at "r"; exact q ls s2 hs2 (by omega) (by omega) hL
theorem rd_law_letters : ∀ p ds Q, p.isOwn = true → pc_law_letters p ds Q → RunR pp_law_letters nn_law_letters p ds Q := fun p ds Q _ h => by
 unfold pc_law_letters at h
 split at h
 ·exact rd_law_letters_ _ _ _ h
 ·exact h.elim
def pp_law_word : PTS := (psRet (pSM fJoinS (pC (.str [])) (paCons (pFz (pComp [none, some 1, some 0] (piR1 (paCons (pFz (pOp fAdd (pFz (pC (.int 1))) (pFz (pCallR pc_law_take 0 (paCons (pFz (pVar 2)) paNil))))) paNil)) (pgName 0) pYes (pOp fIx (pSl 1) (pFz (pCallR pc_law_take 2 (paCons (pFz (pCB fLen (paCons (pSl 1) paNil))) paNil)))))) paNil)))
set_option maxHeartbeats 4000000 in
theorem rd_law_word_ (c0 c1 m : Int) (ls : List Nat) (Q : PV → PV → Prop) (h : pc_law_word (.own [.int c0, .int c1]) ([.str ls, .int m]) Q) : RunR pp_law_word nn_law_word (.own [.int c0, .int c1]) ([.str ls, .int m]) Q := by
 obtain ⟨g, ⟨h0, h26, hls⟩, ⟨hm, hm2⟩, q⟩ := h
 walk_at "r"
 intro x s hs hx0 hx1
 walk_at "r"
 refine ⟨fun k ys τ => ∃ (v : Option PV) (s : Int × Int) (ws : List Nat), τ = [v, some (.dat (.str ls)), some (stv s)] ∧ SOk s ∧ ys = ws.map (fun c => .str [c]) ∧ ws.length = k ∧ Lts ws, ⟨none, s, [], rfl, hs, rfl, rfl, Lts.nil⟩, ?_, ?_⟩
 ·rintro k ys τ _ hk rfl ⟨v, ⟨a, b⟩, ws, rfl, hs, rfl, hl, hL⟩
  walk_at "r"
  intro z s2 hs2 hz0 hz1
  obtain ⟨j, rfl⟩ : ∃ j : Nat, z = (j : Int) := ⟨z.toNat, by omega⟩
  have hj : j < ls.length := by omega
  walk_at "r"
  refine ⟨_, atI_of (List.getElem?_eq_getElem hj) rfl, ?_⟩
  exact ⟨_, s2, ws ++ [ls[j]], rfl, hs2, by rw [List.map_append]; rfl, by rw [List.length_append, hl]; rfl, hL.app (Lts.one (hls _ (List.getElem_mem hj)))⟩
 ·rintro ys τ ⟨v, s2, ws, rfl, hs2, rfl, hl, hL⟩
  walk_at "r"
  refine ⟨ws.map fun c => [c], ones_str ws, ?_, ?_⟩
  ·rw [ones_flatten]; omega
  ·rw [ones_flatten]; walk_at "r"; exact q ws s2 hs2 (by omega) (by omega) hL
theorem rd_law_word : ∀ p ds Q, p.isOwn = true → pc_law_word p ds Q → RunR pp_law_word nn_law_word p ds Q := fun p ds Q _ h => by
 unfold pc_law_word at h
 split at h
 ·exact rd_law_word_ _ _ _ _ _ h
 ·exact h.elim
def pp_law_cut : PTS := (psSeq (psAsg (pCallR pc_law_take 0 (paCons (pFz (pCB fLen (paCons (pSl 1) paNil))) paNil)) (pgName 3)) (psRet (pSlice (pSl 1) (poSome (pVar 3)) (poSome (pOp fAdd (pFz (pOp fAdd (pSl 3) (pFz (pC (.int 1))))) (pFz (pCallR pc_law_take 0 (paCons (pFz (pVar 2)) paNil))))))))
set_option maxHeartbeats 4000000 in
theorem rd_law_cut_ (c0 c1 m : Int) (t : List Nat) (Q : PV → PV → Prop) (h : pc_law_cut (.own [.int c0, .int c1]) ([.str t, .int m]) Q) : RunR pp_law_cut nn_law_cut (.own [.int c0, .int c1]) ([.str t, .int m]) Q := by
 obtain ⟨g, ⟨h0, h1, ht⟩, ⟨hm, hm2⟩, q⟩ := h
 walk_at "r"
 rintro x ⟨a, b⟩ hs hx0 hx1
 walk_at "r"
 intro y s2 hs2 hy0 hy1
 walk_at "r"
 obtain ⟨i, rfl⟩ : ∃ i : Nat, x = (i : Int) := ⟨x.toNat, by omega⟩
 obtain ⟨j, rfl⟩ : ∃ j : Nat, y = (j : Int) := ⟨y.toNat, by omega⟩
 show Q (.dat (.str (cutN t (some (i : Int)) (some ((i : Int) + 1 + (j : Int)))))) _
 rw [show (i : Int) + 1 + (j : Int) = ((i + 1 + j : Nat) : Int) by omega, cutN_both]
 exact q _ s2 hs2 (by rw [List.length_take, List.length_drop]; omega) (by rw [List.length_take, List.length_drop]; omega) ((ht.drop _).take _)
theorem rd_law_cut : ∀ p ds Q, p.isOwn = true → pc_law_cut p ds Q → RunR pp_law_cut nn_law_cut p ds Q := fun p ds Q _ h => by
 unfold pc_law_cut at h
 split at h
 ·exact rd_law_cut_ _ _ _ _ _ h
 ·exact h.elim
def pp_law_pieces : PTS := (psSeq (psAsg (pCallR pc_law_letters 0 paNil) (pgName 3)) (psSeq (psAsg (pCallR pc_law_word 0 (paCons (pFz (pVar 3)) (paCons (pFz (pOp fMul (pFz (pC (.int 3))) (pSl 2))) paNil))) (pgName 4)) (psSeq (psJoin (psIf (pB (pOp fEq2 (pFz (pCallR pc_law_take 0 (paCons (pFz (pC (.int 3))) paNil))) (pFz (pC (.int 0))))) (psAsg (pOp fMul (pFz (pSlice (pSl 4) poNone (poSome (pOp fAdd (pFz (pC (.int 1))) (pFz (pCallR pc_law_take 0 (paCons (pFz (pC (.int 4))) paNil))))))) (pSl 2)) (pgName 4)) psNext)) (psSeq (psAsg (pLst paNil) (pgName 5)) (psSeq (psFor (piR1 (paCons (pFz (pVar 1)) paNil)) (pgName 6) (psSeq (psAsg (pCallR pc_law_take 0 (paCons (pFz (pC (.int 5))) paNil)) (pgName 7)) (psSeq (psJoin (psIf (pAnd (pB (pOp fGt (pSl 7) (pFz (pC (.int 2))))) (pB (pOp fGt (pFz (pCB fLen (paCons (pSl 5) paNil))) (pFz (pC (.int 0)))))) (psSeq (psAsg (pOp fIx (pSl 5) (pFz (pCallR pc_law_take 0 (paCons (pFz (pCB fLen (paCons (pSl 5) paNil))) paNil)))) (pgName 8)) (psIf (pB (pOp fEq2 (pSl 7) (pFz (pC (.int 3))))) (psAsg (pCallR pc_law_cut 0 (paCons (pFz (pVar 8)) (paCons (pFz (pVar 2)) paNil))) (pgName 8)) psNext)) (psIf (pB (pOp fEq2 (pFz (pOp fMod (pSl 7) (pFz (pC (.int 2))))) (pFz (pC (.int 1))))) (psAsg (pCallR pc_law_cut 0 (paCons (pFz (pVar 4)) (paCons (pFz (pVar 2)) paNil))) (pgName 8)) (psAsg (pCallR pc_law_word 0 (paCons (pFz (pVar 3)) (paCons (pFz (pVar 2)) paNil))) (pgName 8))))) (psDrop (pApp 5 (pVar 8)))))) (psRet (pVar 5)))))))
set_option maxHeartbeats 4000000 in
theorem rd_law_pieces_ (c0 c1 n m : Int) (Q : PV → PV → Prop) (h : pc_law_pieces (.own [.int c0, .int c1]) ([.int n, .int m]) Q) : RunR pp_law_pieces nn_law_pieces (.own [.int c0, .int c1]) ([.int n, .int m]) Q := by
 obtain ⟨g, ⟨hn0, hn⟩, ⟨hm, hm60⟩, q⟩ := h
 walk_at "r"
 rintro ls ⟨a, b⟩ hs hl2 hl26 hL
 walk_at "r"
 rintro ba ⟨a, b⟩ hs ba0 bam baL
 walk_at "r"
 refine ⟨fun ρ => ∃ (bs : List Nat) (s : Int × Int), ρ = [some (stv s), some (.dat (.int n)), some (.dat (.int m)), some (.dat (.str ls)), some (.dat (.str bs)), none, none, none, none] ∧ SOk s ∧ 0 < bs.length ∧ bs.length ≤ 20000 ∧ Lts bs, ?_, ?_⟩
 ·walk_at "r"
  rintro z ⟨a, b⟩ hs hz0 hz1
  walk_at "r"
  refine piteD (fun c => ?_) (fun c => ⟨ba, (a, b), rfl, hs, ba0, by omega, baL⟩)
  walk_at "r"
  rintro y s2 hs2 hy0 hy1
  walk_at "r"
  have h1 := cutN_length_le ba none (some (1 + y))
  have h3 : m.toNat * (cutN ba none (some (1 + y))).length ≤ 60 * 180 := Nat.mul_le_mul (by omega) (by omega)
  have h4 : 0 < (cutN ba none (some (1 + y))).length := by
   rw [cutN_toI _ (by omega), List.length_take]; omega
  have h5 : 0 < m.toNat * (cutN ba none (some (1 + y))).length := Nat.mul_pos (by omega) h4
  refine ⟨⟨by omega, by omega, by omega⟩, ?_⟩
  exact ⟨repN (cutN ba none (some (1 + y))) m, s2, rfl, hs2, by rw [repN_length]; exact h5, by rw [repN_length]; omega, (baL.cut _ _).rep _⟩
 rintro ρ ⟨bs, s3, rfl, hs3, b0, bm, bL⟩
 walk_at "r"
 refine ⟨fun k ρ => ∃ (ps : List (List Nat)) (s : Int × Int) (v6 v7 v8 : Option PV), ρ = [some (stv s), some (.dat (.int n)), some (.dat (.int m)), some (.dat (.str ls)), some (.dat (.str bs)), some (.own (ps.map .str)), v6, v7, v8] ∧ SOk s ∧ ps.length = k ∧ Pcs m.toNat ps, ⟨[], s3, none, none, none, rfl, hs3, rfl, nofun⟩, ?_, ?_⟩
 ·rintro k ρ _ hk rfl ⟨ps, ⟨a, b⟩, v6, v7, v8, rfl, hs, hpl, hps⟩
  have hlm : (ps.map D.str).length = ps.length := List.length_map _
  walk_at "r"
  rintro way ⟨a, b⟩ hs hw0 hw1
  walk_at "r"
  refine ⟨fun ρ => ∃ (w : List Nat) (s : Int × Int) (v6 v7 : Option PV), ρ = [some (stv s), some (.dat (.int n)), some (.dat (.int m)), some (.dat (.str ls)), some (.dat (.str bs)), some (.own (ps.map .str)), v6, v7, some (.dat (.str w))] ∧ SOk s ∧ Pc m.toNat w, ?_, ?_⟩
  ·walk_at "r"
   refine piteD (fun c => ?_) (fun c => ?_)
   ·walk_at "r"
    refine piteD (fun c2 => ?_) (fun c2 => ?_)
    ·walk_at "r"
     rintro z ⟨a, b⟩ hs hz0 hz1
     obtain ⟨j, rfl⟩ : ∃ j : Nat, z = (j : Int) := ⟨z.toNat, by omega⟩
     have hj : j < ps.length := by omega
     have ho := hps _ (pw_mem hj)
     obtain ⟨ho1, ho2, ho3⟩ := id ho
     walk_at "r"
     refine ⟨_, atI_str hj rfl, ?_⟩
     walk_at "r"
     refine piteD (fun _ => ?_) (fun _ => ⟨pw ps j, (a, b), _, _, rfl, hs, ho⟩)
     walk_at "r"
     rintro w s hs w0 wm wL
     exact ⟨w, s, _, _, rfl, hs, w0, wm, wL⟩
    ·walk_at "r"
     refine piteD (fun _ => ?_) (fun _ => ?_)
     ·walk_at "r"
      rintro w s hs w0 wm wL
      exact ⟨w, s, _, _, rfl, hs, w0, wm, wL⟩
     ·walk_at "r"
      rintro w s hs w0 wm wL
      exact ⟨w, s, _, _, rfl, hs, w0, wm, wL⟩
   ·walk_at "r"
    refine piteD (fun _ => ?_) (fun _ => ?_)
    ·walk_at "r"
     rintro w s hs w0 wm wL
     exact ⟨w, s, _, _, rfl, hs, w0, wm, wL⟩
    ·walk_at "r"
     rintro w s hs w0 wm wL
     exact ⟨w, s, _, _, rfl, hs, w0, wm, wL⟩
  ·rintro ρ ⟨w, s, v6, v7, rfl, hs, hw⟩
   walk_at "r"
   exact ⟨ps ++ [w], s, _, _, _, by rw [List.map_append]; rfl, hs, by rw [List.length_append, hpl]; rfl, hps.app hw⟩
 ·rintro ρ ⟨ps, s, v6, v7, v8, rfl, hs, hpl, hps⟩
  walk_at "r"
  exact q ps s hs hpl hps
theorem rd_law_pieces : ∀ p ds Q, p.isOwn = true → pc_law_pieces p ds Q → RunR pp_law_pieces nn_law_pieces p ds Q := fun p ds Q _ h => by
 unfold pc_law_pieces at h
 split at h
 ·exact rd_law_pieces_ _ _ _ _ _ h
 ·exact h.elim
def pp_law_odd : PTS := (psSeq (psAsg (pC (.str [97, 98, 99, 100, 101, 102, 103, 104, 105, 106, 107, 108, 109, 110, 111, 112, 113, 114, 115, 116, 117, 118, 119, 120, 121, 122])) (pgName 1)) (psSeq (psAsg (pC (.str [33, 35, 36, 38, 39, 40, 41, 42, 43, 44, 45, 46, 47, 48, 49, 50, 51, 52, 53, 54, 55, 56, 57, 58, 59, 60, 61, 62, 63, 64, 65, 66, 67, 75, 76, 77, 88, 89, 90, 91, 93, 94, 95, 123, 124, 125, 126])) (pgName 2)) (psSeq (psAsg (pCallR pc_law_take 0 (paCons (pFz (pC (.int 4))) paNil)) (pgName 3)) (psSeq (psAsg (pCallR pc_law_word 0 (paCons (pFz (pVar 1)) (paCons (pFz (pC (.int 10))) paNil))) (pgName 4)) (psSeq (psIf (pB (pOp fEq2 (pSl 3) (pFz (pC (.int 0))))) (psRet (pOp fAdd (pFz (pOp fAdd (pSl 4) (pFz (pOp fMul (pFz (pC (.str [32]))) (pFz (pOp fAdd (pFz (pC (.int 1))) (pFz (pCallR pc_law_take 0 (paCons (pFz (pC (.int 3))) paNil))))))))) (pFz (pCallR pc_law_word 0 (paCons (pFz (pVar 1)) (paCons (pFz (pC (.int 10))) paNil)))))) psNext) (psSeq (psIf (pB (pOp fEq2 (pSl 3) (pFz (pC (.int 1))))) (psRet (pOp fMul (pFz (pOp fIx (pSl 1) (pFz (pCallR pc_law_take 0 (paCons (pFz (pC (.int 26))) paNil))))) (pFz (pOp fAdd (pFz (pC (.int 61))) (pFz (pCallR pc_law_take 0 (paCons (pFz (pC (.int 9))) paNil))))))) psNext) (psSeq (psAsg (pCallR pc_law_take 0 (paCons (pFz (pOp fAdd (pFz (pCB fLen (paCons (pSl 4) paNil))) (pFz (pC (.int 1))))) paNil)) (pgName 5)) (psSeq (psAsg (pOp fIx (pSl 2) (pFz (pCallR pc_law_take 0 (paCons (pFz (pCB fLen (paCons (pSl 2) paNil))) paNil)))) (pgName 6)) (psSeq (psIf (pB (pOp fEq2 (pSl 3) (pFz (pC (.int 2))))) (psRet (pVar 6)) psNext) (psRet (pOp fAdd (pFz (pOp fAdd (pFz (pSlice (pSl 4) poNone (poSome (pVar 5)))) (pSl 6))) (pFz (pSlice (pSl 4) (poSome (pVar 5)) poNone)))))))))))))
set_option maxHeartbeats 4000000 in
theorem rd_law_odd_ (c0 c1 : Int) (Q : PV → PV → Prop) (h : pc_law_odd (.own [.int c0, .int c1]) ([]) Q) : RunR pp_law_odd nn_law_odd (.own [.int c0, .int c1]) ([]) Q := by
 obtain ⟨g, q⟩ := h
 have hab : 0 < abcL.length ∧ abcL.length ≤ 26 ∧ Lts abcL := ⟨by decide, by decide, abc_lts⟩
 walk_at "r"
 rintro way ⟨a, b⟩ hs hw0 hw1
 walk_at "r"
 rintro w ⟨a, b⟩ hs w0 wm wL
 have wm : w.length ≤ 10 := wm
 walk_at "r"
 refine piteD (fun c => ?_) (fun c => ?_)
 ·walk_at "r"
  rintro y ⟨a, b⟩ hs hy0 hy1
  have e1 : (repN [32] (1 + y)).length ≤ 5 := by rw [repN_sp (by omega), List.length_replicate]; omega
  walk_at "r"
  rintro v s hs v0 vm vL
  have vm : v.length ≤ 10 := vm
  walk_at "r"
  rw [repN_sp (by omega)]
  exact q _ s hs (odd_two wL vL w0 v0 wm vm (by omega) (by omega))
 ·walk_at "r"
  refine piteD (fun c2 => ?_) (fun c2 => ?_)
  ·walk_at "r"
   rintro y ⟨a, b⟩ hs hy0 hy1
   obtain ⟨j, rfl⟩ : ∃ j : Nat, y = (j : Int) := ⟨y.toNat, by omega⟩
   have hj : j < abcL.length := by show j < 26; omega
   walk_at "r"
   refine ⟨_, atI_of (List.getElem?_eq_getElem hj) rfl, ?_⟩
   have hc := abc_lts _ (List.getElem_mem hj)
   generalize abcL[j] = ch at hc ⊢
   walk_at "r"
   rintro z s hs hz0 hz1
   walk_at "r"
   rw [repN_sp (by omega)]
   exact q _ s hs (odd_long hc (by omega) (by omega))
  ·walk_at "r"
   rintro y ⟨a, b⟩ hs hy0 hy1
   walk_at "r"
   rintro z s hs hz0 hz1
   have hz1 : z < 47 := hz1
   obtain ⟨j, rfl⟩ : ∃ j : Nat, z = (j : Int) := ⟨z.toNat, by omega⟩
   have hj : j < sgL.length := by show j < 47; omega
   walk_at "r"
   refine ⟨_, atI_of (j := j) (List.getElem?_eq_getElem (l := sgL) hj) rfl, ?_⟩
   have hc := sg_ok _ (List.getElem_mem hj)
   generalize sgL[j] = ch at hc ⊢
   walk_at "r"
   refine piteD (fun c3 => ?_) (fun c3 => ?_)
   ·walk_at "r"
    have := odd_sign (w := []) (k := 0) Lts.nil (by decide) hc
    exact q _ s hs this
   ·obtain ⟨i, rfl⟩ : ∃ i : Nat, y = (i : Int) := ⟨y.toNat, by omega⟩
    have l1 := cutN_length_le w none (some (i : Int))
    have l2 := cutN_length_le w (some (i : Int)) none
    walk_at "r"
    have e1 : cutN w none (some (i : Int)) = w.take i := cutN_to _ _
    have e2 : cutN w (some (i : Int)) none = w.drop i := cutN_from _ _
    rw [e1, e2]
    exact q _ s hs (odd_sign (k := i) wL (by omega) hc)
theorem rd_law_odd : ∀ p ds Q, p.isOwn = true → pc_law_odd p ds Q → RunR pp_law_odd nn_law_odd p ds Q := fun p ds Q _ h => by
 unfold pc_law_odd at h
 split at h
 ·exact rd_law_odd_ _ _ _ h
 ·exact h.elim
def pp_law_lines : PTS := (psSeq (psAsg (pLst paNil) (pgName 2)) (psSeq (psFor (piAny (pVar 1)) (pgName 3) (psSeq (psJoin (psIf (pB (pOp fEq2 (pFz (pCallR pc_law_take 0 (paCons (pFz (pC (.int 4))) paNil))) (pFz (pC (.int 3))))) (psDrop (pApp 2 (pOp fMul (pFz (pC (.str [32]))) (pFz (pCallR pc_law_take 0 (paCons (pFz (pC (.int 3))) paNil)))))) psNext)) (psDrop (pApp 2 (pOp fAdd (pFz (pOp fAdd (pFz (pOp fMul (pFz (pC (.str [32]))) (pFz (pCallR pc_law_take 0 (paCons (pFz (pC (.int 3))) paNil))))) (pSl 3))) (pFz (pOp fMul (pFz (pC (.str [32]))) (pFz (pCallR pc_law_take 0 (paCons (pFz (pC (.int 3))) paNil)))))))))) (psRet (pVar 2))))
set_option maxHeartbeats 4000000 in
theorem rd_law_lines_ (c0 c1 : Int) (ds : List D) (Q : PV → PV → Prop) (h : pc_law_lines (.own [.int c0, .int c1]) ([.lst ds]) Q) : RunR pp_law_lines nn_law_lines (.own [.int c0, .int c1]) ([.lst ds]) Q := by
 obtain ⟨g, ps, rfl, ⟨h40, hps⟩, q⟩ := h
 have hlm : (ps.map D.str).length = ps.length := List.length_map _
 walk_at "r"
 refine ⟨fun k ρ => ∃ (lines : List (List Nat)) (s : Int × Int) (v3 : Option PV), ρ = [some (stv s), some (.dat (.lst (ps.map .str))), some (.own (lines.map .str)), v3] ∧ SOk s ∧ Lns (2 * k) lines (ps.take k) ∧ k ≤ lines.length ∧ ∀ w ∈ lines, fineW w, ⟨[], (c0, c1), _, rfl, g, ⟨Nat.le_refl _, nofun, rfl⟩, Nat.le_refl _, nofun⟩, ?_, ?_⟩
 ·rintro k ρ d hk ed ⟨lines, ⟨a, b⟩, v3, rfl, hs, L, hkl, hfi⟩
  rw [itD_str hk] at ed
  subst ed
  have hk' : k < ps.length := by omega
  have hlen : (lines.map D.str).length = lines.length := List.length_map _
  have := L.len
  walk_at "r"
  refine ⟨fun ρ => ∃ (lines : List (List Nat)) (s : Int × Int), ρ = [some (stv s), some (.dat (.lst (ps.map .str))), some (.own (lines.map .str)), some (.dat (.str (pw ps k)))] ∧ SOk s ∧ Lns (2 * k + 1) lines (ps.take k) ∧ k ≤ lines.length ∧ ∀ w ∈ lines, fineW w, ?_, ?_⟩
  ·walk_at "r"
   rintro x ⟨a, b⟩ hs hx0 hx1
   walk_at "r"
   refine piteD (fun c => ?_) (fun c => ⟨lines, (a, b), rfl, hs, ⟨by omega, L.ok, L.told⟩, hkl, hfi⟩)
   walk_at "r"
   rintro y s hs hy0 hy1
   have e1 : (repN [32] y).length ≤ 5 := by rw [repN_sp hy0, List.length_replicate]; omega
   walk_at "r"
   refine ⟨lines ++ [repN [32] y], s, by rw [List.map_append]; rfl, hs, ?_, by rw [List.length_append]; omega, fun w hw => ?_⟩
   ·rw [repN_sp hy0]; exact L.blank _ (by omega)
   ·rcases List.mem_append.mp hw with z | z
    ·exact hfi w z
    ·rw [List.mem_singleton.mp z, repN_sp hy0]; exact fine_blank _
  ·rintro ρ ⟨lines, ⟨a, b⟩, rfl, hs, L, hkl, hfi⟩
   have hlen : (lines.map D.str).length = lines.length := List.length_map _
   have := L.len
   have hp := hps _ (pw_mem hk')
   have hp2 := hp.2.1
   walk_at "r"
   rintro y ⟨a, b⟩ hs hy0 hy1
   have e1 : (repN [32] y).length ≤ 5 := by rw [repN_sp hy0, List.length_replicate]; omega
   walk_at "r"
   rintro z s hs hz0 hz1
   have e2 : (repN [32] z).length ≤ 5 := by rw [repN_sp hz0, List.length_replicate]; omega
   walk_at "r"
   refine ⟨lines ++ [repN [32] y ++ pw ps k ++ repN [32] z], s, _, by rw [List.map_append]; rfl, hs, ?_, by rw [List.length_append]; show _ ≤ _ + 1; omega, fun w hw => ?_⟩
   ·rw [pw_take hk', repN_sp hy0, repN_sp hz0]
    have L2 := L.piece y.toNat z.toNat (by omega) (by omega) hp
    exact ⟨by have := L2.len; omega, L2.ok, L2.told⟩
   ·rcases List.mem_append.mp hw with z' | z'
    ·exact hfi w z'
    ·rw [List.mem_singleton.mp z', repN_sp hy0, repN_sp hz0]; exact fine_piece _ _ hp
 ·rintro ρ ⟨lines, ⟨a, b⟩, v3, rfl, hs, L, hkl, hfi⟩
  rw [hlm, List.take_length] at L
  rw [hlm] at hkl
  walk_at "r"
  exact q lines (a, b) hs L hkl hfi
theorem rd_law_lines : ∀ p ds Q, p.isOwn = true → pc_law_lines p ds Q → RunR pp_law_lines nn_law_lines p ds Q := fun p ds Q _ h => by
 unfold pc_law_lines at h
 split at h
 ·exact rd_law_lines_ _ _ _ _ h
 ·exact h.elim
def pp_law_caught : PTS := (psSeq (psAsg (pC .non) (pgName 1)) (psSeq (psTry pc_read_pieces (paCons (pFz (pVar 0)) paNil) (phAs xcs "GlueError" 2 (psAsg (pVar 2) (pgName 1)) phNil)) (psRet (pVar 1))))
set_option maxHeartbeats 4000000 in
theorem rd_law_caught_ (l : List Nat) (Q : PV → Prop) (h : pc_law_caught ([.str l]) Q) : RunP pp_law_caught nn_law_caught ([.str l]) Q := by
 obtain ⟨hl, he1, he2, q⟩ := h
 have i1 : isaX "NoLine" "GlueError" = true := by decide +kernel
 have i2 : isaX "TooMany" "GlueError" = true := by decide +kernel
 walk_at "r"
 refine ⟨fun k hk hf hb => ?_, fun hf hm => ?_, fun hf hm => ?_⟩
 ·walk_at "r"
  exact he1 k hk hf hb
 ·walk_at "r"
  exact he2 hf hm
 ·walk_at "r"
  exact q hf hm
theorem rd_law_caught : ∀ ds Q, pc_law_caught ds Q → RunP pp_law_caught nn_law_caught ds Q := fun ds Q h => by
 unfold pc_law_caught at h
 split at h
 ·exact rd_law_caught_ _ _ h
 ·exact h.elim
def pp_law_no_line : PTS := (psSeq (psAsg (pCallP pc_law_caught (paCons (pFz (pSM fJoinS (pC (.str [10])) (paCons (pSl 0) paNil))) paNil)) (pgName 2)) (psSeq (psIf (pOr (pNot (pB (pIsX xcs "NoLine" (pSl 2)))) (pNot (pB (pIsV xcs (pSl 2))))) (psRet (pC (.bl false))) psNext) (psSeq (psIf (pOr (pB (pIsXs xcs ["TooMany", "NoPaper", "NoPiece", "NotHeld", "TooGreat"] (pSl 2))) (pB (pIsI .bool (pFz (pFldX xcs xats "at" (pSl 2)))))) (psRet (pC (.bl false))) psNext) (psRet (pAndV (pIsI .int (pFz (pFldX xcs xats "at" (pSl 2)))) (pOp fEq2 (pFz (pFldX xcs xats "at" (pSl 2))) (pSl 1)))))))
set_option maxHeartbeats 4000000 in
theorem rd_law_no_line_ (ds : List D) (a : Int) (Q : PV → Prop) (h : pc_law_no_line ([.lst ds, .int a]) Q) : RunP pp_law_no_line nn_law_no_line ([.lst ds, .int a]) Q := by
 obtain ⟨ws, rfl, ⟨h0, hn, hw⟩, k, rfl, ⟨hk, hf, hb⟩, q⟩ := h
 obtain ⟨hs, hl, hB⟩ := join_facts h0 hn hw
 have hA : (joinW [10] ws).length < 1000000 ∧ (splitC 10 (joinW [10] ws)).length ≤ 1000 := ⟨by omega, by rw [hs]; exact hn⟩
 have hl6 : (joinW [10] ws).length ≤ 1000000 := by omega
 have i1 : isaX "NoLine" "NoLine" = true := by decide +kernel
 have i2 : (["TooMany", "NoPaper", "NoPiece", "NotHeld", "TooGreat"] : List Str).any (isaX "NoLine") = false := by decide +kernel
 walk_at "r"
 refine ⟨fun k' hk' hf' hb' => ?_, fun hf' _ => ?_, fun hf' _ => ?_⟩
 ·have e : k' = k := by
   rw [fineL_join hs] at hb'
   rcases Nat.lt_trichotomy k' k with z | z | z
   ·exact absurd (hf k' z) hb'
   ·exact z
   ·exact absurd ((fineL_join hs k).mp (hf' k z)) hb
  subst e
  walk_at "r"
  rw [decide_eq_true rfl]
  exact q
 ·exact absurd ((fineL_join hs k).mp (hf' k (by rw [hs]; exact hk))) hb
 ·exact absurd ((fineL_join hs k).mp (hf' k (by rw [hs]; exact hk))) hb
theorem rd_law_no_line : ∀ ds Q, pc_law_no_line ds Q → RunP pp_law_no_line nn_law_no_line ds Q := fun ds Q h => by
 unfold pc_law_no_line at h
 split at h
 ·exact rd_law_no_line_ _ _ _ h
 ·exact h.elim
def pp_law_too_many : PTS := (psSeq (psAsg (pCallP pc_law_caught (paCons (pFz (pSM fJoinS (pC (.str [10])) (paCons (pSl 0) paNil))) paNil)) (pgName 1)) (psSeq (psIf (pOr (pNot (pB (pIsX xcs "TooMany" (pSl 1)))) (pNot (pB (pIsV xcs (pSl 1))))) (psRet (pC (.bl false))) psNext) (psSeq (psIf (pOr (pB (pIsXs xcs ["NoLine", "NoPaper", "NoPiece", "NotHeld", "TooGreat"] (pSl 1))) (pB (pIsI .bool (pFz (pFldX xcs xats "most" (pSl 1)))))) (psRet (pC (.bl false))) psNext) (psRet (pAndV (pIsI .int (pFz (pFldX xcs xats "most" (pSl 1)))) (pOp fEq2 (pFz (pFldX xcs xats "most" (pSl 1))) (pFz (pC (.int 40)))))))))
set_option maxHeartbeats 4000000 in
theorem rd_law_too_many_ (ds : List D) (Q : PV → Prop) (h : pc_law_too_many ([.lst ds]) Q) : RunP pp_law_too_many nn_law_too_many ([.lst ds]) Q := by
 obtain ⟨ws, rfl, ⟨h0, hn, hw⟩, ⟨hf, hm⟩, q⟩ := h
 obtain ⟨hs, hl, hB⟩ := join_facts h0 hn hw
 have hA : (joinW [10] ws).length < 1000000 ∧ (splitC 10 (joinW [10] ws)).length ≤ 1000 := ⟨by omega, by rw [hs]; exact hn⟩
 have hl6 : (joinW [10] ws).length ≤ 1000000 := by omega
 have ht : told (joinW [10] ws) = ne0 ws := by unfold told ne0; rw [hs]
 have i1 : isaX "TooMany" "TooMany" = true := by decide +kernel
 have i2 : (["NoLine", "NoPaper", "NoPiece", "NotHeld", "TooGreat"] : List Str).any (isaX "TooMany") = false := by decide +kernel
 walk_at "r"
 refine ⟨fun k' hk' hf' hb' => ?_, fun hf' _ => ?_, fun hf' h40 => ?_⟩
 ·exact absurd ((fineL_join hs k').mpr (hf k' (by rw [hs] at hk'; exact hk'))) hb'
 ·walk_at "r"
  exact q
 ·rw [ht] at h40
  omega
theorem rd_law_too_many : ∀ ds Q, pc_law_too_many ds Q → RunP pp_law_too_many nn_law_too_many ds Q := fun ds Q h => by
 unfold pc_law_too_many at h
 split at h
 ·exact rd_law_too_many_ _ _ h
 ·exact h.elim
def pp_law_spoiled : PTS := (psSeq (psAsg (pCB fList (paCons (pSl 1) paNil)) (pgName 2)) (psSeq (psAsg (pCallR pc_law_take 0 (paCons (pFz (pCB fLen (paCons (pSl 1) paNil))) paNil)) (pgName 3)) (psSeq (psSetI 2 (pOp fAdd (pFz (pOp fMul (pFz (pC (.str [32]))) (pFz (pCallR pc_law_take 0 (paCons (pFz (pC (.int 2))) paNil))))) (pFz (pCallR pc_law_odd 0 paNil))) (pVar 3)) (psSeq (psJoin (psIf (pB (pOp fEq2 (pFz (pCallR pc_law_take 0 (paCons (pFz (pC (.int 2))) paNil))) (pFz (pC (.int 1))))) (psSeq (psAsg (pCallR pc_law_take 0 (paCons (pFz (pCB fLen (paCons (pSl 1) paNil))) paNil)) (pgName 4)) (psSeq (psSetI 2 (pOp fAdd (pFz (pCallR pc_law_odd 0 paNil)) (pFz (pC (.str [32])))) (pVar 4)) (psAsg (pCB fMin2 (paCons (pSl 3) (paCons (pSl 4) paNil))) (pgName 3)))) psNext)) (psRet (pTup (paCons (pFz (pVar 2)) (paCons (pFz (pVar 3)) paNil))))))))
set_option maxHeartbeats 4000000 in
theorem rd_law_spoiled_ (c0 c1 : Int) (ds : List D) (Q : PV → PV → Prop) (h : pc_law_spoiled (.own [.int c0, .int c1]) ([.lst ds]) Q) : RunR pp_law_spoiled nn_law_spoiled (.own [.int c0, .int c1]) ([.lst ds]) Q := by
 obtain ⟨g, ws, rfl, ⟨h0, hn, hfi, hok⟩, q⟩ := h
 have hlm : (ws.map D.str).length = ws.length := List.length_map _
 walk_at "r"
 rintro f ⟨a, b⟩ hs hf0 hf1
 obtain ⟨i, rfl⟩ : ∃ i : Nat, f = (i : Int) := ⟨f.toNat, by omega⟩
 have hi : i < ws.length := by omega
 walk_at "r"
 rintro y ⟨a, b⟩ hs hy0 hy1
 have e1 : (repN [32] y).length ≤ 5 := by rw [repN_sp hy0, List.length_replicate]; omega
 walk_at "r"
 rintro w ⟨a, b⟩ hs hw
 have hwl := hw.ln
 have hx := odd_left hw y.toNat (by omega)
 rw [← repN_sp hy0] at hx
 walk_at "r"
 refine ⟨i, ixN_nat (by omega), ?_⟩
 have em : ((ws.map D.str).set i (.str (repN [32] y ++ w))) = (ws.set i (repN [32] y ++ w)).map D.str := by rw [List.map_set]
 have em2 : ((ws.map D.str).set i ((PV.dat (D.str (repN [32] y ++ w))).d)) = (ws.set i (repN [32] y ++ w)).map D.str := em
 rw [em2]
 generalize hX : repN [32] y ++ w = x at hx ⊢
 have hl1 : ((ws.set i x).map D.str).length = ws.length := by rw [List.length_map, List.length_set]
 walk_at "r"
 refine ⟨fun ρ => ∃ (vs : List (List Nat)) (k : Nat) (s : Int × Int) (v4 : Option PV), ρ = [some (stv s), some (.dat (.lst (ws.map .str))), some (.own (vs.map .str)), some (.dat (.int k)), v4] ∧ SOk s ∧ Spo ws vs k, ?_, ?_⟩
 ·walk_at "r"
  rintro t ⟨a, b⟩ hs ht0 ht1
  walk_at "r"
  refine piteD (fun c => ?_) (fun c => ⟨ws.set i x, i, (a, b), _, rfl, hs, spo1 hfi hok hi hx⟩)
  walk_at "r"
  rintro f ⟨a, b⟩ hs hf0 hf1
  obtain ⟨j, rfl⟩ : ∃ j : Nat, f = (j : Int) := ⟨f.toNat, by omega⟩
  have hj : j < ws.length := by omega
  walk_at "r"
  rintro w2 ⟨a, b⟩ hs hw2
  have hwl2 := hw2.ln
  have hy := odd_right hw2
  walk_at "r"
  refine ⟨j, ixN_nat (by omega), ?_⟩
  have em3 : (((ws.set i x).map D.str).set j ((PV.dat (D.str (w2 ++ [32]))).d)) = ((ws.set i x).set j (w2 ++ [32])).map D.str := List.map_set.symm
  rw [em3]
  walk_at "r"
  by_cases hm : (j : Int) < (i : Int)
  ·rw [if_pos hm]
   exact ⟨_, j, (a, b), _, rfl, hs, spo2 hfi hok hi hj hx hy (by omega)⟩
  ·rw [if_neg hm]
   exact ⟨_, i, (a, b), _, rfl, hs, spo2 hfi hok hi hj hx hy (by omega)⟩
 ·rintro ρ ⟨vs, k, s, v4, rfl, hs, sp⟩
  walk_at "r"
  exact q vs k s hs sp
theorem rd_law_spoiled : ∀ p ds Q, p.isOwn = true → pc_law_spoiled p ds Q → RunR pp_law_spoiled nn_law_spoiled p ds Q := fun p ds Q _ h => by
 unfold pc_law_spoiled at h
 split at h
 ·exact rd_law_spoiled_ _ _ _ _ h
 ·exact h.elim
def pp_law : PTS := (psSeq (psFor (piR1 (paCons (pFz (pCB fMax2 (paCons (pFz (pC (.int 2))) (paCons (pFz (pCB fMin2 (paCons (pFz (pC (.int 5))) (paCons (pFz (pCB fLen (paCons (pSl 0) paNil))) paNil)))) paNil)))) paNil)) (pgName 1) (psSeq (psAsg (pCallP pc_law_stream (paCons (pFz (pVar 0)) (paCons (pFz (pVar 1)) paNil))) (pgName 2)) (psSeq (psAsg (pCallR pc_law_pieces 2 (paCons (pFz (pOp fAdd (pFz (pC (.int 1))) (pFz (pCallR pc_law_take 2 (paCons (pFz (pC (.int 40))) paNil))))) (paCons (pFz (pC (.int 8))) paNil))) (pgName 3)) (psSeq (psAsg (pCallR pc_law_lines 2 (paCons (pFz (pVar 3)) paNil)) (pgName 4)) (psSeq (psAsg (pCallR pc_law_spoiled 2 (paCons (pFz (pVar 4)) paNil)) (pgRow 2 (pgCons (pgName 5) (pgCons (pgName 6) pgNil)))) (psSeq (psIf (pNot (pB (pCallP pc_law_no_line (paCons (pFz (pVar 5)) (paCons (pFz (pVar 6)) paNil))))) (psRet (pC (.bl false))) psNext) (psSeq (psAsg (pOp fAdd (pFz (pOp fSub (pFz (pC (.int 41))) (pFz (pCB fLen (paCons (pSl 3) paNil))))) (pFz (pCallR pc_law_take 2 (paCons (pFz (pC (.int 6))) paNil)))) (pgName 7)) (psSeq (psAsg (pOp fAdd (pSl 4) (pFz (pOp fMul (pFz (pLst (paCons (pFz (pC (.str [97, 98]))) paNil))) (pSl 7)))) (pgName 8)) (psSeq (psIf (pNot (pB (pCallP pc_law_too_many (paCons (pFz (pVar 8)) paNil)))) (psRet (pC (.bl false))) psNext) (psSeq (psAsg (pCallR pc_law_spoiled 2 (paCons (pFz (pVar 8)) paNil)) (pgRow 2 (pgCons (pgName 5) (pgCons (pgName 6) pgNil)))) (psSeq (psIf (pNot (pB (pCallP pc_law_no_line (paCons (pFz (pVar 5)) (paCons (pFz (pVar 6)) paNil))))) (psRet (pC (.bl false))) psNext) (psSeq (psIf (pB (pOp fNe2 (pFz (pCallN pc_read_pieces (paCons (pFz (pSM fJoinS (pC (.str [10])) (paCons (pSl 4) paNil))) paNil))) (pFz (pCB fTuple (paCons (pSl 3) paNil))))) (psRet (pC (.bl false))) psNext) (psSeq (psAsg (pOp fMul (pFz (pLst (paCons (pFz (pC (.str [97, 98]))) paNil))) (pFz (pOp fSub (pFz (pC (.int 40))) (pFz (pCB fLen (paCons (pSl 3) paNil)))))) (pgName 9)) (psIf (pB (pOp fNe2 (pFz (pCallN pc_read_pieces (paCons (pFz (pSM fJoinS (pC (.str [10])) (paCons (pFz (pOp fAdd (pSl 4) (pSl 9))) paNil))) paNil))) (pFz (pCB fTuple (paCons (pFz (pOp fAdd (pSl 3) (pSl 9))) paNil))))) (psRet (pC (.bl false))) psNext)))))))))))))) (psRet (pC (.bl true))))
set_option maxHeartbeats 4000000 in
theorem rd_law_ (ns : List Int) (h63 : ns.length ≤ 63) (Q : PV → Prop) (q : Q (.dat (.bl true))) : RunP pp_law nn_law [.scr ns] Q := by
 walk_at "r"
 have hmax : (if (if (ns.length : Int) < 5 then (ns.length : Int) else 5) > 2 then if (ns.length : Int) < 5 then (ns.length : Int) else 5 else 2).toNat ≤ 5 := by
  split
  ·split <;> omega
  ·omega
 refine ⟨fun k ρ => ∃ v1 v2 v3 v4 v5 v6 v7 v8 v9 : Option PV, ρ = [some (.dat (.scr ns)), v1, v2, v3, v4, v5, v6, v7, v8, v9], ⟨none, none, none, none, none, none, none, none, none, rfl⟩, ?_, ?_⟩
 ·rintro k ρ _ hk rfl ⟨v1, v2, v3, v4, v5, v6, v7, v8, v9, rfl⟩
  have hk4 : k < 5 := Nat.lt_of_lt_of_le hk hmax
  clear hk hmax
  walk_at "r"
  rintro ⟨a, b⟩ hs
  walk_at "r"
  rintro x ⟨a, b⟩ hs hx0 hx1
  walk_at "r"
  rintro ps ⟨a, b⟩ hs hpl hps
  have hps : Pcs 60 ps := fun w hw => ⟨(hps w hw).1, Nat.le_trans (hps w hw).2.1 (by decide), (hps w hw).2.2⟩
  have hpq : ps.length ≤ 40 ∧ Pcs 60 ps := ⟨by omega, hps⟩
  have hlm : (ps.map D.str).length = ps.length := List.length_map _
  walk_at "r"
  rintro ws ⟨a, b⟩ hs L hwl hfi
  have hwn := L.len
  have hA : 0 < ws.length ∧ ws.length ≤ 500 ∧ (∀ w ∈ ws, fineW w) ∧ ∀ w ∈ ws, 10 ∉ w ∧ w.length ≤ 100 := ⟨by omega, by omega, hfi, fun w hw => ⟨(L.ok w hw).1, Nat.le_trans (L.ok w hw).2 (by decide)⟩⟩
  have hlw : (ws.map D.str).length = ws.length := List.length_map _
  walk_at "r"
  rintro vs j ⟨a, b⟩ hs sp
  have sl := sp.len
  have hB : 0 < vs.length ∧ vs.length ≤ 1000 ∧ ∀ w ∈ vs, 10 ∉ w ∧ w.length ≤ 200 := ⟨by omega, by omega, sp.ok⟩
  have hC := sp.bad
  walk_at "r"
  clear hB hC sp sl
  rintro e ⟨a, b⟩ hs he0 he1
  have hl41 : (41 : Int) - ((ps.map D.str).length : Int) + e ≤ 50 := by omega
  have G : Good ws ps := ⟨hA.1, hA.2.1, hfi, hA.2.2.2, L.told⟩
  have hw80 : ws.length ≤ 80 := by omega
  clear hA L hfi
  obtain ⟨n, hn⟩ : ∃ n : Nat, (41 : Int) - ((ps.map D.str).length : Int) + e = (n : Int) := ⟨((41 : Int) - ((ps.map D.str).length : Int) + e).toNat, by omega⟩
  have G2 := G.more n (by omega)
  have er : repN [(PV.dat (D.str [97, 98])).d] ((41 : Int) - ((ps.map D.str).length : Int) + e) = (List.replicate n [97, 98]).map D.str := by
   rw [hn]; exact repN_str (by omega) _
  have hls : (ws.map D.str).length + ((List.replicate n [97, 98]).map D.str).length ≤ 1000000 := by rw [List.length_map, List.length_map, List.length_replicate]; omega
  walk_at "r"
  rw [er]
  refine ⟨hls, ?_⟩
  rw [← List.map_append]
  obtain ⟨f1, f2, f3, f4, f5, f6⟩ := G2.facts
  have hT : (∀ j, j < (ws ++ List.replicate n [97, 98]).length → fineW (pw (ws ++ List.replicate n [97, 98]) j)) ∧ 40 < (ne0 (ws ++ List.replicate n [97, 98])).length := ⟨f6, by rw [G2.tld, List.length_append, List.length_replicate]; omega⟩
  have hA2 : 0 < (ws ++ List.replicate n [97, 98]).length ∧ (ws ++ List.replicate n [97, 98]).length ≤ 500 ∧ (∀ w ∈ ws ++ List.replicate n [97, 98], fineW w) ∧ ∀ w ∈ ws ++ List.replicate n [97, 98], 10 ∉ w ∧ w.length ≤ 100 := ⟨G2.pos, G2.len, G2.fin, G2.ok⟩
  walk_at "r"
  clear hT hA2 f1 f2 f3 f4 f5 f6 hls er
  rintro vs2 j2 ⟨a, b⟩ hs sp2
  have sl2 := sp2.len
  have hB2 : 0 < vs2.length ∧ vs2.length ≤ 1000 ∧ ∀ w ∈ vs2, 10 ∉ w ∧ w.length ≤ 200 := ⟨by rw [sl2]; exact G2.pos, by rw [sl2]; exact Nat.le_trans G2.len (by decide), sp2.ok⟩
  have hC2 := sp2.bad
  obtain ⟨g1, g2, g3, g4, g5, g6⟩ := G.facts
  have hst := Sh.tupS hps.lts
  have q2 := EqOk.of hst hst
  have d2 := deq_self hst
  walk_at "r"
  clear hB2 hC2 sp2 sl2 G2 g1
  refine ⟨fun k hk _ hb => hb (g5 k hk), fun _ z => by rw [g4] at z; omega, fun _ _ => ?_⟩
  rw [g4]
  clear g3 g4 g5 g6
  obtain ⟨m, hm⟩ : ∃ m : Nat, (40 : Int) - ((ps.map D.str).length : Int) = (m : Int) := ⟨((40 : Int) - ((ps.map D.str).length : Int)).toNat, by omega⟩
  have er2 : repN [(PV.dat (D.str [97, 98])).d] ((40 : Int) - ((ps.map D.str).length : Int)) = (List.replicate m [97, 98]).map D.str := by
   rw [hm]; exact repN_str (by omega) _
  have G3 := G.more m (by omega)
  obtain ⟨e1, e2, e3, e4, e5, e6⟩ := G3.facts
  have hr : Lts [97, 98] := pc_ab.2.2
  have hq3 : ∀ w ∈ ps ++ List.replicate m [97, 98], Lts w := fun w hw => by
   rcases List.mem_append.mp hw with z | z
   ·exact hps.lts w z
   ·rw [List.eq_of_mem_replicate z]; exact hr
  have hst3 := Sh.tupS hq3
  have em : (ps ++ List.replicate m [97, 98]).map D.str = ps.map D.str ++ (List.replicate m [97, 98]).map D.str := List.map_append
  have q3 : EqOk (D.tup ((ps ++ List.replicate m [97, 98]).map D.str)) (D.tup (ps.map D.str ++ (List.replicate m [97, 98]).map D.str)) := by rw [← em]; exact EqOk.of hst3 hst3
  have d3 : deq (D.tup ((ps ++ List.replicate m [97, 98]).map D.str)) (D.tup (ps.map D.str ++ (List.replicate m [97, 98]).map D.str)) = true := by rw [← em]; exact deq_self hst3
  have hls3 : (ws.map D.str).length + ((List.replicate m [97, 98]).map D.str).length ≤ 1000000 := by rw [List.length_map, List.length_map, List.length_replicate]; omega
  have hls4 : (ps.map D.str).length + ((List.replicate m [97, 98]).map D.str).length ≤ 1000000 := by rw [List.length_map, List.length_map, List.length_replicate]; omega
  clear hst3 hst e1 e6 G3 hq3 hr em
  walk_at "r"
  rw [er2]
  refine ⟨hls3, ?_⟩
  rw [← List.map_append]
  walk_at "r"
  refine ⟨fun k hk _ hb => hb (e5 k hk), fun _ z => by rw [e4, List.length_append, List.length_replicate] at z; omega, fun _ _ => ?_⟩
  rw [e4]
  walk_at "r"
  exact ⟨_, _, _, _, _, _, _, _, _, rfl⟩
 ·rintro ρ ⟨v1, v2, v3, v4, v5, v6, v7, v8, v9, rfl⟩
  walk_at "r"
  exact q
theorem rd_law : ∀ ds Q, pc_law ds Q → RunP pp_law nn_law ds Q := fun ds Q h => by
 obtain ⟨ns, rfl, h63, q⟩ := h
 exact rd_law_ ns h63 Q q
section
variable {P : Program} {w : World} {K : PySem.W.Frag} {mg : Str → Option Value} {base : Heap}
theorem ln_is_text : ∀ ds Q, pc_is_text ds Q → ds.length = 3 := fun ds Q h => by unfold pc_is_text at h; split at h; (first | rfl | exact h.elim); (first | rfl | exact h.elim)
set_option maxHeartbeats 4000000 in
theorem ok_is_text (D : DefAtD K mg "is_text" s_is_text [.int 0, .int 4000]) (T : Txt mg) (TX : TxX K mg) : CalD P w K mg base 1 "is_text" ["thing", "least", "most"] [.int 0, .int 4000] (spP K pc_is_text) := by
 refine D.ok sc_is_text (fun dT kV doc pm an cdv ct items us n hi hn hl => ?_) (fun vs H Q E h => ?_) (fun f cdv A outer s H vs Q E hr h => ?_)
 ·obtain ⟨i0, i1, rfl⟩ : ∃ i0 i1, items = [i0, i1] := match items, hi with | [i0, i1], _ => ⟨i0, i1, rfl⟩
  have hn' : n = 0 ∨ n = 1 ∨ n = 2 := by (have : n ≤ 2 := hn); omega
  rcases hn' with rfl | rfl | rfl
  ·have hl2 : us.length = 1 := by (simp at hl; omega)
   match us, hl2 with
   | [_], _ => exact ⟨_, rfl, rfl⟩
  ·have hl2 : us.length = 2 := by (simp at hl; omega)
   match us, hl2 with
   | [_, _], _ => exact ⟨_, rfl, rfl⟩
  ·have hl2 : us.length = 3 := by (simp at hl; omega)
   match us, hl2 with
   | [_, _, _], _ => exact ⟨_, rfl, rfl⟩
 ·exact lenP ln_is_text h
 ·have hu := hr.units
  exact ⟨_, (pss_cons (ps_if (PW.pt (pw_or (pt_not (pt_val2 (pe_callB2 (u_isI K rfl) rfl T.b_isinstance boot_isinstance (paC (pv 0) (paC (pe_bltn (v := .ty "str") rfl T.b_str boot_str rfl) pa_nil))))) (pw_or1 (pt_not (pt_chain u_le u_le (pv 1) (pe_callB2 (u_len K rfl) rfl T.b_len PySem.boot_len (paC (pv 0) pa_nil)) (pv 2)))))) (pss_one (ps_ret pe_bl)) pss_nil) (pss_one (ps_ret (pe_callB2 (u_all K rfl rfl) rfl T.b_all boot_all (paC (pe_comp (wi := (iAny K (tVar 0))) (g := (gName 0)) (tts := tYes) (te := (tChain rLeU rLeU (tC (V.str (S [97]))) (tVar 0) (tC (V.str (S [122]))))) ["sign"] [none] rfl (pi_any K rfl (pv 0)) (fun _ _ _ _ => ⟨(pg_name (i := 0) (by show List.Nodup (["sign"] : List Str); decide +kernel) rfl (by first | exact Or.inl rfl | exact Or.inr rfl)), pif_nil, (pe_chain u_le u_le (pe_strS (l := [97]) (by decide +kernel)) (pv 0) (pe_strS (l := [122]) (by decide +kernel)))⟩) (by kernel_rfl)) pa_nil))))), fnP (K := K) (c := pc_is_text) (ps := pp_is_text) (N := ["thing", "least", "most"]) (ls_seq (ls_if (lt_or (lt_not (lt_B (le_isI .str (la_sl (i := 0))))) (lt_not (lt_T (le_chain lo_le lo_le (la_sl (i := 1)) (la_fz (le_cb lc_len (las_cons (la_sl (i := 0)) las_nil))) (la_sl (i := 2)))))) (ls_ret le_bl) ls_next) (ls_ret (le_cb lc_all (las_cons (la_fz (le_comp (ix := [none]) rfl (li_any (le_var (i := 0))) (fun fs hc => (lgd_name (i := 0) (ncap hc (by decide)))) lt_yes (le_chain lo_le lo_le (la_fz (le_str (l := [97]))) (la_sl (i := 0)) (la_fz (le_str (l := [122])))))) las_nil)))) (fun ds Q h => Nat.le_trans (Nat.le_of_eq (ln_is_text ds Q h)) (by decide)) rd_is_text h⟩
theorem ln_read_pieces : ∀ ds Q E, pc_read_pieces ds Q E → ds.length = 1 := fun ds Q E h => by unfold pc_read_pieces at h; split at h; (first | rfl | exact h.elim); (first | rfl | exact h.elim)
set_option maxHeartbeats 4000000 in
theorem ok_read_pieces (D : DefAt K mg "read_pieces" s_read_pieces) (T : Txt mg) (TX : TxX K mg) (C_NoLine_init : CalX P w K mg base 1 (clsOf K "NoLine") "NoLine" "at") (C_TooMany_init : CalX P w K mg base 1 (clsOf K "TooMany") "TooMany" "most") (C_is_text : CalD P w K mg base 1 "is_text" ["thing", "least", "most"] [.int 0, .int 4000] (spP K pc_is_text)) : CalE P w K mg base 3 "read_pieces" ["text"] (spX K pc_read_pieces) := by
 refine D.okE sc_read_pieces (fun _ _ _ _ _ _ us hl => match us, hl with | [_], _ => rfl) (fun vs H Q E h => ?_) (fun f cdv A outer s H vs Q E hr h => ?_)
 ·exact lenX ln_read_pieces h
 ·have hu := hr.units
  exact ⟨_, (pss_cons (PS.nox (ps_set (i := 1) sc_read_pieces.nd rfl (by first | exact Or.inl rfl | exact Or.inr rfl) (pe_lst pa_nil))) (pss_cons (ps_for PassesOwn.leaving rfl (pi_enumK K rfl rfl T.b_enumerate (paC (pe_bmK K rfl PySem.F.plainAttrs_str PySem.F.slot_str_split PySem.F.type_str_split um_split (pv 0) (paC (pe_strS (l := [10]) (by decide +kernel)) pa_nil)) pa_nil)) (pg_row K rfl (n := 2) rfl (pgs_cons (pg_name (i := 2) sc_read_pieces.nd rfl (by first | exact Or.inl rfl | exact Or.inr rfl)) (pgs_cons (pg_name (i := 3) sc_read_pieces.nd rfl (by first | exact Or.inl rfl | exact Or.inr rfl)) pgs_nil))) (pss_cons (PS.nox (ps_set (i := 4) sc_read_pieces.nd rfl (by first | exact Or.inl rfl | exact Or.inr rfl) (pe_bmK K rfl PySem.F.plainAttrs_str PySem.F.slot_str_strip PySem.F.type_str_strip um_strip (pv 3) (paC (pe_strS (l := [32]) (by decide +kernel)) pa_nil)))) (pss_cons (ps_if (PT.nox (PW.pt (pw_and (pt_cmpR (u_ne2 K rfl hu) (pv 4) (pe_strS (l := []) (by decide +kernel)) (nomark _)) (pw_and1 (pt_not (pt_val2 (pe_calD2 2 C_is_text (hr.mono (by decide)) (by decide) (paC (pv 4) (paC pe_int (paC (pe_globI rfl T.g_MOST_SIGNS) pa_nil)))))))))) (pss_one (ps_raise K rfl rfl rx_out (pe_exc1 C_NoLine_init (hr.mono (by decide)) (paC (pv 2) pa_nil)))) pss_nil) (pss_one (ps_if (PT.nox (pt_cmpR (u_ne2 K rfl hu) (pv 4) (pe_strS (l := []) (by decide +kernel)) (nomark _))) (pss_one (PS.nox (ps_expr (pe_bmK K rfl PySem.F.plainAttrs_list PySem.F.slot_list_append PySem.F.type_list_append mt_append (pv 1) (paC (pv 4) pa_nil))))) pss_nil))))) (pss_cons (ps_if (PT.nox (pt_cmpR u_gt (pe_callB2 (u_len K rfl) rfl T.b_len PySem.boot_len (paC (pv 1) pa_nil)) (pe_globI rfl T.g_MOST_PIECES) (nomark _))) (pss_one (ps_raise K rfl rfl rx_out (pe_exc1 C_TooMany_init (hr.mono (by decide)) (paC (pe_globI rfl T.g_MOST_PIECES) pa_nil)))) pss_nil) (pss_one (PS.nox (ps_ret (pe_callTy2 (u_tuple K rfl) rfl T.b_tuple boot_tuple (paC (pv 1) pa_nil)))))))), fnX2 (K := K) (c := pc_read_pieces) (ps := pp_read_pieces) (N := ["text", "pieces", "at", "line", "piece"]) (fun _ => (lx_seq (LS.x (ls_asg (le_lst las_nil) (lg_name (i := 1) rfl))) (lx_seq (lx_for (li_enum (las_cons (la_fz (le_sm lm_split (le_var (i := 0)) (las_cons (la_fz (le_str (l := [10]))) las_nil))) las_nil)) (lgd_row (lgs_cons (lgd_name (i := 2) rfl) (lgs_cons (lgd_name (i := 3) rfl) lgs_nil))) (lx_seq (LS.x (ls_asg (le_sm lm_strip (le_var (i := 3)) (las_cons (la_fz (le_str (l := [32]))) las_nil)) (lg_name (i := 4) rfl))) (lx_seq (lx_if (lt_and (lt_T (le_op lo_ne2 (la_sl (i := 4)) (la_fz (le_str (l := []))))) (lt_not (lt_B (le_callD (ds := []) (by repeat (first | exact .nil | exact .cons (.int _) .nil | refine .cons (.int _) ?_)) (las_cons (la_fz (le_var (i := 4))) (las_cons (la_fz le_int) (las_cons (la_fz (le_int (i := 60))) las_nil))))))) (lx_raise1 TX.all (List.contains_iff_mem.mp (by decide +kernel)) (las_cons (la_fz (le_var (i := 2))) las_nil)) (LS.x ls_next)) (lx_if (lt_T (le_op lo_ne2 (la_sl (i := 4)) (la_fz (le_str (l := []))))) (LS.x (ls_drop (le_app (i := 1) (le_var (i := 4))))) (LS.x ls_next))))) (lx_seq (lx_if (lt_T (le_op lo_gt (la_fz (le_cb lc_len (las_cons (la_sl (i := 1)) las_nil))) (la_fz (le_int (i := 40))))) (lx_raise1 TX.all (List.contains_iff_mem.mp (by decide +kernel)) (las_cons (la_fz (le_int (i := 40))) las_nil)) (LS.x ls_next)) (LS.x (ls_ret (le_cb lc_tuple (las_cons (la_sl (i := 1)) las_nil)))))))) (fun ds Q E h => Nat.le_trans (Nat.le_of_eq (ln_read_pieces ds Q E h)) (by decide)) rd_read_pieces h⟩
theorem ln_law_stream : ∀ ds Q, pc_law_stream ds Q → ds.length = 2 := fun ds Q h => by unfold pc_law_stream at h; split at h; (first | rfl | exact h.elim); (first | rfl | exact h.elim)
set_option maxHeartbeats 4000000 in
theorem ok_law_stream (D : DefAt K mg "_law_stream" s_law_stream) (T : Txt mg) (TX : TxX K mg) : Cal P w K mg base 1 "_law_stream" ["_law_script", "_law_k"] (spP K pc_law_stream) := by
 refine D.ok sc_law_stream (fun _ _ _ _ _ _ us hl => match us, hl with | [_, _], _ => rfl) (fun vs H Q E h => ?_) (fun f cdv A outer s H vs Q E hr h => ?_)
 ·exact lenP ln_law_stream h
 ·have hu := hr.units
  exact ⟨_, (pss_cons (ps_set (i := 2) sc_law_stream.nd rfl (by first | exact Or.inl rfl | exact Or.inr rfl) (pe_op (u_add K rfl) (pe_op u_mul (pe_op u_mul (pv 1) (pv 1)) pe_int) pe_int)) (pss_cons (ps_join (ps_if (pt_cmpR u_lt (pv 1) (pe_callB2 (u_len K rfl) rfl T.b_len PySem.boot_len (paC (pv 0) pa_nil)) (nomark _)) (pss_one (ps_set (i := 2) sc_law_stream.nd rfl (by first | exact Or.inl rfl | exact Or.inr rfl) (pe_callB2 u_abs rfl T.b_abs boot_abs (paC (pe_ix (u_ix K rfl) (pv 0) (pv 1) (fun _ _ => rfl)) pa_nil)))) pss_nil)) (pss_one (ps_ret (pe_lst (paC (pv 2) (paC (pe_op (u_add K rfl) (pe_op (u_add K rfl) (pe_op u_mod (pv 2) pe_int) (pe_op u_mul (pv 1) pe_int)) pe_int) pa_nil))))))), fnP (K := K) (c := pc_law_stream) (ps := pp_law_stream) (N := ["_law_script", "_law_k", "_law_cell"]) (ls_seq (ls_asg (le_op lo_add (la_fz (le_op lo_mul (la_fz (le_op lo_mul (la_sl (i := 1)) (la_sl (i := 1)))) (la_fz le_int))) (la_fz le_int)) (lg_name (i := 2) rfl)) (ls_seq (ls_join (ls_if (lt_T (le_op lo_lt (la_sl (i := 1)) (la_fz (le_cb lc_len (las_cons (la_sl (i := 0)) las_nil))))) (ls_asg (le_cb lc_abs (las_cons (la_fz (le_op lo_ix (la_sl (i := 0)) (la_sl (i := 1)))) las_nil)) (lg_name (i := 2) rfl)) ls_next)) (ls_ret (le_lst (las_cons (la_fz (le_var (i := 2))) (las_cons (la_fz (le_op lo_add (la_fz (le_op lo_add (la_fz (le_op lo_mod (la_sl (i := 2)) (la_fz le_int))) (la_fz (le_op lo_mul (la_sl (i := 1)) (la_fz le_int))))) (la_fz le_int))) las_nil)))))) (fun ds Q h => Nat.le_trans (Nat.le_of_eq (ln_law_stream ds Q h)) (by decide)) rd_law_stream h⟩
theorem ln_law_take : ∀ p ds Q, pc_law_take p ds Q → ds.length + 1 = 2 := fun p ds Q h => by unfold pc_law_take at h; split at h; (first | rfl | exact h.elim); (first | rfl | exact h.elim)
set_option maxHeartbeats 4000000 in
theorem ok_law_take (D : DefAt K mg "_law_take" s_law_take) (T : Txt mg) (TX : TxX K mg) : Cal P w K mg base 1 "_law_take" ["_law_stream_here", "_law_most"] (spR K pc_law_take) := by
 refine D.ok sc_law_take (fun _ _ _ _ _ _ us hl => match us, hl with | [_, _], _ => rfl) (fun vs H Q E h => ?_) (fun f cdv A outer s H vs Q E hr h => ?_)
 ·exact lenR ln_law_take h
 ·have hu := hr.units
  exact ⟨_, (pss_cons (ps_if (pt_cmpR u_gt (pe_ix (u_ix K rfl) (pv 0) pe_int (fun _ _ => rfl)) pe_int (nomark _)) (pss_cons (ps_set (i := 2) sc_law_take.nd rfl (by first | exact Or.inl rfl | exact Or.inr rfl) (pe_op u_mod (pe_ix (u_ix K rfl) (pv 0) pe_int (fun _ _ => rfl)) (pv 1))) (pss_cons (ps_asg (pe_op u_fdiv (pe_ix (u_ix K rfl) (pv 0) pe_int (fun _ _ => rfl)) (pv 1)) (pg_sub (pv 0) pe_int set_list)) (pss_one (ps_ret (pv 2))))) pss_nil) (pss_cons (ps_asg (pe_op u_mod (pe_op (u_add K rfl) (pe_op u_mul (pe_ix (u_ix K rfl) (pv 0) pe_int (fun _ _ => rfl)) pe_int) pe_int) pe_int) (pg_sub (pv 0) pe_int set_list)) (pss_one (ps_ret (pe_op u_mod (pe_op u_mod (pe_op u_mul (pe_ix (u_ix K rfl) (pv 0) pe_int (fun _ _ => rfl)) (pe_ix (u_ix K rfl) (pv 0) pe_int (fun _ _ => rfl))) pe_int) (pv 1)))))), fnR (K := K) (c := pc_law_take) (ps := pp_law_take) (N := ["_law_stream_here", "_law_most", "_law_digit"]) (ls_seq (ls_if (lt_T (le_op lo_gt (la_fz (le_op lo_ix (la_sl (i := 0)) (la_fz le_int))) (la_fz le_int))) (ls_seq (ls_asg (le_op lo_mod (la_fz (le_op lo_ix (la_sl (i := 0)) (la_fz le_int))) (la_sl (i := 1))) (lg_name (i := 2) rfl)) (ls_seq (ls_setI (i := 0) (le_op lo_fdiv (la_fz (le_op lo_ix (la_sl (i := 0)) (la_fz le_int))) (la_sl (i := 1))) le_int) (ls_ret (le_var (i := 2))))) ls_next) (ls_seq (ls_setI (i := 0) (le_op lo_mod (la_fz (le_op lo_add (la_fz (le_op lo_mul (la_fz (le_op lo_ix (la_sl (i := 0)) (la_fz le_int))) (la_fz le_int))) (la_fz le_int))) (la_fz le_int)) le_int) (ls_ret (le_op lo_mod (la_fz (le_op lo_mod (la_fz (le_op lo_mul (la_fz (le_op lo_ix (la_sl (i := 0)) (la_fz le_int))) (la_fz (le_op lo_ix (la_sl (i := 0)) (la_fz le_int))))) (la_fz le_int))) (la_sl (i := 1)))))) (fun p ds Q h => Nat.le_trans (Nat.le_of_eq (ln_law_take p ds Q h)) (by decide)) rd_law_take h⟩
theorem ln_law_letters : ∀ p ds Q, pc_law_letters p ds Q → ds.length + 1 = 1 := fun p ds Q h => by unfold pc_law_letters at h; split at h; (first | rfl | exact h.elim); (first | rfl | exact h.elim)
set_option maxHeartbeats 4000000 in
theorem ok_law_letters (D : DefAt K mg "_law_letters" s_law_letters) (T : Txt mg) (TX : TxX K mg) (C_law_take : Cal P w K mg base 1 "_law_take" ["_law_stream_here", "_law_most"] (spR K pc_law_take)) : Cal P w K mg base 2 "_law_letters" ["_law_stream_here"] (spR K pc_law_letters) := by
 refine D.ok sc_law_letters (fun _ _ _ _ _ _ us hl => match us, hl with | [_], _ => rfl) (fun vs H Q E h => ?_) (fun f cdv A outer s H vs Q E hr h => ?_)
 ·exact lenR ln_law_letters h
 ·have hu := hr.units
  exact ⟨_, (pss_cons (ps_set (i := 1) sc_law_letters.nd rfl (by first | exact Or.inl rfl | exact Or.inr rfl) (pe_strS (l := [97, 98, 99, 100, 101, 102, 103, 104, 105, 106, 107, 108, 109, 110, 111, 112, 113, 114, 115, 116, 117, 118, 119, 120, 121, 122]) (by decide +kernel))) (pss_cons (ps_set (i := 2) sc_law_letters.nd rfl (by first | exact Or.inl rfl | exact Or.inr rfl) (pe_cal2 C_law_take (hr.mono (by decide)) (paC (pv 0) (paC pe_int pa_nil)))) (pss_cons (ps_if (pt_cmpR (u_eq2 K rfl hu) (pv 2) pe_int (nomark _)) (pss_one (ps_ret (pv 1))) pss_nil) (pss_one (ps_ret (pe_bmK K rfl PySem.F.plainAttrs_str PySem.F.slot_str_join PySem.F.type_str_join (um_joinS K rfl) (pe_strS (l := []) (by decide +kernel)) (paC (pe_comp (wi := (iRng1 (tCons (tOp (rAddU K) (tC (V.int 2)) (tOp rModU (tVar 2) (tC (V.int 2)))) tNil))) (g := (gName 0)) (tts := tYes) (te := (tOp (rIxU K) (tVar 1) (tCall (spR K pc_law_take) [] E0 (tCons (tVar 2) (tCons (tC (V.int 26)) tNil))))) ["_law_k", "_law_alphabet", "_law_stream_here"] [none, some 1, some 0] rfl (pi_range1 rfl T.b_range (paC (pe_op (u_add K rfl) pe_int (pe_op u_mod (pv 2) pe_int)) pa_nil)) (fun _ _ _ _ => ⟨(pg_name (i := 0) (by show List.Nodup (["_law_k", "_law_alphabet", "_law_stream_here"] : List Str); decide +kernel) rfl (by first | exact Or.inl rfl | exact Or.inr rfl)), pif_nil, (pe_ix (u_ix K rfl) (pv 1) (pe_cal2 C_law_take (hr.mono (by decide)) (paC (pv 2) (paC pe_int pa_nil))) (fun _ _ => rfl))⟩) (by kernel_rfl)) pa_nil))))))), fnR (K := K) (c := pc_law_letters) (ps := pp_law_letters) (N := ["_law_stream_here", "_law_alphabet", "_law_way"]) (ls_seq (ls_asg (le_str (l := [97, 98, 99, 100, 101, 102, 103, 104, 105, 106, 107, 108, 109, 110, 111, 112, 113, 114, 115, 116, 117, 118, 119, 120, 121, 122])) (lg_name (i := 1) rfl)) (ls_seq (ls_asg (le_callR (i := 0) (las_cons (la_fz le_int) las_nil)) (lg_name (i := 2) rfl)) (ls_seq (ls_if (lt_T (le_op lo_eq2 (la_sl (i := 2)) (la_fz le_int))) (ls_ret (le_var (i := 1))) ls_next) (ls_ret (le_sm lm_joinS (le_str (l := [])) (las_cons (la_fz (le_comp (ix := [none, some 1, some 0]) rfl (li_r1 (las_cons (la_fz (le_op lo_add (la_fz le_int) (la_fz (le_op lo_mod (la_sl (i := 2)) (la_fz le_int))))) las_nil)) (fun fs hc => (lgd_name (i := 0) (ncap hc (by decide)))) lt_yes (le_op lo_ix (la_sl (i := 1)) (la_fz (le_callR (i := 2) (las_cons (la_fz le_int) las_nil)))))) las_nil)))))) (fun p ds Q h => Nat.le_trans (Nat.le_of_eq (ln_law_letters p ds Q h)) (by decide)) rd_law_letters h⟩
theorem ln_law_word : ∀ p ds Q, pc_law_word p ds Q → ds.length + 1 = 3 := fun p ds Q h => by unfold pc_law_word at h; split at h; (first | rfl | exact h.elim); (first | rfl | exact h.elim)
set_option maxHeartbeats 4000000 in
theorem ok_law_word (D : DefAt K mg "_law_word" s_law_word) (T : Txt mg) (TX : TxX K mg) (C_law_take : Cal P w K mg base 1 "_law_take" ["_law_stream_here", "_law_most"] (spR K pc_law_take)) : Cal P w K mg base 2 "_law_word" ["_law_stream_here", "_law_letters_here", "_law_most"] (spR K pc_law_word) := by
 refine D.ok sc_law_word (fun _ _ _ _ _ _ us hl => match us, hl with | [_, _, _], _ => rfl) (fun vs H Q E h => ?_) (fun f cdv A outer s H vs Q E hr h => ?_)
 ·exact lenR ln_law_word h
 ·have hu := hr.units
  exact ⟨_, (pss_one (ps_ret (pe_bmK K rfl PySem.F.plainAttrs_str PySem.F.slot_str_join PySem.F.type_str_join (um_joinS K rfl) (pe_strS (l := []) (by decide +kernel)) (paC (pe_comp (wi := (iRng1 (tCons (tOp (rAddU K) (tC (V.int 1)) (tCall (spR K pc_law_take) [] E0 (tCons (tVar 0) (tCons (tVar 2) tNil)))) tNil))) (g := (gName 0)) (tts := tYes) (te := (tOp (rIxU K) (tVar 1) (tCall (spR K pc_law_take) [] E0 (tCons (tVar 2) (tCons (tCB (rLenU K) (tCons (tVar 1) tNil)) tNil))))) ["_law_k", "_law_letters_here", "_law_stream_here"] [none, some 1, some 0] rfl (pi_range1 rfl T.b_range (paC (pe_op (u_add K rfl) pe_int (pe_cal2 C_law_take (hr.mono (by decide)) (paC (pv 0) (paC (pv 2) pa_nil)))) pa_nil)) (fun _ _ _ _ => ⟨(pg_name (i := 0) (by show List.Nodup (["_law_k", "_law_letters_here", "_law_stream_here"] : List Str); decide +kernel) rfl (by first | exact Or.inl rfl | exact Or.inr rfl)), pif_nil, (pe_ix (u_ix K rfl) (pv 1) (pe_cal2 C_law_take (hr.mono (by decide)) (paC (pv 2) (paC (pe_callB2 (u_len K rfl) rfl T.b_len PySem.boot_len (paC (pv 1) pa_nil)) pa_nil))) (fun _ _ => rfl))⟩) (by kernel_rfl)) pa_nil)))), fnR (K := K) (c := pc_law_word) (ps := pp_law_word) (N := ["_law_stream_here", "_law_letters_here", "_law_most"]) (ls_ret (le_sm lm_joinS (le_str (l := [])) (las_cons (la_fz (le_comp (ix := [none, some 1, some 0]) rfl (li_r1 (las_cons (la_fz (le_op lo_add (la_fz le_int) (la_fz (le_callR (i := 0) (las_cons (la_fz (le_var (i := 2))) las_nil))))) las_nil)) (fun fs hc => (lgd_name (i := 0) (ncap hc (by decide)))) lt_yes (le_op lo_ix (la_sl (i := 1)) (la_fz (le_callR (i := 2) (las_cons (la_fz (le_cb lc_len (las_cons (la_sl (i := 1)) las_nil))) las_nil)))))) las_nil))) (fun p ds Q h => Nat.le_trans (Nat.le_of_eq (ln_law_word p ds Q h)) (by decide)) rd_law_word h⟩
theorem ln_law_cut : ∀ p ds Q, pc_law_cut p ds Q → ds.length + 1 = 3 := fun p ds Q h => by unfold pc_law_cut at h; split at h; (first | rfl | exact h.elim); (first | rfl | exact h.elim)
set_option maxHeartbeats 4000000 in
theorem ok_law_cut (D : DefAt K mg "_law_cut" s_law_cut) (T : Txt mg) (TX : TxX K mg) (C_law_take : Cal P w K mg base 1 "_law_take" ["_law_stream_here", "_law_most"] (spR K pc_law_take)) : Cal P w K mg base 2 "_law_cut" ["_law_stream_here", "_law_text", "_law_most"] (spR K pc_law_cut) := by
 refine D.ok sc_law_cut (fun _ _ _ _ _ _ us hl => match us, hl with | [_, _, _], _ => rfl) (fun vs H Q E h => ?_) (fun f cdv A outer s H vs Q E hr h => ?_)
 ·exact lenR ln_law_cut h
 ·have hu := hr.units
  exact ⟨_, (pss_cons (ps_set (i := 3) sc_law_cut.nd rfl (by first | exact Or.inl rfl | exact Or.inr rfl) (pe_cal2 C_law_take (hr.mono (by decide)) (paC (pv 0) (paC (pe_callB2 (u_len K rfl) rfl T.b_len PySem.boot_len (paC (pv 1) pa_nil)) pa_nil)))) (pss_one (ps_ret (pe_slice (u_sl K rfl) (pv 1) (po_some (pv 3)) (po_some (pe_op (u_add K rfl) (pe_op (u_add K rfl) (pv 3) pe_int) (pe_cal2 C_law_take (hr.mono (by decide)) (paC (pv 0) (paC (pv 2) pa_nil))))))))), fnR (K := K) (c := pc_law_cut) (ps := pp_law_cut) (N := ["_law_stream_here", "_law_text", "_law_most", "_law_at"]) (ls_seq (ls_asg (le_callR (i := 0) (las_cons (la_fz (le_cb lc_len (las_cons (la_sl (i := 1)) las_nil))) las_nil)) (lg_name (i := 3) rfl)) (ls_ret (le_slice (la_sl (i := 1)) (lpo_some (le_var (i := 3))) (lpo_some (le_op lo_add (la_fz (le_op lo_add (la_sl (i := 3)) (la_fz le_int))) (la_fz (le_callR (i := 0) (las_cons (la_fz (le_var (i := 2))) las_nil)))))))) (fun p ds Q h => Nat.le_trans (Nat.le_of_eq (ln_law_cut p ds Q h)) (by decide)) rd_law_cut h⟩
theorem ln_law_pieces : ∀ p ds Q, pc_law_pieces p ds Q → ds.length + 1 = 3 := fun p ds Q h => by unfold pc_law_pieces at h; split at h; (first | rfl | exact h.elim); (first | rfl | exact h.elim)
set_option maxHeartbeats 4000000 in
theorem ok_law_pieces (D : DefAt K mg "_law_pieces" s_law_pieces) (T : Txt mg) (TX : TxX K mg) (C_law_cut : Cal P w K mg base 2 "_law_cut" ["_law_stream_here", "_law_text", "_law_most"] (spR K pc_law_cut)) (C_law_letters : Cal P w K mg base 2 "_law_letters" ["_law_stream_here"] (spR K pc_law_letters)) (C_law_take : Cal P w K mg base 1 "_law_take" ["_law_stream_here", "_law_most"] (spR K pc_law_take)) (C_law_word : Cal P w K mg base 2 "_law_word" ["_law_stream_here", "_law_letters_here", "_law_most"] (spR K pc_law_word)) : Cal P w K mg base 3 "_law_pieces" ["_law_stream_here", "_law_many", "_law_most"] (spR K pc_law_pieces) := by
 refine D.ok sc_law_pieces (fun _ _ _ _ _ _ us hl => match us, hl with | [_, _, _], _ => rfl) (fun vs H Q E h => ?_) (fun f cdv A outer s H vs Q E hr h => ?_)
 ·exact lenR ln_law_pieces h
 ·have hu := hr.units
  exact ⟨_, (pss_cons (ps_set (i := 3) sc_law_pieces.nd rfl (by first | exact Or.inl rfl | exact Or.inr rfl) (pe_cal2 C_law_letters (hr.mono (by decide)) (paC (pv 0) pa_nil))) (pss_cons (ps_set (i := 4) sc_law_pieces.nd rfl (by first | exact Or.inl rfl | exact Or.inr rfl) (pe_cal2 C_law_word (hr.mono (by decide)) (paC (pv 0) (paC (pv 3) (paC (pe_op u_mul pe_int (pv 2)) pa_nil))))) (pss_cons (ps_join (ps_if (pt_cmpR (u_eq2 K rfl hu) (pe_cal2 C_law_take (hr.mono (by decide)) (paC (pv 0) (paC pe_int pa_nil))) pe_int (nomark _)) (pss_one (ps_set (i := 4) sc_law_pieces.nd rfl (by first | exact Or.inl rfl | exact Or.inr rfl) (pe_op u_mul (pe_slice (u_sl K rfl) (pv 4) po_none (po_some (pe_op (u_add K rfl) pe_int (pe_cal2 C_law_take (hr.mono (by decide)) (paC (pv 0) (paC pe_int pa_nil)))))) (pv 2)))) pss_nil)) (pss_cons (ps_set (i := 5) sc_law_pieces.nd rfl (by first | exact Or.inl rfl | exact Or.inr rfl) (pe_lst pa_nil)) (pss_cons (ps_for PassesOwn.never rfl (pi_range1 rfl T.b_range (paC (pv 1) pa_nil)) (pg_name (i := 6) sc_law_pieces.nd rfl (by first | exact Or.inl rfl | exact Or.inr rfl)) (pss_cons (ps_set (i := 7) sc_law_pieces.nd rfl (by first | exact Or.inl rfl | exact Or.inr rfl) (pe_cal2 C_law_take (hr.mono (by decide)) (paC (pv 0) (paC pe_int pa_nil)))) (pss_cons (ps_join (ps_if (PW.pt (pw_and (pt_cmpR u_gt (pv 7) pe_int (nomark _)) (pw_and1 (pt_cmpR u_gt (pe_callB2 (u_len K rfl) rfl T.b_len PySem.boot_len (paC (pv 5) pa_nil)) pe_int (nomark _))))) (pss_cons (ps_set (i := 8) sc_law_pieces.nd rfl (by first | exact Or.inl rfl | exact Or.inr rfl) (pe_ix (u_ix K rfl) (pv 5) (pe_cal2 C_law_take (hr.mono (by decide)) (paC (pv 0) (paC (pe_callB2 (u_len K rfl) rfl T.b_len PySem.boot_len (paC (pv 5) pa_nil)) pa_nil))) (fun _ _ => rfl))) (pss_one (ps_if (pt_cmpR (u_eq2 K rfl hu) (pv 7) pe_int (nomark _)) (pss_one (ps_set (i := 8) sc_law_pieces.nd rfl (by first | exact Or.inl rfl | exact Or.inr rfl) (pe_cal2 C_law_cut (hr.mono (by decide)) (paC (pv 0) (paC (pv 8) (paC (pv 2) pa_nil)))))) pss_nil))) (pss_one (ps_if (pt_cmpR (u_eq2 K rfl hu) (pe_op u_mod (pv 7) pe_int) pe_int (nomark _)) (pss_one (ps_set (i := 8) sc_law_pieces.nd rfl (by first | exact Or.inl rfl | exact Or.inr rfl) (pe_cal2 C_law_cut (hr.mono (by decide)) (paC (pv 0) (paC (pv 4) (paC (pv 2) pa_nil)))))) (pss_one (ps_set (i := 8) sc_law_pieces.nd rfl (by first | exact Or.inl rfl | exact Or.inr rfl) (pe_cal2 C_law_word (hr.mono (by decide)) (paC (pv 0) (paC (pv 3) (paC (pv 2) pa_nil)))))))))) (pss_one (ps_expr (pe_bmK K rfl PySem.F.plainAttrs_list PySem.F.slot_list_append PySem.F.type_list_append mt_append (pv 5) (paC (pv 8) pa_nil))))))) (pss_one (ps_ret (pv 5)))))))), fnR (K := K) (c := pc_law_pieces) (ps := pp_law_pieces) (N := ["_law_stream_here", "_law_many", "_law_most", "_law_letters_here", "_law_base", "_law_found", "_law_k", "_law_way", "_law_piece"]) (ls_seq (ls_asg (le_callR (i := 0) las_nil) (lg_name (i := 3) rfl)) (ls_seq (ls_asg (le_callR (i := 0) (las_cons (la_fz (le_var (i := 3))) (las_cons (la_fz (le_op lo_mul (la_fz le_int) (la_sl (i := 2)))) las_nil))) (lg_name (i := 4) rfl)) (ls_seq (ls_join (ls_if (lt_T (le_op lo_eq2 (la_fz (le_callR (i := 0) (las_cons (la_fz le_int) las_nil))) (la_fz le_int))) (ls_asg (le_op lo_mul (la_fz (le_slice (la_sl (i := 4)) lpo_none (lpo_some (le_op lo_add (la_fz le_int) (la_fz (le_callR (i := 0) (las_cons (la_fz le_int) las_nil))))))) (la_sl (i := 2))) (lg_name (i := 4) rfl)) ls_next)) (ls_seq (ls_asg (le_lst las_nil) (lg_name (i := 5) rfl)) (ls_seq (ls_for (li_r1 (las_cons (la_fz (le_var (i := 1))) las_nil)) (lgd_name (i := 6) rfl) (ls_seq (ls_asg (le_callR (i := 0) (las_cons (la_fz le_int) las_nil)) (lg_name (i := 7) rfl)) (ls_seq (ls_join (ls_if (lt_and (lt_T (le_op lo_gt (la_sl (i := 7)) (la_fz le_int))) (lt_T (le_op lo_gt (la_fz (le_cb lc_len (las_cons (la_sl (i := 5)) las_nil))) (la_fz le_int)))) (ls_seq (ls_asg (le_op lo_ix (la_sl (i := 5)) (la_fz (le_callR (i := 0) (las_cons (la_fz (le_cb lc_len (las_cons (la_sl (i := 5)) las_nil))) las_nil)))) (lg_name (i := 8) rfl)) (ls_if (lt_T (le_op lo_eq2 (la_sl (i := 7)) (la_fz le_int))) (ls_asg (le_callR (i := 0) (las_cons (la_fz (le_var (i := 8))) (las_cons (la_fz (le_var (i := 2))) las_nil))) (lg_name (i := 8) rfl)) ls_next)) (ls_if (lt_T (le_op lo_eq2 (la_fz (le_op lo_mod (la_sl (i := 7)) (la_fz le_int))) (la_fz le_int))) (ls_asg (le_callR (i := 0) (las_cons (la_fz (le_var (i := 4))) (las_cons (la_fz (le_var (i := 2))) las_nil))) (lg_name (i := 8) rfl)) (ls_asg (le_callR (i := 0) (las_cons (la_fz (le_var (i := 3))) (las_cons (la_fz (le_var (i := 2))) las_nil))) (lg_name (i := 8) rfl))))) (ls_drop (le_app (i := 5) (le_var (i := 8))))))) (ls_ret (le_var (i := 5)))))))) (fun p ds Q h => Nat.le_trans (Nat.le_of_eq (ln_law_pieces p ds Q h)) (by decide)) rd_law_pieces h⟩
theorem ln_law_odd : ∀ p ds Q, pc_law_odd p ds Q → ds.length + 1 = 1 := fun p ds Q h => by unfold pc_law_odd at h; split at h; (first | rfl | exact h.elim); (first | rfl | exact h.elim)
set_option maxHeartbeats 4000000 in
theorem ok_law_odd (D : DefAt K mg "_law_odd" s_law_odd) (T : Txt mg) (TX : TxX K mg) (C_law_take : Cal P w K mg base 1 "_law_take" ["_law_stream_here", "_law_most"] (spR K pc_law_take)) (C_law_word : Cal P w K mg base 2 "_law_word" ["_law_stream_here", "_law_letters_here", "_law_most"] (spR K pc_law_word)) : Cal P w K mg base 3 "_law_odd" ["_law_stream_here"] (spR K pc_law_odd) := by
 refine D.ok sc_law_odd (fun _ _ _ _ _ _ us hl => match us, hl with | [_], _ => rfl) (fun vs H Q E h => ?_) (fun f cdv A outer s H vs Q E hr h => ?_)
 ·exact lenR ln_law_odd h
 ·have hu := hr.units
  exact ⟨_, (pss_cons (ps_set (i := 1) sc_law_odd.nd rfl (by first | exact Or.inl rfl | exact Or.inr rfl) (pe_strS (l := [97, 98, 99, 100, 101, 102, 103, 104, 105, 106, 107, 108, 109, 110, 111, 112, 113, 114, 115, 116, 117, 118, 119, 120, 121, 122]) (by decide +kernel))) (pss_cons (ps_set (i := 2) sc_law_odd.nd rfl (by first | exact Or.inl rfl | exact Or.inr rfl) (pe_strS (l := [33, 35, 36, 38, 39, 40, 41, 42, 43, 44, 45, 46, 47, 48, 49, 50, 51, 52, 53, 54, 55, 56, 57, 58, 59, 60, 61, 62, 63, 64, 65, 66, 67, 75, 76, 77, 88, 89, 90, 91, 93, 94, 95, 123, 124, 125, 126]) (by decide +kernel))) (pss_cons (ps_set (i := 3) sc_law_odd.nd rfl (by first | exact Or.inl rfl | exact Or.inr rfl) (pe_cal2 C_law_take (hr.mono (by decide)) (paC (pv 0) (paC pe_int pa_nil)))) (pss_cons (ps_set (i := 4) sc_law_odd.nd rfl (by first | exact Or.inl rfl | exact Or.inr rfl) (pe_cal2 C_law_word (hr.mono (by decide)) (paC (pv 0) (paC (pv 1) (paC pe_int pa_nil))))) (pss_cons (ps_if (pt_cmpR (u_eq2 K rfl hu) (pv 3) pe_int (nomark _)) (pss_one (ps_ret (pe_op (u_add K rfl) (pe_op (u_add K rfl) (pv 4) (pe_op u_mul (pe_strS (l := [32]) (by decide +kernel)) (pe_op (u_add K rfl) pe_int (pe_cal2 C_law_take (hr.mono (by decide)) (paC (pv 0) (paC pe_int pa_nil)))))) (pe_cal2 C_law_word (hr.mono (by decide)) (paC (pv 0) (paC (pv 1) (paC pe_int pa_nil))))))) pss_nil) (pss_cons (ps_if (pt_cmpR (u_eq2 K rfl hu) (pv 3) pe_int (nomark _)) (pss_one (ps_ret (pe_op u_mul (pe_ix (u_ix K rfl) (pv 1) (pe_cal2 C_law_take (hr.mono (by decide)) (paC (pv 0) (paC pe_int pa_nil))) (fun _ _ => rfl)) (pe_op (u_add K rfl) pe_int (pe_cal2 C_law_take (hr.mono (by decide)) (paC (pv 0) (paC pe_int pa_nil))))))) pss_nil) (pss_cons (ps_set (i := 5) sc_law_odd.nd rfl (by first | exact Or.inl rfl | exact Or.inr rfl) (pe_cal2 C_law_take (hr.mono (by decide)) (paC (pv 0) (paC (pe_op (u_add K rfl) (pe_callB2 (u_len K rfl) rfl T.b_len PySem.boot_len (paC (pv 4) pa_nil)) pe_int) pa_nil)))) (pss_cons (ps_set (i := 6) sc_law_odd.nd rfl (by first | exact Or.inl rfl | exact Or.inr rfl) (pe_ix (u_ix K rfl) (pv 2) (pe_cal2 C_law_take (hr.mono (by decide)) (paC (pv 0) (paC (pe_callB2 (u_len K rfl) rfl T.b_len PySem.boot_len (paC (pv 2) pa_nil)) pa_nil))) (fun _ _ => rfl))) (pss_cons (ps_if (pt_cmpR (u_eq2 K rfl hu) (pv 3) pe_int (nomark _)) (pss_one (ps_ret (pv 6))) pss_nil) (pss_one (ps_ret (pe_op (u_add K rfl) (pe_op (u_add K rfl) (pe_slice (u_sl K rfl) (pv 4) po_none (po_some (pv 5))) (pv 6)) (pe_slice (u_sl K rfl) (pv 4) (po_some (pv 5)) po_none))))))))))))), fnR (K := K) (c := pc_law_odd) (ps := pp_law_odd) (N := ["_law_stream_here", "_law_letters_here", "_law_signs", "_law_way", "_law_word_here", "_law_at", "_law_sign"]) (ls_seq (ls_asg (le_str (l := [97, 98, 99, 100, 101, 102, 103, 104, 105, 106, 107, 108, 109, 110, 111, 112, 113, 114, 115, 116, 117, 118, 119, 120, 121, 122])) (lg_name (i := 1) rfl)) (ls_seq (ls_asg (le_str (l := [33, 35, 36, 38, 39, 40, 41, 42, 43, 44, 45, 46, 47, 48, 49, 50, 51, 52, 53, 54, 55, 56, 57, 58, 59, 60, 61, 62, 63, 64, 65, 66, 67, 75, 76, 77, 88, 89, 90, 91, 93, 94, 95, 123, 124, 125, 126])) (lg_name (i := 2) rfl)) (ls_seq (ls_asg (le_callR (i := 0) (las_cons (la_fz le_int) las_nil)) (lg_name (i := 3) rfl)) (ls_seq (ls_asg (le_callR (i := 0) (las_cons (la_fz (le_var (i := 1))) (las_cons (la_fz le_int) las_nil))) (lg_name (i := 4) rfl)) (ls_seq (ls_if (lt_T (le_op lo_eq2 (la_sl (i := 3)) (la_fz le_int))) (ls_ret (le_op lo_add (la_fz (le_op lo_add (la_sl (i := 4)) (la_fz (le_op lo_mul (la_fz (le_str (l := [32]))) (la_fz (le_op lo_add (la_fz le_int) (la_fz (le_callR (i := 0) (las_cons (la_fz le_int) las_nil))))))))) (la_fz (le_callR (i := 0) (las_cons (la_fz (le_var (i := 1))) (las_cons (la_fz le_int) las_nil)))))) ls_next) (ls_seq (ls_if (lt_T (le_op lo_eq2 (la_sl (i := 3)) (la_fz le_int))) (ls_ret (le_op lo_mul (la_fz (le_op lo_ix (la_sl (i := 1)) (la_fz (le_callR (i := 0) (las_cons (la_fz le_int) las_nil))))) (la_fz (le_op lo_add (la_fz le_int) (la_fz (le_callR (i := 0) (las_cons (la_fz le_int) las_nil))))))) ls_next) (ls_seq (ls_asg (le_callR (i := 0) (las_cons (la_fz (le_op lo_add (la_fz (le_cb lc_len (las_cons (la_sl (i := 4)) las_nil))) (la_fz le_int))) las_nil)) (lg_name (i := 5) rfl)) (ls_seq (ls_asg (le_op lo_ix (la_sl (i := 2)) (la_fz (le_callR (i := 0) (las_cons (la_fz (le_cb lc_len (las_cons (la_sl (i := 2)) las_nil))) las_nil)))) (lg_name (i := 6) rfl)) (ls_seq (ls_if (lt_T (le_op lo_eq2 (la_sl (i := 3)) (la_fz le_int))) (ls_ret (le_var (i := 6))) ls_next) (ls_ret (le_op lo_add (la_fz (le_op lo_add (la_fz (le_slice (la_sl (i := 4)) lpo_none (lpo_some (le_var (i := 5))))) (la_sl (i := 6)))) (la_fz (le_slice (la_sl (i := 4)) (lpo_some (le_var (i := 5))) lpo_none))))))))))))) (fun p ds Q h => Nat.le_trans (Nat.le_of_eq (ln_law_odd p ds Q h)) (by decide)) rd_law_odd h⟩
theorem ln_law_lines : ∀ p ds Q, pc_law_lines p ds Q → ds.length + 1 = 2 := fun p ds Q h => by unfold pc_law_lines at h; split at h; (first | rfl | exact h.elim); (first | rfl | exact h.elim)
set_option maxHeartbeats 4000000 in
theorem ok_law_lines (D : DefAt K mg "_law_lines" s_law_lines) (T : Txt mg) (TX : TxX K mg) (C_law_take : Cal P w K mg base 1 "_law_take" ["_law_stream_here", "_law_most"] (spR K pc_law_take)) : Cal P w K mg base 2 "_law_lines" ["_law_stream_here", "_law_pieces_here"] (spR K pc_law_lines) := by
 refine D.ok sc_law_lines (fun _ _ _ _ _ _ us hl => match us, hl with | [_, _], _ => rfl) (fun vs H Q E h => ?_) (fun f cdv A outer s H vs Q E hr h => ?_)
 ·exact lenR ln_law_lines h
 ·have hu := hr.units
  exact ⟨_, (pss_cons (ps_set (i := 2) sc_law_lines.nd rfl (by first | exact Or.inl rfl | exact Or.inr rfl) (pe_lst pa_nil)) (pss_cons (ps_for PassesOwn.never rfl (pi_any K rfl (pv 1)) (pg_name (i := 3) sc_law_lines.nd rfl (by first | exact Or.inl rfl | exact Or.inr rfl)) (pss_cons (ps_join (ps_if (pt_cmpR (u_eq2 K rfl hu) (pe_cal2 C_law_take (hr.mono (by decide)) (paC (pv 0) (paC pe_int pa_nil))) pe_int (nomark _)) (pss_one (ps_expr (pe_bmK K rfl PySem.F.plainAttrs_list PySem.F.slot_list_append PySem.F.type_list_append mt_append (pv 2) (paC (pe_op u_mul (pe_strS (l := [32]) (by decide +kernel)) (pe_cal2 C_law_take (hr.mono (by decide)) (paC (pv 0) (paC pe_int pa_nil)))) pa_nil)))) pss_nil)) (pss_one (ps_expr (pe_bmK K rfl PySem.F.plainAttrs_list PySem.F.slot_list_append PySem.F.type_list_append mt_append (pv 2) (paC (pe_op (u_add K rfl) (pe_op (u_add K rfl) (pe_op u_mul (pe_strS (l := [32]) (by decide +kernel)) (pe_cal2 C_law_take (hr.mono (by decide)) (paC (pv 0) (paC pe_int pa_nil)))) (pv 3)) (pe_op u_mul (pe_strS (l := [32]) (by decide +kernel)) (pe_cal2 C_law_take (hr.mono (by decide)) (paC (pv 0) (paC pe_int pa_nil))))) pa_nil)))))) (pss_one (ps_ret (pv 2))))), fnR (K := K) (c := pc_law_lines) (ps := pp_law_lines) (N := ["_law_stream_here", "_law_pieces_here", "_law_lines_here", "_law_piece"]) (ls_seq (ls_asg (le_lst las_nil) (lg_name (i := 2) rfl)) (ls_seq (ls_for (li_any (le_var (i := 1))) (lgd_name (i := 3) rfl) (ls_seq (ls_join (ls_if (lt_T (le_op lo_eq2 (la_fz (le_callR (i := 0) (las_cons (la_fz le_int) las_nil))) (la_fz le_int))) (ls_drop (le_app (i := 2) (le_op lo_mul (la_fz (le_str (l := [32]))) (la_fz (le_callR (i := 0) (las_cons (la_fz le_int) las_nil)))))) ls_next)) (ls_drop (le_app (i := 2) (le_op lo_add (la_fz (le_op lo_add (la_fz (le_op lo_mul (la_fz (le_str (l := [32]))) (la_fz (le_callR (i := 0) (las_cons (la_fz le_int) las_nil))))) (la_sl (i := 3)))) (la_fz (le_op lo_mul (la_fz (le_str (l := [32]))) (la_fz (le_callR (i := 0) (las_cons (la_fz le_int) las_nil)))))))))) (ls_ret (le_var (i := 2))))) (fun p ds Q h => Nat.le_trans (Nat.le_of_eq (ln_law_lines p ds Q h)) (by decide)) rd_law_lines h⟩
theorem ln_law_caught : ∀ ds Q, pc_law_caught ds Q → ds.length = 1 := fun ds Q h => by unfold pc_law_caught at h; split at h; (first | rfl | exact h.elim); (first | rfl | exact h.elim)
set_option maxHeartbeats 4000000 in
theorem ok_law_caught (D : DefAt K mg "_law_caught" s_law_caught) (T : Txt mg) (TX : TxX K mg) (C_read_pieces : CalE P w K mg base 3 "read_pieces" ["text"] (spX K pc_read_pieces)) : Cal P w K mg base 4 "_law_caught" ["_law_text"] (spP K pc_law_caught) := by
 refine D.ok sc_law_caught (fun _ _ _ _ _ _ us hl => match us, hl with | [_], _ => rfl) (fun vs H Q E h => ?_) (fun f cdv A outer s H vs Q E hr h => ?_)
 ·exact lenP ln_law_caught h
 ·have hu := hr.units
  exact ⟨_, (pss_cons (ps_set (i := 1) sc_law_caught.nd rfl (by first | exact Or.inl rfl | exact Or.inr rfl) pe_non) (pss_cons (ps_try rfl rfl (fun J pn E px => pss_cons (ps_expr (pe_calE C_read_pieces (hr.mono (by decide)) px (paC (pv 0) pa_nil))) pss_nil) (ph_asN 2 K rfl TX.d_GlueError TX.m_GlueError sc_law_caught.nd rfl rfl (fun _ => (pss_one (ps_set (i := 1) sc_law_caught.nd rfl (by first | exact Or.inl rfl | exact Or.inr rfl) (pv 2)))) ph_nil)) (pss_one (ps_ret (pv 1))))), fnP (K := K) (c := pc_law_caught) (ps := pp_law_caught) (N := ["_law_text", "_law_caught_here", "error"]) (ls_seq (ls_asg le_non (lg_name (i := 1) rfl)) (ls_seq (ls_try (c := pc_read_pieces) (las_cons (la_fz (le_var (i := 0))) las_nil) (lh_as (c0 := "GlueError") TX.all (by first | exact Or.inr rfl | exact Or.inl (List.contains_iff_mem.mp (by decide +kernel))) rfl (ls_asg (le_var (i := 2)) (lg_name (i := 1) rfl)) lh_nil)) (ls_ret (le_var (i := 1))))) (fun ds Q h => Nat.le_trans (Nat.le_of_eq (ln_law_caught ds Q h)) (by decide)) rd_law_caught h⟩
theorem ln_law_no_line : ∀ ds Q, pc_law_no_line ds Q → ds.length = 2 := fun ds Q h => by unfold pc_law_no_line at h; split at h; (first | rfl | exact h.elim); (first | rfl | exact h.elim)
set_option maxHeartbeats 4000000 in
theorem ok_law_no_line (D : DefAt K mg "_law_no_line" s_law_no_line) (T : Txt mg) (TX : TxX K mg) (C_law_caught : Cal P w K mg base 4 "_law_caught" ["_law_text"] (spP K pc_law_caught)) : Cal P w K mg base 5 "_law_no_line" ["_law_lines_here", "_law_at"] (spP K pc_law_no_line) := by
 refine D.ok sc_law_no_line (fun _ _ _ _ _ _ us hl => match us, hl with | [_, _], _ => rfl) (fun vs H Q E h => ?_) (fun f cdv A outer s H vs Q E hr h => ?_)
 ·exact lenP ln_law_no_line h
 ·have hu := hr.units
  exact ⟨_, (pss_cons (ps_set (i := 2) sc_law_no_line.nd rfl (by first | exact Or.inl rfl | exact Or.inr rfl) (pe_cal2 C_law_caught (hr.mono (by decide)) (paC (pe_bmK K rfl PySem.F.plainAttrs_str PySem.F.slot_str_join PySem.F.type_str_join (um_joinS K rfl) (pe_strS (l := [10]) (by decide +kernel)) (paC (pv 0) pa_nil)) pa_nil))) (pss_cons (ps_if (PW.pt (pw_or (pt_not (pt_val2 (pe_callB2 (u_isX K rfl) rfl T.b_isinstance boot_isinstance (paC (pv 2) (paC (pe_clsN TX.m_NoLine) pa_nil))))) (pw_or1 (pt_not (pt_val2 (pe_callB2 (u_isV K rfl) rfl T.b_isinstance boot_isinstance (paC (pv 2) (paC (pe_bltn (v := .ty "ValueError") rfl T.b_ValueError PyProof.Rows.Boot.«ValueError» rfl) pa_nil)))))))) (pss_one (ps_ret pe_bl)) pss_nil) (pss_cons (ps_if (PW.pt (pw_or (pt_val2 (pe_callB2 (u_isXs K rfl) rfl T.b_isinstance boot_isinstance (paC (pv 2) (paC (pe_tup (paC (pe_clsN TX.m_TooMany) (paC (pe_clsN TX.m_NoPaper) (paC (pe_clsN TX.m_NoPiece) (paC (pe_clsN TX.m_NotHeld) (paC (pe_clsN TX.m_TooGreat) pa_nil)))))) pa_nil)))) (pw_or1 (pt_val2 (pe_callB2 (u_isI K rfl) rfl T.b_isinstance boot_isinstance (paC (pe_fldXK K rfl (pv 2) rfl) (paC (pe_bltn (v := .ty "bool") rfl T.b_bool boot_bool rfl) pa_nil))))))) (pss_one (ps_ret pe_bl)) pss_nil) (pss_one (ps_ret (pe_and (pe_callB2 (u_isI K rfl) rfl T.b_isinstance boot_isinstance (paC (pe_fldXK K rfl (pv 2) rfl) (paC (pe_bltn (v := .ty "int") rfl T.b_int boot_int rfl) pa_nil))) (pe_one (pe_cmpR (u_eq2 K rfl hu) (pe_fldXK K rfl (pv 2) rfl) (pv 1) (nomark _))))))))), fnP (K := K) (c := pc_law_no_line) (ps := pp_law_no_line) (N := ["_law_lines_here", "_law_at", "_law_caught_here"]) (ls_seq (ls_asg (le_callP (c := pc_law_caught) (las_cons (la_fz (le_sm lm_joinS (le_str (l := [10])) (las_cons (la_sl (i := 0)) las_nil))) las_nil)) (lg_name (i := 2) rfl)) (ls_seq (ls_if (lt_or (lt_not (lt_B (le_isX (d := "NoLine") TX.all (by first | exact Or.inr rfl | exact Or.inl (List.contains_iff_mem.mp (by decide +kernel))) (la_sl (i := 2))))) (lt_not (lt_B (le_isV TX.all (la_sl (i := 2)))))) (ls_ret le_bl) ls_next) (ls_seq (ls_if (lt_or (lt_B (le_isXs ["TooMany", "NoPaper", "NoPiece", "NotHeld", "TooGreat"] TX.all (by decide +kernel) (by decide) (la_sl (i := 2)))) (lt_B (le_isI .bool (la_fz (le_fldX TX.all TX.at_ (la_sl (i := 2))))))) (ls_ret le_bl) ls_next) (ls_ret (le_and (le_isI .int (la_fz (le_fldX TX.all TX.at_ (la_sl (i := 2))))) (le_op lo_eq2 (la_fz (le_fldX TX.all TX.at_ (la_sl (i := 2)))) (la_sl (i := 1)))))))) (fun ds Q h => Nat.le_trans (Nat.le_of_eq (ln_law_no_line ds Q h)) (by decide)) rd_law_no_line h⟩
theorem ln_law_too_many : ∀ ds Q, pc_law_too_many ds Q → ds.length = 1 := fun ds Q h => by unfold pc_law_too_many at h; split at h; (first | rfl | exact h.elim); (first | rfl | exact h.elim)
set_option maxHeartbeats 4000000 in
theorem ok_law_too_many (D : DefAt K mg "_law_too_many" s_law_too_many) (T : Txt mg) (TX : TxX K mg) (C_law_caught : Cal P w K mg base 4 "_law_caught" ["_law_text"] (spP K pc_law_caught)) : Cal P w K mg base 5 "_law_too_many" ["_law_lines_here"] (spP K pc_law_too_many) := by
 refine D.ok sc_law_too_many (fun _ _ _ _ _ _ us hl => match us, hl with | [_], _ => rfl) (fun vs H Q E h => ?_) (fun f cdv A outer s H vs Q E hr h => ?_)
 ·exact lenP ln_law_too_many h
 ·have hu := hr.units
  exact ⟨_, (pss_cons (ps_set (i := 1) sc_law_too_many.nd rfl (by first | exact Or.inl rfl | exact Or.inr rfl) (pe_cal2 C_law_caught (hr.mono (by decide)) (paC (pe_bmK K rfl PySem.F.plainAttrs_str PySem.F.slot_str_join PySem.F.type_str_join (um_joinS K rfl) (pe_strS (l := [10]) (by decide +kernel)) (paC (pv 0) pa_nil)) pa_nil))) (pss_cons (ps_if (PW.pt (pw_or (pt_not (pt_val2 (pe_callB2 (u_isX K rfl) rfl T.b_isinstance boot_isinstance (paC (pv 1) (paC (pe_clsN TX.m_TooMany) pa_nil))))) (pw_or1 (pt_not (pt_val2 (pe_callB2 (u_isV K rfl) rfl T.b_isinstance boot_isinstance (paC (pv 1) (paC (pe_bltn (v := .ty "ValueError") rfl T.b_ValueError PyProof.Rows.Boot.«ValueError» rfl) pa_nil)))))))) (pss_one (ps_ret pe_bl)) pss_nil) (pss_cons (ps_if (PW.pt (pw_or (pt_val2 (pe_callB2 (u_isXs K rfl) rfl T.b_isinstance boot_isinstance (paC (pv 1) (paC (pe_tup (paC (pe_clsN TX.m_NoLine) (paC (pe_clsN TX.m_NoPaper) (paC (pe_clsN TX.m_NoPiece) (paC (pe_clsN TX.m_NotHeld) (paC (pe_clsN TX.m_TooGreat) pa_nil)))))) pa_nil)))) (pw_or1 (pt_val2 (pe_callB2 (u_isI K rfl) rfl T.b_isinstance boot_isinstance (paC (pe_fldXK K rfl (pv 1) rfl) (paC (pe_bltn (v := .ty "bool") rfl T.b_bool boot_bool rfl) pa_nil))))))) (pss_one (ps_ret pe_bl)) pss_nil) (pss_one (ps_ret (pe_and (pe_callB2 (u_isI K rfl) rfl T.b_isinstance boot_isinstance (paC (pe_fldXK K rfl (pv 1) rfl) (paC (pe_bltn (v := .ty "int") rfl T.b_int boot_int rfl) pa_nil))) (pe_one (pe_cmpR (u_eq2 K rfl hu) (pe_fldXK K rfl (pv 1) rfl) pe_int (nomark _))))))))), fnP (K := K) (c := pc_law_too_many) (ps := pp_law_too_many) (N := ["_law_lines_here", "_law_caught_here"]) (ls_seq (ls_asg (le_callP (c := pc_law_caught) (las_cons (la_fz (le_sm lm_joinS (le_str (l := [10])) (las_cons (la_sl (i := 0)) las_nil))) las_nil)) (lg_name (i := 1) rfl)) (ls_seq (ls_if (lt_or (lt_not (lt_B (le_isX (d := "TooMany") TX.all (by first | exact Or.inr rfl | exact Or.inl (List.contains_iff_mem.mp (by decide +kernel))) (la_sl (i := 1))))) (lt_not (lt_B (le_isV TX.all (la_sl (i := 1)))))) (ls_ret le_bl) ls_next) (ls_seq (ls_if (lt_or (lt_B (le_isXs ["NoLine", "NoPaper", "NoPiece", "NotHeld", "TooGreat"] TX.all (by decide +kernel) (by decide) (la_sl (i := 1)))) (lt_B (le_isI .bool (la_fz (le_fldX TX.all TX.at_ (la_sl (i := 1))))))) (ls_ret le_bl) ls_next) (ls_ret (le_and (le_isI .int (la_fz (le_fldX TX.all TX.at_ (la_sl (i := 1))))) (le_op lo_eq2 (la_fz (le_fldX TX.all TX.at_ (la_sl (i := 1)))) (la_fz le_int))))))) (fun ds Q h => Nat.le_trans (Nat.le_of_eq (ln_law_too_many ds Q h)) (by decide)) rd_law_too_many h⟩
theorem ln_law_spoiled : ∀ p ds Q, pc_law_spoiled p ds Q → ds.length + 1 = 2 := fun p ds Q h => by unfold pc_law_spoiled at h; split at h; (first | rfl | exact h.elim); (first | rfl | exact h.elim)
set_option maxHeartbeats 4000000 in
theorem ok_law_spoiled (D : DefAt K mg "_law_spoiled" s_law_spoiled) (T : Txt mg) (TX : TxX K mg) (C_law_odd : Cal P w K mg base 3 "_law_odd" ["_law_stream_here"] (spR K pc_law_odd)) (C_law_take : Cal P w K mg base 1 "_law_take" ["_law_stream_here", "_law_most"] (spR K pc_law_take)) : Cal P w K mg base 4 "_law_spoiled" ["_law_stream_here", "_law_lines_here"] (spR K pc_law_spoiled) := by
 refine D.ok sc_law_spoiled (fun _ _ _ _ _ _ us hl => match us, hl with | [_, _], _ => rfl) (fun vs H Q E h => ?_) (fun f cdv A outer s H vs Q E hr h => ?_)
 ·exact lenR ln_law_spoiled h
 ·have hu := hr.units
  exact ⟨_, (pss_cons (ps_set (i := 2) sc_law_spoiled.nd rfl (by first | exact Or.inl rfl | exact Or.inr rfl) (pe_callTy2 (u_list K rfl) rfl T.b_list boot_list (paC (pv 1) pa_nil))) (pss_cons (ps_set (i := 3) sc_law_spoiled.nd rfl (by first | exact Or.inl rfl | exact Or.inr rfl) (pe_cal2 C_law_take (hr.mono (by decide)) (paC (pv 0) (paC (pe_callB2 (u_len K rfl) rfl T.b_len PySem.boot_len (paC (pv 1) pa_nil)) pa_nil)))) (pss_cons (ps_asg (pe_op (u_add K rfl) (pe_op u_mul (pe_strS (l := [32]) (by decide +kernel)) (pe_cal2 C_law_take (hr.mono (by decide)) (paC (pv 0) (paC pe_int pa_nil)))) (pe_cal2 C_law_odd (hr.mono (by decide)) (paC (pv 0) pa_nil))) (pg_sub (pv 2) (pv 3) set_list)) (pss_cons (ps_join (ps_if (pt_cmpR (u_eq2 K rfl hu) (pe_cal2 C_law_take (hr.mono (by decide)) (paC (pv 0) (paC pe_int pa_nil))) pe_int (nomark _)) (pss_cons (ps_set (i := 4) sc_law_spoiled.nd rfl (by first | exact Or.inl rfl | exact Or.inr rfl) (pe_cal2 C_law_take (hr.mono (by decide)) (paC (pv 0) (paC (pe_callB2 (u_len K rfl) rfl T.b_len PySem.boot_len (paC (pv 1) pa_nil)) pa_nil)))) (pss_cons (ps_asg (pe_op (u_add K rfl) (pe_cal2 C_law_odd (hr.mono (by decide)) (paC (pv 0) pa_nil)) (pe_strS (l := [32]) (by decide +kernel))) (pg_sub (pv 2) (pv 4) set_list)) (pss_one (ps_set (i := 3) sc_law_spoiled.nd rfl (by first | exact Or.inl rfl | exact Or.inr rfl) (pe_callB2 (u_min2 rfl) rfl T.b_min boot_min (paC (pv 3) (paC (pv 4) pa_nil))))))) pss_nil)) (pss_one (ps_ret (pe_tup (paC (pv 2) (paC (pv 3) pa_nil))))))))), fnR (K := K) (c := pc_law_spoiled) (ps := pp_law_spoiled) (N := ["_law_stream_here", "_law_lines_here", "_law_bent", "_law_first", "_law_second"]) (ls_seq (ls_asg (le_cb lc_list (las_cons (la_sl (i := 1)) las_nil)) (lg_name (i := 2) rfl)) (ls_seq (ls_asg (le_callR (i := 0) (las_cons (la_fz (le_cb lc_len (las_cons (la_sl (i := 1)) las_nil))) las_nil)) (lg_name (i := 3) rfl)) (ls_seq (ls_setI (i := 2) (le_op lo_add (la_fz (le_op lo_mul (la_fz (le_str (l := [32]))) (la_fz (le_callR (i := 0) (las_cons (la_fz le_int) las_nil))))) (la_fz (le_callR (i := 0) las_nil))) (le_var (i := 3))) (ls_seq (ls_join (ls_if (lt_T (le_op lo_eq2 (la_fz (le_callR (i := 0) (las_cons (la_fz le_int) las_nil))) (la_fz le_int))) (ls_seq (ls_asg (le_callR (i := 0) (las_cons (la_fz (le_cb lc_len (las_cons (la_sl (i := 1)) las_nil))) las_nil)) (lg_name (i := 4) rfl)) (ls_seq (ls_setI (i := 2) (le_op lo_add (la_fz (le_callR (i := 0) las_nil)) (la_fz (le_str (l := [32])))) (le_var (i := 4))) (ls_asg (le_cb lc_min2 (las_cons (la_sl (i := 3)) (las_cons (la_sl (i := 4)) las_nil))) (lg_name (i := 3) rfl)))) ls_next)) (ls_ret (le_tup (las_cons (la_fz (le_var (i := 2))) (las_cons (la_fz (le_var (i := 3))) las_nil)))))))) (fun p ds Q h => Nat.le_trans (Nat.le_of_eq (ln_law_spoiled p ds Q h)) (by decide)) rd_law_spoiled h⟩
theorem ln_law : ∀ ds Q, pc_law ds Q → ds.length = 1 := fun ds Q h => by obtain ⟨_, rfl, _⟩ := h; rfl
set_option maxHeartbeats 4000000 in
theorem ok_law (D : DefAt K mg "law" s_law) (T : Txt mg) (TX : TxX K mg) (C_law_lines : Cal P w K mg base 2 "_law_lines" ["_law_stream_here", "_law_pieces_here"] (spR K pc_law_lines)) (C_law_no_line : Cal P w K mg base 5 "_law_no_line" ["_law_lines_here", "_law_at"] (spP K pc_law_no_line)) (C_law_pieces : Cal P w K mg base 3 "_law_pieces" ["_law_stream_here", "_law_many", "_law_most"] (spR K pc_law_pieces)) (C_law_spoiled : Cal P w K mg base 4 "_law_spoiled" ["_law_stream_here", "_law_lines_here"] (spR K pc_law_spoiled)) (C_law_stream : Cal P w K mg base 1 "_law_stream" ["_law_script", "_law_k"] (spP K pc_law_stream)) (C_law_take : Cal P w K mg base 1 "_law_take" ["_law_stream_here", "_law_most"] (spR K pc_law_take)) (C_law_too_many : Cal P w K mg base 5 "_law_too_many" ["_law_lines_here"] (spP K pc_law_too_many)) (C_read_pieces : CalE P w K mg base 3 "read_pieces" ["text"] (spX K pc_read_pieces)) : Cal P w K mg base 6 "law" ["_law_script"] (spP K pc_law) := by
 refine D.ok sc_law (fun _ _ _ _ _ _ us hl => match us, hl with | [_], _ => rfl) (fun vs H Q E h => ?_) (fun f cdv A outer s H vs Q E hr h => ?_)
 ·exact lenP ln_law h
 ·have hu := hr.units
  exact ⟨_, (pss_cons (ps_for PassesOwn.never rfl (pi_range1 rfl T.b_range (paC (pe_callB2 (u_max2 rfl) rfl T.b_max boot_max (paC pe_int (paC (pe_callB2 (u_min2 rfl) rfl T.b_min boot_min (paC pe_int (paC (pe_callB2 (u_len K rfl) rfl T.b_len PySem.boot_len (paC (pv 0) pa_nil)) pa_nil))) pa_nil))) pa_nil)) (pg_name (i := 1) sc_law.nd rfl (by first | exact Or.inl rfl | exact Or.inr rfl)) (pss_cons (ps_set (i := 2) sc_law.nd rfl (by first | exact Or.inl rfl | exact Or.inr rfl) (pe_cal2 C_law_stream (hr.mono (by decide)) (paC (pv 0) (paC (pv 1) pa_nil)))) (pss_cons (ps_set (i := 3) sc_law.nd rfl (by first | exact Or.inl rfl | exact Or.inr rfl) (pe_cal2 C_law_pieces (hr.mono (by decide)) (paC (pv 2) (paC (pe_op (u_add K rfl) pe_int (pe_cal2 C_law_take (hr.mono (by decide)) (paC (pv 2) (paC pe_int pa_nil)))) (paC pe_int pa_nil))))) (pss_cons (ps_set (i := 4) sc_law.nd rfl (by first | exact Or.inl rfl | exact Or.inr rfl) (pe_cal2 C_law_lines (hr.mono (by decide)) (paC (pv 2) (paC (pv 3) pa_nil)))) (pss_cons (ps_asg (pe_cal2 C_law_spoiled (hr.mono (by decide)) (paC (pv 2) (paC (pv 4) pa_nil))) (pg_row K rfl (n := 2) rfl (pgs_cons (pg_name (i := 5) sc_law.nd rfl (by first | exact Or.inl rfl | exact Or.inr rfl)) (pgs_cons (pg_name (i := 6) sc_law.nd rfl (by first | exact Or.inl rfl | exact Or.inr rfl)) pgs_nil)))) (pss_cons (ps_if (pt_not (pt_val2 (pe_cal2 C_law_no_line (hr.mono (by decide)) (paC (pv 5) (paC (pv 6) pa_nil))))) (pss_one (ps_ret pe_bl)) pss_nil) (pss_cons (ps_set (i := 7) sc_law.nd rfl (by first | exact Or.inl rfl | exact Or.inr rfl) (pe_op (u_add K rfl) (pe_op u_sub pe_int (pe_callB2 (u_len K rfl) rfl T.b_len PySem.boot_len (paC (pv 3) pa_nil))) (pe_cal2 C_law_take (hr.mono (by decide)) (paC (pv 2) (paC pe_int pa_nil))))) (pss_cons (ps_set (i := 8) sc_law.nd rfl (by first | exact Or.inl rfl | exact Or.inr rfl) (pe_op (u_add K rfl) (pv 4) (pe_op u_mul (pe_lst (paC (pe_strS (l := [97, 98]) (by decide +kernel)) pa_nil)) (pv 7)))) (pss_cons (ps_if (pt_not (pt_val2 (pe_cal2 C_law_too_many (hr.mono (by decide)) (paC (pv 8) pa_nil)))) (pss_one (ps_ret pe_bl)) pss_nil) (pss_cons (ps_asg (pe_cal2 C_law_spoiled (hr.mono (by decide)) (paC (pv 2) (paC (pv 8) pa_nil))) (pg_row K rfl (n := 2) rfl (pgs_cons (pg_name (i := 5) sc_law.nd rfl (by first | exact Or.inl rfl | exact Or.inr rfl)) (pgs_cons (pg_name (i := 6) sc_law.nd rfl (by first | exact Or.inl rfl | exact Or.inr rfl)) pgs_nil)))) (pss_cons (ps_if (pt_not (pt_val2 (pe_cal2 C_law_no_line (hr.mono (by decide)) (paC (pv 5) (paC (pv 6) pa_nil))))) (pss_one (ps_ret pe_bl)) pss_nil) (pss_cons (ps_if (pt_cmpR (u_ne2 K rfl hu) (pe_calE C_read_pieces (hr.mono (by decide)) px0 (paC (pe_bmK K rfl PySem.F.plainAttrs_str PySem.F.slot_str_join PySem.F.type_str_join (um_joinS K rfl) (pe_strS (l := [10]) (by decide +kernel)) (paC (pv 4) pa_nil)) pa_nil)) (pe_callTy2 (u_tuple K rfl) rfl T.b_tuple boot_tuple (paC (pv 3) pa_nil)) (nomark _)) (pss_one (ps_ret pe_bl)) pss_nil) (pss_cons (ps_set (i := 9) sc_law.nd rfl (by first | exact Or.inl rfl | exact Or.inr rfl) (pe_op u_mul (pe_lst (paC (pe_strS (l := [97, 98]) (by decide +kernel)) pa_nil)) (pe_op u_sub pe_int (pe_callB2 (u_len K rfl) rfl T.b_len PySem.boot_len (paC (pv 3) pa_nil))))) (pss_one (ps_if (pt_cmpR (u_ne2 K rfl hu) (pe_calE C_read_pieces (hr.mono (by decide)) px0 (paC (pe_bmK K rfl PySem.F.plainAttrs_str PySem.F.slot_str_join PySem.F.type_str_join (um_joinS K rfl) (pe_strS (l := [10]) (by decide +kernel)) (paC (pe_op (u_add K rfl) (pv 4) (pv 9)) pa_nil)) pa_nil)) (pe_callTy2 (u_tuple K rfl) rfl T.b_tuple boot_tuple (paC (pe_op (u_add K rfl) (pv 3) (pv 9)) pa_nil)) (nomark _)) (pss_one (ps_ret pe_bl)) pss_nil))))))))))))))) (pss_one (ps_ret pe_bl))), fnP (K := K) (c := pc_law) (ps := pp_law) (N := ["_law_script", "_law_k", "_law_stream_here", "_law_pieces_here", "_law_lines_here", "_law_bent", "_law_first", "_law_many", "_law_more", "_law_rest"]) (ls_seq (ls_for (li_r1 (las_cons (la_fz (le_cb lc_max2 (las_cons (la_fz le_int) (las_cons (la_fz (le_cb lc_min2 (las_cons (la_fz le_int) (las_cons (la_fz (le_cb lc_len (las_cons (la_sl (i := 0)) las_nil))) las_nil)))) las_nil)))) las_nil)) (lgd_name (i := 1) rfl) (ls_seq (ls_asg (le_callP (c := pc_law_stream) (las_cons (la_fz (le_var (i := 0))) (las_cons (la_fz (le_var (i := 1))) las_nil))) (lg_name (i := 2) rfl)) (ls_seq (ls_asg (le_callR (i := 2) (las_cons (la_fz (le_op lo_add (la_fz le_int) (la_fz (le_callR (i := 2) (las_cons (la_fz le_int) las_nil))))) (las_cons (la_fz le_int) las_nil))) (lg_name (i := 3) rfl)) (ls_seq (ls_asg (le_callR (i := 2) (las_cons (la_fz (le_var (i := 3))) las_nil)) (lg_name (i := 4) rfl)) (ls_seq (ls_asg (le_callR (i := 2) (las_cons (la_fz (le_var (i := 4))) las_nil)) (lg_row (lgs_cons (lgd_name (i := 5) rfl) (lgs_cons (lgd_name (i := 6) rfl) lgs_nil)))) (ls_seq (ls_if (lt_not (lt_B (le_callP (c := pc_law_no_line) (las_cons (la_fz (le_var (i := 5))) (las_cons (la_fz (le_var (i := 6))) las_nil))))) (ls_ret le_bl) ls_next) (ls_seq (ls_asg (le_op lo_add (la_fz (le_op lo_sub (la_fz le_int) (la_fz (le_cb lc_len (las_cons (la_sl (i := 3)) las_nil))))) (la_fz (le_callR (i := 2) (las_cons (la_fz le_int) las_nil)))) (lg_name (i := 7) rfl)) (ls_seq (ls_asg (le_op lo_add (la_sl (i := 4)) (la_fz (le_op lo_mul (la_fz (le_lst (las_cons (la_fz (le_str (l := [97, 98]))) las_nil))) (la_sl (i := 7))))) (lg_name (i := 8) rfl)) (ls_seq (ls_if (lt_not (lt_B (le_callP (c := pc_law_too_many) (las_cons (la_fz (le_var (i := 8))) las_nil)))) (ls_ret le_bl) ls_next) (ls_seq (ls_asg (le_callR (i := 2) (las_cons (la_fz (le_var (i := 8))) las_nil)) (lg_row (lgs_cons (lgd_name (i := 5) rfl) (lgs_cons (lgd_name (i := 6) rfl) lgs_nil)))) (ls_seq (ls_if (lt_not (lt_B (le_callP (c := pc_law_no_line) (las_cons (la_fz (le_var (i := 5))) (las_cons (la_fz (le_var (i := 6))) las_nil))))) (ls_ret le_bl) ls_next) (ls_seq (ls_if (lt_T (le_op lo_ne2 (la_fz (le_callN (c := pc_read_pieces) (las_cons (la_fz (le_sm lm_joinS (le_str (l := [10])) (las_cons (la_sl (i := 4)) las_nil))) las_nil))) (la_fz (le_cb lc_tuple (las_cons (la_sl (i := 3)) las_nil))))) (ls_ret le_bl) ls_next) (ls_seq (ls_asg (le_op lo_mul (la_fz (le_lst (las_cons (la_fz (le_str (l := [97, 98]))) las_nil))) (la_fz (le_op lo_sub (la_fz le_int) (la_fz (le_cb lc_len (las_cons (la_sl (i := 3)) las_nil)))))) (lg_name (i := 9) rfl)) (ls_if (lt_T (le_op lo_ne2 (la_fz (le_callN (c := pc_read_pieces) (las_cons (la_fz (le_sm lm_joinS (le_str (l := [10])) (las_cons (la_fz (le_op lo_add (la_sl (i := 4)) (la_sl (i := 9)))) las_nil))) las_nil))) (la_fz (le_cb lc_tuple (las_cons (la_fz (le_op lo_add (la_sl (i := 3)) (la_sl (i := 9)))) las_nil))))) (ls_ret le_bl) ls_next)))))))))))))) (ls_ret le_bl)) (fun ds Q h => Nat.le_trans (Nat.le_of_eq (ln_law ds Q h)) (by decide)) rd_law h⟩
end
theorem all_mk {l : PySem.W.OpenLaw} {w : World} {K : PySem.W.Frag} {h : Heap} {mg : Str → Option Value} {fa : Addr} (X : K.In h) (G : h.Ns mainGlobals mg) (hfa : mg "law" = some (.ref fa))
  {C_GlueError : Addr} (aC_GlueError : PySem.W.nsIn K mainGlobals "GlueError" = some (some (.ref C_GlueError))) {q_GlueError : Str} {N_GlueError : Addr} {bs_GlueError sub_GlueError : List Value} {sn_GlueError : List Str} {ab_GlueError : Bool} {col_GlueError : Option Bool} {k0_GlueError k1_GlueError k2_GlueError k3_GlueError k5_GlueError : Option Value} (lC_GlueError : K.lookup C_GlueError = some (excClassObj "GlueError" q_GlueError C_GlueError N_GlueError bs_GlueError [.type "ValueError", .type "Exception", .type "BaseException", .type "object"] true sn_GlueError sub_GlueError ab_GlueError col_GlueError none k0_GlueError k1_GlueError k2_GlueError k3_GlueError k5_GlueError "ValueError.__new__")) (xq_GlueError : PySem.W.excIn K C_GlueError [.type "ValueError", .type "Exception", .type "BaseException", .type "object"] "ValueError.__new__" = true)
  {C_TooMany : Addr} (aC_TooMany : PySem.W.nsIn K mainGlobals "TooMany" = some (some (.ref C_TooMany))) {q_TooMany : Str} {N_TooMany : Addr} {bs_TooMany sub_TooMany : List Value} {sn_TooMany : List Str} {ab_TooMany : Bool} {col_TooMany : Option Bool} {k0_TooMany k1_TooMany k2_TooMany k3_TooMany k5_TooMany : Option Value} (lC_TooMany : K.lookup C_TooMany = some (excClassObj "TooMany" q_TooMany C_TooMany N_TooMany bs_TooMany (.ref C_GlueError :: [.type "ValueError", .type "Exception", .type "BaseException", .type "object"]) true sn_TooMany sub_TooMany ab_TooMany col_TooMany none k0_TooMany k1_TooMany k2_TooMany k3_TooMany k5_TooMany "ValueError.__new__")) (ga_TooMany : PySem.W.findIn K (.ref C_TooMany) "__getattribute__" = some (some (.builtin "BaseException.__getattribute__"))) (gh_TooMany : PySem.W.findIn K (.ref C_TooMany) "__getattr__" = some none) (sa_TooMany : PySem.W.findIn K (.ref C_TooMany) "__setattr__" = some (some (.builtin "object.__setattr__"))) (cl_TooMany : PySem.W.findIn K (.ref C_TooMany) "__class__" = some (some (.builtin "object.__class__"))) (kc_TooMany : PySem.W.keepIn K (.ref C_TooMany) = true)
  {fx_TooMany : Addr} {xoc_TooMany xkV_TooMany xdc_TooMany xpm_TooMany xcd_TooMany xct_TooMany : Value} {xod_TooMany xan_TooMany : Option Addr} {xsl_TooMany : Array (Option Value)} (xi_TooMany : PySem.W.findIn K (.ref C_TooMany) "__init__" = some (some (.ref fx_TooMany))) (xt_TooMany : PySem.W.typeIn K (.ref fx_TooMany) = some (.type "function")) (xl_TooMany : K.lookup fx_TooMany = some ⟨xoc_TooMany, xod_TooMany, .func (PySem.W.fnOf "__init__" "TooMany.__init__" (defArgs s_TooMany_init) (defBody s_TooMany_init) (defScope s_TooMany_init) .none xkV_TooMany xdc_TooMany xpm_TooMany xan_TooMany xcd_TooMany xct_TooMany), xsl_TooMany⟩) (xc0_TooMany : PySem.W.codeIn K xcd_TooMany "TooMany.__init__" = true) (xk_TooMany : PySem.W.keepIn K (.ref fx_TooMany) = true) (xn_TooMany : PySem.W.findIn K (.ref C_TooMany) "most" = some none)
  {C_NoPiece : Addr} (aC_NoPiece : PySem.W.nsIn K mainGlobals "NoPiece" = some (some (.ref C_NoPiece))) {q_NoPiece : Str} {N_NoPiece : Addr} {bs_NoPiece sub_NoPiece : List Value} {sn_NoPiece : List Str} {ab_NoPiece : Bool} {col_NoPiece : Option Bool} {k0_NoPiece k1_NoPiece k2_NoPiece k3_NoPiece k5_NoPiece : Option Value} (lC_NoPiece : K.lookup C_NoPiece = some (excClassObj "NoPiece" q_NoPiece C_NoPiece N_NoPiece bs_NoPiece (.ref C_GlueError :: [.type "ValueError", .type "Exception", .type "BaseException", .type "object"]) true sn_NoPiece sub_NoPiece ab_NoPiece col_NoPiece none k0_NoPiece k1_NoPiece k2_NoPiece k3_NoPiece k5_NoPiece "ValueError.__new__")) (ga_NoPiece : PySem.W.findIn K (.ref C_NoPiece) "__getattribute__" = some (some (.builtin "BaseException.__getattribute__"))) (gh_NoPiece : PySem.W.findIn K (.ref C_NoPiece) "__getattr__" = some none) (sa_NoPiece : PySem.W.findIn K (.ref C_NoPiece) "__setattr__" = some (some (.builtin "object.__setattr__"))) (cl_NoPiece : PySem.W.findIn K (.ref C_NoPiece) "__class__" = some (some (.builtin "object.__class__"))) (kc_NoPiece : PySem.W.keepIn K (.ref C_NoPiece) = true)
  {fx_NoPiece : Addr} {xoc_NoPiece xkV_NoPiece xdc_NoPiece xpm_NoPiece xcd_NoPiece xct_NoPiece : Value} {xod_NoPiece xan_NoPiece : Option Addr} {xsl_NoPiece : Array (Option Value)} (xi_NoPiece : PySem.W.findIn K (.ref C_NoPiece) "__init__" = some (some (.ref fx_NoPiece))) (xt_NoPiece : PySem.W.typeIn K (.ref fx_NoPiece) = some (.type "function")) (xl_NoPiece : K.lookup fx_NoPiece = some ⟨xoc_NoPiece, xod_NoPiece, .func (PySem.W.fnOf "__init__" "NoPiece.__init__" (defArgs s_NoPiece_init) (defBody s_NoPiece_init) (defScope s_NoPiece_init) .none xkV_NoPiece xdc_NoPiece xpm_NoPiece xan_NoPiece xcd_NoPiece xct_NoPiece), xsl_NoPiece⟩) (xc0_NoPiece : PySem.W.codeIn K xcd_NoPiece "NoPiece.__init__" = true) (xk_NoPiece : PySem.W.keepIn K (.ref fx_NoPiece) = true) (xn_NoPiece : PySem.W.findIn K (.ref C_NoPiece) "at" = some none)
  {C_NotHeld : Addr} (aC_NotHeld : PySem.W.nsIn K mainGlobals "NotHeld" = some (some (.ref C_NotHeld))) {q_NotHeld : Str} {N_NotHeld : Addr} {bs_NotHeld sub_NotHeld : List Value} {sn_NotHeld : List Str} {ab_NotHeld : Bool} {col_NotHeld : Option Bool} {k0_NotHeld k1_NotHeld k2_NotHeld k3_NotHeld k5_NotHeld : Option Value} (lC_NotHeld : K.lookup C_NotHeld = some (excClassObj "NotHeld" q_NotHeld C_NotHeld N_NotHeld bs_NotHeld (.ref C_GlueError :: [.type "ValueError", .type "Exception", .type "BaseException", .type "object"]) true sn_NotHeld sub_NotHeld ab_NotHeld col_NotHeld none k0_NotHeld k1_NotHeld k2_NotHeld k3_NotHeld k5_NotHeld "ValueError.__new__")) (ga_NotHeld : PySem.W.findIn K (.ref C_NotHeld) "__getattribute__" = some (some (.builtin "BaseException.__getattribute__"))) (gh_NotHeld : PySem.W.findIn K (.ref C_NotHeld) "__getattr__" = some none) (sa_NotHeld : PySem.W.findIn K (.ref C_NotHeld) "__setattr__" = some (some (.builtin "object.__setattr__"))) (cl_NotHeld : PySem.W.findIn K (.ref C_NotHeld) "__class__" = some (some (.builtin "object.__class__"))) (kc_NotHeld : PySem.W.keepIn K (.ref C_NotHeld) = true)
  {fx_NotHeld : Addr} {xoc_NotHeld xkV_NotHeld xdc_NotHeld xpm_NotHeld xcd_NotHeld xct_NotHeld : Value} {xod_NotHeld xan_NotHeld : Option Addr} {xsl_NotHeld : Array (Option Value)} (xi_NotHeld : PySem.W.findIn K (.ref C_NotHeld) "__init__" = some (some (.ref fx_NotHeld))) (xt_NotHeld : PySem.W.typeIn K (.ref fx_NotHeld) = some (.type "function")) (xl_NotHeld : K.lookup fx_NotHeld = some ⟨xoc_NotHeld, xod_NotHeld, .func (PySem.W.fnOf "__init__" "NotHeld.__init__" (defArgs s_NotHeld_init) (defBody s_NotHeld_init) (defScope s_NotHeld_init) .none xkV_NotHeld xdc_NotHeld xpm_NotHeld xan_NotHeld xcd_NotHeld xct_NotHeld), xsl_NotHeld⟩) (xc0_NotHeld : PySem.W.codeIn K xcd_NotHeld "NotHeld.__init__" = true) (xk_NotHeld : PySem.W.keepIn K (.ref fx_NotHeld) = true) (xn_NotHeld : PySem.W.findIn K (.ref C_NotHeld) "at" = some none)
  {C_TooGreat : Addr} (aC_TooGreat : PySem.W.nsIn K mainGlobals "TooGreat" = some (some (.ref C_TooGreat))) {q_TooGreat : Str} {N_TooGreat : Addr} {bs_TooGreat sub_TooGreat : List Value} {sn_TooGreat : List Str} {ab_TooGreat : Bool} {col_TooGreat : Option Bool} {k0_TooGreat k1_TooGreat k2_TooGreat k3_TooGreat k5_TooGreat : Option Value} (lC_TooGreat : K.lookup C_TooGreat = some (excClassObj "TooGreat" q_TooGreat C_TooGreat N_TooGreat bs_TooGreat (.ref C_GlueError :: [.type "ValueError", .type "Exception", .type "BaseException", .type "object"]) true sn_TooGreat sub_TooGreat ab_TooGreat col_TooGreat none k0_TooGreat k1_TooGreat k2_TooGreat k3_TooGreat k5_TooGreat "ValueError.__new__")) (ga_TooGreat : PySem.W.findIn K (.ref C_TooGreat) "__getattribute__" = some (some (.builtin "BaseException.__getattribute__"))) (gh_TooGreat : PySem.W.findIn K (.ref C_TooGreat) "__getattr__" = some none) (sa_TooGreat : PySem.W.findIn K (.ref C_TooGreat) "__setattr__" = some (some (.builtin "object.__setattr__"))) (cl_TooGreat : PySem.W.findIn K (.ref C_TooGreat) "__class__" = some (some (.builtin "object.__class__"))) (kc_TooGreat : PySem.W.keepIn K (.ref C_TooGreat) = true)
  {fx_TooGreat : Addr} {xoc_TooGreat xkV_TooGreat xdc_TooGreat xpm_TooGreat xcd_TooGreat xct_TooGreat : Value} {xod_TooGreat xan_TooGreat : Option Addr} {xsl_TooGreat : Array (Option Value)} (xi_TooGreat : PySem.W.findIn K (.ref C_TooGreat) "__init__" = some (some (.ref fx_TooGreat))) (xt_TooGreat : PySem.W.typeIn K (.ref fx_TooGreat) = some (.type "function")) (xl_TooGreat : K.lookup fx_TooGreat = some ⟨xoc_TooGreat, xod_TooGreat, .func (PySem.W.fnOf "__init__" "TooGreat.__init__" (defArgs s_TooGreat_init) (defBody s_TooGreat_init) (defScope s_TooGreat_init) .none xkV_TooGreat xdc_TooGreat xpm_TooGreat xan_TooGreat xcd_TooGreat xct_TooGreat), xsl_TooGreat⟩) (xc0_TooGreat : PySem.W.codeIn K xcd_TooGreat "TooGreat.__init__" = true) (xk_TooGreat : PySem.W.keepIn K (.ref fx_TooGreat) = true) (xn_TooGreat : PySem.W.findIn K (.ref C_TooGreat) "most" = some none)
  {C_NoLine : Addr} (aC_NoLine : PySem.W.nsIn K mainGlobals "NoLine" = some (some (.ref C_NoLine))) {q_NoLine : Str} {N_NoLine : Addr} {bs_NoLine sub_NoLine : List Value} {sn_NoLine : List Str} {ab_NoLine : Bool} {col_NoLine : Option Bool} {k0_NoLine k1_NoLine k2_NoLine k3_NoLine k5_NoLine : Option Value} (lC_NoLine : K.lookup C_NoLine = some (excClassObj "NoLine" q_NoLine C_NoLine N_NoLine bs_NoLine (.ref C_GlueError :: [.type "ValueError", .type "Exception", .type "BaseException", .type "object"]) true sn_NoLine sub_NoLine ab_NoLine col_NoLine none k0_NoLine k1_NoLine k2_NoLine k3_NoLine k5_NoLine "ValueError.__new__")) (ga_NoLine : PySem.W.findIn K (.ref C_NoLine) "__getattribute__" = some (some (.builtin "BaseException.__getattribute__"))) (gh_NoLine : PySem.W.findIn K (.ref C_NoLine) "__getattr__" = some none) (sa_NoLine : PySem.W.findIn K (.ref C_NoLine) "__setattr__" = some (some (.builtin "object.__setattr__"))) (cl_NoLine : PySem.W.findIn K (.ref C_NoLine) "__class__" = some (some (.builtin "object.__class__"))) (kc_NoLine : PySem.W.keepIn K (.ref C_NoLine) = true)
  {fx_NoLine : Addr} {xoc_NoLine xkV_NoLine xdc_NoLine xpm_NoLine xcd_NoLine xct_NoLine : Value} {xod_NoLine xan_NoLine : Option Addr} {xsl_NoLine : Array (Option Value)} (xi_NoLine : PySem.W.findIn K (.ref C_NoLine) "__init__" = some (some (.ref fx_NoLine))) (xt_NoLine : PySem.W.typeIn K (.ref fx_NoLine) = some (.type "function")) (xl_NoLine : K.lookup fx_NoLine = some ⟨xoc_NoLine, xod_NoLine, .func (PySem.W.fnOf "__init__" "NoLine.__init__" (defArgs s_NoLine_init) (defBody s_NoLine_init) (defScope s_NoLine_init) .none xkV_NoLine xdc_NoLine xpm_NoLine xan_NoLine xcd_NoLine xct_NoLine), xsl_NoLine⟩) (xc0_NoLine : PySem.W.codeIn K xcd_NoLine "NoLine.__init__" = true) (xk_NoLine : PySem.W.keepIn K (.ref fx_NoLine) = true) (xn_NoLine : PySem.W.findIn K (.ref C_NoLine) "at" = some none)
  {C_NoPaper : Addr} (aC_NoPaper : PySem.W.nsIn K mainGlobals "NoPaper" = some (some (.ref C_NoPaper))) {q_NoPaper : Str} {N_NoPaper : Addr} {bs_NoPaper sub_NoPaper : List Value} {sn_NoPaper : List Str} {ab_NoPaper : Bool} {col_NoPaper : Option Bool} {k0_NoPaper k1_NoPaper k2_NoPaper k3_NoPaper k5_NoPaper : Option Value} (lC_NoPaper : K.lookup C_NoPaper = some (excClassObj "NoPaper" q_NoPaper C_NoPaper N_NoPaper bs_NoPaper (.ref C_GlueError :: [.type "ValueError", .type "Exception", .type "BaseException", .type "object"]) true sn_NoPaper sub_NoPaper ab_NoPaper col_NoPaper none k0_NoPaper k1_NoPaper k2_NoPaper k3_NoPaper k5_NoPaper "ValueError.__new__")) (ga_NoPaper : PySem.W.findIn K (.ref C_NoPaper) "__getattribute__" = some (some (.builtin "BaseException.__getattribute__"))) (gh_NoPaper : PySem.W.findIn K (.ref C_NoPaper) "__getattr__" = some none) (sa_NoPaper : PySem.W.findIn K (.ref C_NoPaper) "__setattr__" = some (some (.builtin "object.__setattr__"))) (cl_NoPaper : PySem.W.findIn K (.ref C_NoPaper) "__class__" = some (some (.builtin "object.__class__"))) (kc_NoPaper : PySem.W.keepIn K (.ref C_NoPaper) = true)
  (xq_NoPaper : PySem.W.excIn K C_NoPaper [.type "ValueError", .type "Exception", .type "BaseException", .type "object"] "ValueError.__new__" = true)
  {f1 : Addr} {oc1 kV1 dc1 pm1 cd1 ct1 : Value} {od1 an1 dd1 : Option Addr} {sl1 st1 : Array (Option Value)} {dT1 : Addr} {n1 : Nat} {u1_0 u1_1 : Tok} (a1 : PySem.W.nsIn K mainGlobals "is_text" = some (some (.ref f1))) (l1 : K.lookup f1 = some ⟨oc1, od1, .func (PySem.W.fnOf "is_text" "is_text" (defArgs s_is_text) (defBody s_is_text) (defScope s_is_text) (.ref dT1) kV1 dc1 pm1 an1 cd1 ct1), sl1⟩) (c1 : PySem.W.codeIn K cd1 "is_text" = true) (k1 : PySem.W.keepIn K (.ref f1) = true) (t1 : K.lookup dT1 = some ⟨.type "tuple", dd1, .seq [.int 0 u1_0, .int 4000 u1_1].toArray n1, st1⟩)
  {f2 : Addr} {oc2 kV2 dc2 pm2 cd2 ct2 : Value} {od2 an2 : Option Addr} {sl2 : Array (Option Value)} (a2 : PySem.W.nsIn K mainGlobals "read_pieces" = some (some (.ref f2))) (l2 : K.lookup f2 = some ⟨oc2, od2, .func (PySem.W.fnOf "read_pieces" "read_pieces" (defArgs s_read_pieces) (defBody s_read_pieces) (defScope s_read_pieces) .none kV2 dc2 pm2 an2 cd2 ct2), sl2⟩) (c2 : PySem.W.codeIn K cd2 "read_pieces" = true) (k2 : PySem.W.keepIn K (.ref f2) = true)
  {f3 : Addr} {oc3 kV3 dc3 pm3 cd3 ct3 : Value} {od3 an3 : Option Addr} {sl3 : Array (Option Value)} (a3 : PySem.W.nsIn K mainGlobals "_law_stream" = some (some (.ref f3))) (l3 : K.lookup f3 = some ⟨oc3, od3, .func (PySem.W.fnOf "_law_stream" "_law_stream" (defArgs s_law_stream) (defBody s_law_stream) (defScope s_law_stream) .none kV3 dc3 pm3 an3 cd3 ct3), sl3⟩) (c3 : PySem.W.codeIn K cd3 "_law_stream" = true) (k3 : PySem.W.keepIn K (.ref f3) = true)
  {f4 : Addr} {oc4 kV4 dc4 pm4 cd4 ct4 : Value} {od4 an4 : Option Addr} {sl4 : Array (Option Value)} (a4 : PySem.W.nsIn K mainGlobals "_law_take" = some (some (.ref f4))) (l4 : K.lookup f4 = some ⟨oc4, od4, .func (PySem.W.fnOf "_law_take" "_law_take" (defArgs s_law_take) (defBody s_law_take) (defScope s_law_take) .none kV4 dc4 pm4 an4 cd4 ct4), sl4⟩) (c4 : PySem.W.codeIn K cd4 "_law_take" = true) (k4 : PySem.W.keepIn K (.ref f4) = true)
  {f5 : Addr} {oc5 kV5 dc5 pm5 cd5 ct5 : Value} {od5 an5 : Option Addr} {sl5 : Array (Option Value)} (a5 : PySem.W.nsIn K mainGlobals "_law_letters" = some (some (.ref f5))) (l5 : K.lookup f5 = some ⟨oc5, od5, .func (PySem.W.fnOf "_law_letters" "_law_letters" (defArgs s_law_letters) (defBody s_law_letters) (defScope s_law_letters) .none kV5 dc5 pm5 an5 cd5 ct5), sl5⟩) (c5 : PySem.W.codeIn K cd5 "_law_letters" = true) (k5 : PySem.W.keepIn K (.ref f5) = true)
  {f6 : Addr} {oc6 kV6 dc6 pm6 cd6 ct6 : Value} {od6 an6 : Option Addr} {sl6 : Array (Option Value)} (a6 : PySem.W.nsIn K mainGlobals "_law_word" = some (some (.ref f6))) (l6 : K.lookup f6 = some ⟨oc6, od6, .func (PySem.W.fnOf "_law_word" "_law_word" (defArgs s_law_word) (defBody s_law_word) (defScope s_law_word) .none kV6 dc6 pm6 an6 cd6 ct6), sl6⟩) (c6 : PySem.W.codeIn K cd6 "_law_word" = true) (k6 : PySem.W.keepIn K (.ref f6) = true)
  {f7 : Addr} {oc7 kV7 dc7 pm7 cd7 ct7 : Value} {od7 an7 : Option Addr} {sl7 : Array (Option Value)} (a7 : PySem.W.nsIn K mainGlobals "_law_cut" = some (some (.ref f7))) (l7 : K.lookup f7 = some ⟨oc7, od7, .func (PySem.W.fnOf "_law_cut" "_law_cut" (defArgs s_law_cut) (defBody s_law_cut) (defScope s_law_cut) .none kV7 dc7 pm7 an7 cd7 ct7), sl7⟩) (c7 : PySem.W.codeIn K cd7 "_law_cut" = true) (k7 : PySem.W.keepIn K (.ref f7) = true)
  {f8 : Addr} {oc8 kV8 dc8 pm8 cd8 ct8 : Value} {od8 an8 : Option Addr} {sl8 : Array (Option Value)} (a8 : PySem.W.nsIn K mainGlobals "_law_pieces" = some (some (.ref f8))) (l8 : K.lookup f8 = some ⟨oc8, od8, .func (PySem.W.fnOf "_law_pieces" "_law_pieces" (defArgs s_law_pieces) (defBody s_law_pieces) (defScope s_law_pieces) .none kV8 dc8 pm8 an8 cd8 ct8), sl8⟩) (c8 : PySem.W.codeIn K cd8 "_law_pieces" = true) (k8 : PySem.W.keepIn K (.ref f8) = true)
  {f9 : Addr} {oc9 kV9 dc9 pm9 cd9 ct9 : Value} {od9 an9 : Option Addr} {sl9 : Array (Option Value)} (a9 : PySem.W.nsIn K mainGlobals "_law_odd" = some (some (.ref f9))) (l9 : K.lookup f9 = some ⟨oc9, od9, .func (PySem.W.fnOf "_law_odd" "_law_odd" (defArgs s_law_odd) (defBody s_law_odd) (defScope s_law_odd) .none kV9 dc9 pm9 an9 cd9 ct9), sl9⟩) (c9 : PySem.W.codeIn K cd9 "_law_odd" = true) (k9 : PySem.W.keepIn K (.ref f9) = true)
  {f10 : Addr} {oc10 kV10 dc10 pm10 cd10 ct10 : Value} {od10 an10 : Option Addr} {sl10 : Array (Option Value)} (a10 : PySem.W.nsIn K mainGlobals "_law_lines" = some (some (.ref f10))) (l10 : K.lookup f10 = some ⟨oc10, od10, .func (PySem.W.fnOf "_law_lines" "_law_lines" (defArgs s_law_lines) (defBody s_law_lines) (defScope s_law_lines) .none kV10 dc10 pm10 an10 cd10 ct10), sl10⟩) (c10 : PySem.W.codeIn K cd10 "_law_lines" = true) (k10 : PySem.W.keepIn K (.ref f10) = true)
  {f11 : Addr} {oc11 kV11 dc11 pm11 cd11 ct11 : Value} {od11 an11 : Option Addr} {sl11 : Array (Option Value)} (a11 : PySem.W.nsIn K mainGlobals "_law_caught" = some (some (.ref f11))) (l11 : K.lookup f11 = some ⟨oc11, od11, .func (PySem.W.fnOf "_law_caught" "_law_caught" (defArgs s_law_caught) (defBody s_law_caught) (defScope s_law_caught) .none kV11 dc11 pm11 an11 cd11 ct11), sl11⟩) (c11 : PySem.W.codeIn K cd11 "_law_caught" = true) (k11 : PySem.W.keepIn K (.ref f11) = true)
  {f12 : Addr} {oc12 kV12 dc12 pm12 cd12 ct12 : Value} {od12 an12 : Option Addr} {sl12 : Array (Option Value)} (a12 : PySem.W.nsIn K mainGlobals "_law_no_line" = some (some (.ref f12))) (l12 : K.lookup f12 = some ⟨oc12, od12, .func (PySem.W.fnOf "_law_no_line" "_law_no_line" (defArgs s_law_no_line) (defBody s_law_no_line) (defScope s_law_no_line) .none kV12 dc12 pm12 an12 cd12 ct12), sl12⟩) (c12 : PySem.W.codeIn K cd12 "_law_no_line" = true) (k12 : PySem.W.keepIn K (.ref f12) = true)
  {f13 : Addr} {oc13 kV13 dc13 pm13 cd13 ct13 : Value} {od13 an13 : Option Addr} {sl13 : Array (Option Value)} (a13 : PySem.W.nsIn K mainGlobals "_law_too_many" = some (some (.ref f13))) (l13 : K.lookup f13 = some ⟨oc13, od13, .func (PySem.W.fnOf "_law_too_many" "_law_too_many" (defArgs s_law_too_many) (defBody s_law_too_many) (defScope s_law_too_many) .none kV13 dc13 pm13 an13 cd13 ct13), sl13⟩) (c13 : PySem.W.codeIn K cd13 "_law_too_many" = true) (k13 : PySem.W.keepIn K (.ref f13) = true)
  {f14 : Addr} {oc14 kV14 dc14 pm14 cd14 ct14 : Value} {od14 an14 : Option Addr} {sl14 : Array (Option Value)} (a14 : PySem.W.nsIn K mainGlobals "_law_spoiled" = some (some (.ref f14))) (l14 : K.lookup f14 = some ⟨oc14, od14, .func (PySem.W.fnOf "_law_spoiled" "_law_spoiled" (defArgs s_law_spoiled) (defBody s_law_spoiled) (defScope s_law_spoiled) .none kV14 dc14 pm14 an14 cd14 ct14), sl14⟩) (c14 : PySem.W.codeIn K cd14 "_law_spoiled" = true) (k14 : PySem.W.keepIn K (.ref f14) = true)
  {f15 : Addr} {oc15 kV15 dc15 pm15 cd15 ct15 : Value} {od15 an15 : Option Addr} {sl15 : Array (Option Value)} (a15 : PySem.W.nsIn K mainGlobals "law" = some (some (.ref f15))) (l15 : K.lookup f15 = some ⟨oc15, od15, .func (PySem.W.fnOf "law" "law" (defArgs s_law) (defBody s_law) (defScope s_law) .none kV15 dc15 pm15 an15 cd15 ct15), sl15⟩) (c15 : PySem.W.codeIn K cd15 "law" = true) (k15 : PySem.W.keepIn K (.ref f15) = true)
  (z1 : PySem.W.nsIn K mainGlobals "ValueError" = some none)
  (z2 : PySem.W.nsIn K mainGlobals "abs" = some none)
  (z3 : PySem.W.nsIn K mainGlobals "all" = some none)
  (z4 : PySem.W.nsIn K mainGlobals "bool" = some none)
  (z5 : PySem.W.nsIn K mainGlobals "enumerate" = some none)
  (z6 : PySem.W.nsIn K mainGlobals "int" = some none)
  (z7 : PySem.W.nsIn K mainGlobals "isinstance" = some none)
  (z8 : PySem.W.nsIn K mainGlobals "len" = some none)
  (z9 : PySem.W.nsIn K mainGlobals "list" = some none)
  (z10 : PySem.W.nsIn K mainGlobals "max" = some none)
  (z11 : PySem.W.nsIn K mainGlobals "min" = some none)
  (z12 : PySem.W.nsIn K mainGlobals "range" = some none)
  (z13 : PySem.W.nsIn K mainGlobals "str" = some none)
  (z14 : PySem.W.nsIn K mainGlobals "tuple" = some none)
  {ty1 : Tok} (y1 : PySem.W.nsIn K mainGlobals "MOST_PIECES" = some (some (.int 40 ty1)))
  {ty2 : Tok} (y2 : PySem.W.nsIn K mainGlobals "MOST_SIGNS" = some (some (.int 60 ty2))) :
  ∃ fd : FuncData, (∀ (s : Shared) (v : Value), BindsTo s fd ⟨[v], []⟩ [("_law_script", v)]) ∧ ∀ base : Heap, K.In base → base.Ns mainGlobals mg → FnOk l.prog w K mg base CX0 6 fa fd ["_law_script"] (spLaw K) := by
 have eC_GlueError := clsOf_is aC_GlueError
 have tl_ := tail_of xq_GlueError ⟨_, _, _, _, _, _, _, _, _, _, _, _, _, lC_GlueError⟩
 have eC_TooMany := clsOf_is aC_TooMany
 have xc_TooMany : XC K C_TooMany C_GlueError := ⟨⟨_, _, _, _, _, _, _, _, _, _, _, _, _, lC_TooMany⟩, ga_TooMany, gh_TooMany, sa_TooMany, cl_TooMany⟩
 have eC_NoPiece := clsOf_is aC_NoPiece
 have xc_NoPiece : XC K C_NoPiece C_GlueError := ⟨⟨_, _, _, _, _, _, _, _, _, _, _, _, _, lC_NoPiece⟩, ga_NoPiece, gh_NoPiece, sa_NoPiece, cl_NoPiece⟩
 have eC_NotHeld := clsOf_is aC_NotHeld
 have xc_NotHeld : XC K C_NotHeld C_GlueError := ⟨⟨_, _, _, _, _, _, _, _, _, _, _, _, _, lC_NotHeld⟩, ga_NotHeld, gh_NotHeld, sa_NotHeld, cl_NotHeld⟩
 have eC_TooGreat := clsOf_is aC_TooGreat
 have xc_TooGreat : XC K C_TooGreat C_GlueError := ⟨⟨_, _, _, _, _, _, _, _, _, _, _, _, _, lC_TooGreat⟩, ga_TooGreat, gh_TooGreat, sa_TooGreat, cl_TooGreat⟩
 have eC_NoLine := clsOf_is aC_NoLine
 have xc_NoLine : XC K C_NoLine C_GlueError := ⟨⟨_, _, _, _, _, _, _, _, _, _, _, _, _, lC_NoLine⟩, ga_NoLine, gh_NoLine, sa_NoLine, cl_NoLine⟩
 have eC_NoPaper := clsOf_is aC_NoPaper
 have xc_NoPaper : XC K C_NoPaper C_GlueError := ⟨⟨_, _, _, _, _, _, _, _, _, _, _, _, _, lC_NoPaper⟩, ga_NoPaper, gh_NoPaper, sa_NoPaper, cl_NoPaper⟩
 have TX : TxX K mg := ⟨⟨by rw [XCl, eC_GlueError]; exact ⟨_, _, _, lC_GlueError, rfl⟩, fun c hc => by
  simp only [xcs, List.mem_cons, List.not_mem_nil, or_false] at hc
  rcases hc with rfl | rfl | rfl | rfl | rfl | rfl
  ·rw [XCl, eC_TooMany]; exact ⟨_, _, _, lC_TooMany, rfl⟩
  ·rw [XCl, eC_NoPiece]; exact ⟨_, _, _, lC_NoPiece, rfl⟩
  ·rw [XCl, eC_NotHeld]; exact ⟨_, _, _, lC_NotHeld, rfl⟩
  ·rw [XCl, eC_TooGreat]; exact ⟨_, _, _, lC_TooGreat, rfl⟩
  ·rw [XCl, eC_NoLine]; exact ⟨_, _, _, lC_NoLine, rfl⟩
  ·rw [XCl, eC_NoPaper]; exact ⟨_, _, _, lC_NoPaper, rfl⟩, fun c hc => by
  simp only [xcs, List.mem_cons, List.not_mem_nil, or_false] at hc
  rcases hc with rfl | rfl | rfl | rfl | rfl | rfl
  ·rw [eC_TooMany, eC_GlueError]; exact xc_TooMany
  ·rw [eC_NoPiece, eC_GlueError]; exact xc_NoPiece
  ·rw [eC_NotHeld, eC_GlueError]; exact xc_NotHeld
  ·rw [eC_TooGreat, eC_GlueError]; exact xc_TooGreat
  ·rw [eC_NoLine, eC_GlueError]; exact xc_NoLine
  ·rw [eC_NoPaper, eC_GlueError]; exact xc_NoPaper⟩, fun c g hc => by
  simp only [xats, List.mem_cons, List.not_mem_nil, or_false, Prod.mk.injEq] at hc
  rcases hc with ⟨rfl, rfl⟩ | ⟨rfl, rfl⟩ | ⟨rfl, rfl⟩ | ⟨rfl, rfl⟩ | ⟨rfl, rfl⟩
  ·rw [eC_TooMany]; exact xn_TooMany
  ·rw [eC_NoPiece]; exact xn_NoPiece
  ·rw [eC_NotHeld]; exact xn_NotHeld
  ·rw [eC_TooGreat]; exact xn_TooGreat
  ·rw [eC_NoLine]; exact xn_NoLine, by rw [eC_TooMany]; exact PySem.W.mg_of X G aC_TooMany, by rw [eC_NoPiece]; exact PySem.W.mg_of X G aC_NoPiece, by rw [eC_NotHeld]; exact PySem.W.mg_of X G aC_NotHeld, by rw [eC_TooGreat]; exact PySem.W.mg_of X G aC_TooGreat, by rw [eC_NoLine]; exact PySem.W.mg_of X G aC_NoLine, by rw [eC_NoPaper]; exact PySem.W.mg_of X G aC_NoPaper, by rw [eC_GlueError]; exact PySem.W.mg_of X G aC_GlueError, by rw [eC_TooMany]; exact ⟨_, _, _, _, _, _, _, _, _, _, _, _, _, _, _, _, _, lC_TooMany, rfl⟩, by rw [eC_NoPiece]; exact ⟨_, _, _, _, _, _, _, _, _, _, _, _, _, _, _, _, _, lC_NoPiece, rfl⟩, by rw [eC_NotHeld]; exact ⟨_, _, _, _, _, _, _, _, _, _, _, _, _, _, _, _, _, lC_NotHeld, rfl⟩, by rw [eC_TooGreat]; exact ⟨_, _, _, _, _, _, _, _, _, _, _, _, _, _, _, _, _, lC_TooGreat, rfl⟩, by rw [eC_NoLine]; exact ⟨_, _, _, _, _, _, _, _, _, _, _, _, _, _, _, _, _, lC_NoLine, rfl⟩, by rw [eC_NoPaper]; exact ⟨_, _, _, _, _, _, _, _, _, _, _, _, _, _, _, _, _, lC_NoPaper, rfl⟩, by rw [eC_GlueError]; exact ⟨_, _, _, _, _, _, _, _, _, _, _, _, _, _, _, _, _, lC_GlueError, rfl⟩, by rw [eC_NoPaper]; exact x0_of xq_NoPaper, by rw [eC_NoPaper]; exact kc_NoPaper⟩
 have D_is_text : DefAtD K mg "is_text" s_is_text [.int 0, .int 4000] := ⟨⟨f1, dT1, oc1, od1, an1, dd1, kV1, dc1, pm1, cd1, ct1, sl1, st1, [.int 0 u1_0, .int 4000 u1_1], n1, l1, c1, k1, PySem.W.mg_of X G a1, t1, (.cons ⟨_, rfl⟩ (.cons ⟨_, rfl⟩ .nil))⟩⟩
 have D_read_pieces : DefAt K mg "read_pieces" s_read_pieces := .mk' X G a2 l2 c2 k2
 have D_law_stream : DefAt K mg "_law_stream" s_law_stream := .mk' X G a3 l3 c3 k3
 have D_law_take : DefAt K mg "_law_take" s_law_take := .mk' X G a4 l4 c4 k4
 have D_law_letters : DefAt K mg "_law_letters" s_law_letters := .mk' X G a5 l5 c5 k5
 have D_law_word : DefAt K mg "_law_word" s_law_word := .mk' X G a6 l6 c6 k6
 have D_law_cut : DefAt K mg "_law_cut" s_law_cut := .mk' X G a7 l7 c7 k7
 have D_law_pieces : DefAt K mg "_law_pieces" s_law_pieces := .mk' X G a8 l8 c8 k8
 have D_law_odd : DefAt K mg "_law_odd" s_law_odd := .mk' X G a9 l9 c9 k9
 have D_law_lines : DefAt K mg "_law_lines" s_law_lines := .mk' X G a10 l10 c10 k10
 have D_law_caught : DefAt K mg "_law_caught" s_law_caught := .mk' X G a11 l11 c11 k11
 have D_law_no_line : DefAt K mg "_law_no_line" s_law_no_line := .mk' X G a12 l12 c12 k12
 have D_law_too_many : DefAt K mg "_law_too_many" s_law_too_many := .mk' X G a13 l13 c13 k13
 have D_law_spoiled : DefAt K mg "_law_spoiled" s_law_spoiled := .mk' X G a14 l14 c14 k14
 have D_law : DefAt K mg "law" s_law := .mk' X G a15 l15 c15 k15
 have T : Txt mg := ⟨PySem.W.mg_none_of X G z1, PySem.W.mg_none_of X G z2, PySem.W.mg_none_of X G z3, PySem.W.mg_none_of X G z4, PySem.W.mg_none_of X G z5, PySem.W.mg_none_of X G z6, PySem.W.mg_none_of X G z7, PySem.W.mg_none_of X G z8, PySem.W.mg_none_of X G z9, PySem.W.mg_none_of X G z10, PySem.W.mg_none_of X G z11, PySem.W.mg_none_of X G z12, PySem.W.mg_none_of X G z13, PySem.W.mg_none_of X G z14, ⟨_, PySem.W.mg_of X G y1⟩, ⟨_, PySem.W.mg_of X G y2⟩⟩
 refine law_at (st := s_law) hfa D_law (fun _ _ _ _ _ _ s v => .of_eq rfl) fun base => ?_
 have C_TooMany_init : CalX l.prog w K mg base 1 (clsOf K "TooMany") "TooMany" "most" := by
  rw [eC_TooMany]
  exact calX_of (fun_mk (st := s_TooMany_init) xl_TooMany xc0_TooMany xk_TooMany) sc_TooMany_init rfl (fun _ _ _ _ _ _ us hl => match us, hl with | [_, _], _ => rfl) (fun cdv A outer s H E => pss_one (ps_fldXK K rfl (pv 0) (pv 1) rfl)) ⟨xc_TooMany, tl_, xi_TooMany, xt_TooMany, kc_TooMany⟩ xn_TooMany (PySem.W.mg_of X G aC_TooMany)
 have C_NoPiece_init : CalX l.prog w K mg base 1 (clsOf K "NoPiece") "NoPiece" "at" := by
  rw [eC_NoPiece]
  exact calX_of (fun_mk (st := s_NoPiece_init) xl_NoPiece xc0_NoPiece xk_NoPiece) sc_NoPiece_init rfl (fun _ _ _ _ _ _ us hl => match us, hl with | [_, _], _ => rfl) (fun cdv A outer s H E => pss_one (ps_fldXK K rfl (pv 0) (pv 1) rfl)) ⟨xc_NoPiece, tl_, xi_NoPiece, xt_NoPiece, kc_NoPiece⟩ xn_NoPiece (PySem.W.mg_of X G aC_NoPiece)
 have C_NotHeld_init : CalX l.prog w K mg base 1 (clsOf K "NotHeld") "NotHeld" "at" := by
  rw [eC_NotHeld]
  exact calX_of (fun_mk (st := s_NotHeld_init) xl_NotHeld xc0_NotHeld xk_NotHeld) sc_NotHeld_init rfl (fun _ _ _ _ _ _ us hl => match us, hl with | [_, _], _ => rfl) (fun cdv A outer s H E => pss_one (ps_fldXK K rfl (pv 0) (pv 1) rfl)) ⟨xc_NotHeld, tl_, xi_NotHeld, xt_NotHeld, kc_NotHeld⟩ xn_NotHeld (PySem.W.mg_of X G aC_NotHeld)
 have C_TooGreat_init : CalX l.prog w K mg base 1 (clsOf K "TooGreat") "TooGreat" "most" := by
  rw [eC_TooGreat]
  exact calX_of (fun_mk (st := s_TooGreat_init) xl_TooGreat xc0_TooGreat xk_TooGreat) sc_TooGreat_init rfl (fun _ _ _ _ _ _ us hl => match us, hl with | [_, _], _ => rfl) (fun cdv A outer s H E => pss_one (ps_fldXK K rfl (pv 0) (pv 1) rfl)) ⟨xc_TooGreat, tl_, xi_TooGreat, xt_TooGreat, kc_TooGreat⟩ xn_TooGreat (PySem.W.mg_of X G aC_TooGreat)
 have C_NoLine_init : CalX l.prog w K mg base 1 (clsOf K "NoLine") "NoLine" "at" := by
  rw [eC_NoLine]
  exact calX_of (fun_mk (st := s_NoLine_init) xl_NoLine xc0_NoLine xk_NoLine) sc_NoLine_init rfl (fun _ _ _ _ _ _ us hl => match us, hl with | [_, _], _ => rfl) (fun cdv A outer s H E => pss_one (ps_fldXK K rfl (pv 0) (pv 1) rfl)) ⟨xc_NoLine, tl_, xi_NoLine, xt_NoLine, kc_NoLine⟩ xn_NoLine (PySem.W.mg_of X G aC_NoLine)
 have C_is_text := ok_is_text (P := l.prog) (w := w) (base := base) D_is_text T TX
 have C_read_pieces := ok_read_pieces (P := l.prog) (w := w) (base := base) D_read_pieces T TX C_NoLine_init C_TooMany_init C_is_text
 have C_law_stream := ok_law_stream (P := l.prog) (w := w) (base := base) D_law_stream T TX
 have C_law_take := ok_law_take (P := l.prog) (w := w) (base := base) D_law_take T TX
 have C_law_letters := ok_law_letters (P := l.prog) (w := w) (base := base) D_law_letters T TX C_law_take
 have C_law_word := ok_law_word (P := l.prog) (w := w) (base := base) D_law_word T TX C_law_take
 have C_law_cut := ok_law_cut (P := l.prog) (w := w) (base := base) D_law_cut T TX C_law_take
 have C_law_pieces := ok_law_pieces (P := l.prog) (w := w) (base := base) D_law_pieces T TX C_law_cut C_law_letters C_law_take C_law_word
 have C_law_odd := ok_law_odd (P := l.prog) (w := w) (base := base) D_law_odd T TX C_law_take C_law_word
 have C_law_lines := ok_law_lines (P := l.prog) (w := w) (base := base) D_law_lines T TX C_law_take
 have C_law_caught := ok_law_caught (P := l.prog) (w := w) (base := base) D_law_caught T TX C_read_pieces
 have C_law_no_line := ok_law_no_line (P := l.prog) (w := w) (base := base) D_law_no_line T TX C_law_caught
 have C_law_too_many := ok_law_too_many (P := l.prog) (w := w) (base := base) D_law_too_many T TX C_law_caught
 have C_law_spoiled := ok_law_spoiled (P := l.prog) (w := w) (base := base) D_law_spoiled T TX C_law_odd C_law_take
 exact (ok_law (P := l.prog) (w := w) (base := base) D_law T TX C_law_lines C_law_no_line C_law_pieces C_law_spoiled C_law_stream C_law_take C_law_too_many C_read_pieces).imp fun _ _ _ _ h => spLaw_P h
end K66

open PySem PySem.W PyProof.Rows
set_option maxRecDepth 100000 in
set_option maxHeartbeats 0 in
theorem PySem.Challenge.cw_shortglue_k66_no_pieces_holds : PySem.Challenge.rw_shortglue_k66_no_pieces.Holds := by
  w_on; o_law; k_head; (case hw => w_witness2)
  k_fill
  refine L2.walk63 (l := PySem.Challenge.rw_shortglue_k66_no_pieces) (k := 6) (x := "_law_script") rfl rfl ⟨rfl, by decide, by decide⟩ (fun w h Y => PySem.W.kIn_of Y) ?F
  case F =>
    intro w mg fa h KX G hmg
    refine' K66.all_mk KX G hmg ?aC_GlueError ?lC_GlueError ?xq_GlueError ?aC_TooMany ?lC_TooMany ?ga_TooMany ?gh_TooMany ?sa_TooMany ?cl_TooMany ?kc_TooMany ?xi_TooMany ?xt_TooMany ?xl_TooMany ?xc0_TooMany ?xk_TooMany ?xn_TooMany ?aC_NoPiece ?lC_NoPiece ?ga_NoPiece ?gh_NoPiece ?sa_NoPiece ?cl_NoPiece ?kc_NoPiece ?xi_NoPiece ?xt_NoPiece ?xl_NoPiece ?xc0_NoPiece ?xk_NoPiece ?xn_NoPiece ?aC_NotHeld ?lC_NotHeld ?ga_NotHeld ?gh_NotHeld ?sa_NotHeld ?cl_NotHeld ?kc_NotHeld ?xi_NotHeld ?xt_NotHeld ?xl_NotHeld ?xc0_NotHeld ?xk_NotHeld ?xn_NotHeld ?aC_TooGreat ?lC_TooGreat ?ga_TooGreat ?gh_TooGreat ?sa_TooGreat ?cl_TooGreat ?kc_TooGreat ?xi_TooGreat ?xt_TooGreat ?xl_TooGreat ?xc0_TooGreat ?xk_TooGreat ?xn_TooGreat ?aC_NoLine ?lC_NoLine ?ga_NoLine ?gh_NoLine ?sa_NoLine ?cl_NoLine ?kc_NoLine ?xi_NoLine ?xt_NoLine ?xl_NoLine ?xc0_NoLine ?xk_NoLine ?xn_NoLine ?aC_NoPaper ?lC_NoPaper ?ga_NoPaper ?gh_NoPaper ?sa_NoPaper ?cl_NoPaper ?kc_NoPaper ?xq_NoPaper ?a1 ?l1 ?c1 ?k1 ?t1 ?a2 ?l2 ?c2 ?k2 ?a3 ?l3 ?c3 ?k3 ?a4 ?l4 ?c4 ?k4 ?a5 ?l5 ?c5 ?k5 ?a6 ?l6 ?c6 ?k6 ?a7 ?l7 ?c7 ?k7 ?a8 ?l8 ?c8 ?k8 ?a9 ?l9 ?c9 ?k9 ?a10 ?l10 ?c10 ?k10 ?a11 ?l11 ?c11 ?k11 ?a12 ?l12 ?c12 ?k12 ?a13 ?l13 ?c13 ?k13 ?a14 ?l14 ?c14 ?k14 ?a15 ?l15 ?c15 ?k15 ?z1 ?z2 ?z3 ?z4 ?z5 ?z6 ?z7 ?z8 ?z9 ?z10 ?z11 ?z12 ?z13 ?z14 ?y1 ?y2
    (case aC_GlueError => k_is)
    (case lC_GlueError => k_is)
    (case xq_GlueError => k_exc)
    (case aC_TooMany => k_is)
    (case lC_TooMany => k_is)
    (case ga_TooMany => k_is)
    (case gh_TooMany => k_is)
    (case sa_TooMany => k_is)
    (case cl_TooMany => k_is)
    (case kc_TooMany => k_is)
    (case xi_TooMany => k_is)
    (case xt_TooMany => k_is)
    (case xl_TooMany => k_is)
    (case xc0_TooMany => k_is)
    (case xk_TooMany => k_is)
    (case xn_TooMany => k_is)
    (case aC_NoPiece => k_is)
    (case lC_NoPiece => k_is)
    (case ga_NoPiece => k_is)
    (case gh_NoPiece => k_is)
    (case sa_NoPiece => k_is)
    (case cl_NoPiece => k_is)
    (case kc_NoPiece => k_is)
    (case xi_NoPiece => k_is)
    (case xt_NoPiece => k_is)
    (case xl_NoPiece => k_is)
    (case xc0_NoPiece => k_is)
    (case xk_NoPiece => k_is)
    (case xn_NoPiece => k_is)
    (case aC_NotHeld => k_is)
    (case lC_NotHeld => k_is)
    (case ga_NotHeld => k_is)
    (case gh_NotHeld => k_is)
    (case sa_NotHeld => k_is)
    (case cl_NotHeld => k_is)
    (case kc_NotHeld => k_is)
    (case xi_NotHeld => k_is)
    (case xt_NotHeld => k_is)
    (case xl_NotHeld => k_is)
    (case xc0_NotHeld => k_is)
    (case xk_NotHeld => k_is)
    (case xn_NotHeld => k_is)
    (case aC_TooGreat => k_is)
    (case lC_TooGreat => k_is)
    (case ga_TooGreat => k_is)
    (case gh_TooGreat => k_is)
    (case sa_TooGreat => k_is)
    (case cl_TooGreat => k_is)
    (case kc_TooGreat => k_is)
    (case xi_TooGreat => k_is)
    (case xt_TooGreat => k_is)
    (case xl_TooGreat => k_is)
    (case xc0_TooGreat => k_is)
    (case xk_TooGreat => k_is)
    (case xn_TooGreat => k_is)
    (case aC_NoLine => k_is)
    (case lC_NoLine => k_is)
    (case ga_NoLine => k_is)
    (case gh_NoLine => k_is)
    (case sa_NoLine => k_is)
    (case cl_NoLine => k_is)
    (case kc_NoLine => k_is)
    (case xi_NoLine => k_is)
    (case xt_NoLine => k_is)
    (case xl_NoLine => k_is)
    (case xc0_NoLine => k_is)
    (case xk_NoLine => k_is)
    (case xn_NoLine => k_is)
    (case aC_NoPaper => k_is)
    (case lC_NoPaper => k_is)
    (case ga_NoPaper => k_is)
    (case gh_NoPaper => k_is)
    (case sa_NoPaper => k_is)
    (case cl_NoPaper => k_is)
    (case kc_NoPaper => k_is)
    (case xq_NoPaper => k_exc)
    (case a1 => k_is)
    (case l1 => k_is)
    (case c1 => k_is)
    (case k1 => k_is)
    (case t1 => k_is)
    (case a2 => k_is)
    (case l2 => k_is)
    (case c2 => k_is)
    (case k2 => k_is)
    (case a3 => k_is)
    (case l3 => k_is)
    (case c3 => k_is)
    (case k3 => k_is)
    (case a4 => k_is)
    (case l4 => k_is)
    (case c4 => k_is)
    (case k4 => k_is)
    (case a5 => k_is)
    (case l5 => k_is)
    (case c5 => k_is)
    (case k5 => k_is)
    (case a6 => k_is)
    (case l6 => k_is)
    (case c6 => k_is)
    (case k6 => k_is)
    (case a7 => k_is)
    (case l7 => k_is)
    (case c7 => k_is)
    (case k7 => k_is)
    (case a8 => k_is)
    (case l8 => k_is)
    (case c8 => k_is)
    (case k8 => k_is)
    (case a9 => k_is)
    (case l9 => k_is)
    (case c9 => k_is)
    (case k9 => k_is)
    (case a10 => k_is)
    (case l10 => k_is)
    (case c10 => k_is)
    (case k10 => k_is)
    (case a11 => k_is)
    (case l11 => k_is)
    (case c11 => k_is)
    (case k11 => k_is)
    (case a12 => k_is)
    (case l12 => k_is)
    (case c12 => k_is)
    (case k12 => k_is)
    (case a13 => k_is)
    (case l13 => k_is)
    (case c13 => k_is)
    (case k13 => k_is)
    (case a14 => k_is)
    (case l14 => k_is)
    (case c14 => k_is)
    (case k14 => k_is)
    (case a15 => k_is)
    (case l15 => k_is)
    (case c15 => k_is)
    (case k15 => k_is)
    (case z1 => k_is)
    (case z2 => k_is)
    (case z3 => k_is)
    (case z4 => k_is)
    (case z5 => k_is)
    (case z6 => k_is)
    (case z7 => k_is)
    (case z8 => k_is)
    (case z9 => k_is)
    (case z10 => k_is)
    (case z11 => k_is)
    (case z12 => k_is)
    (case z13 => k_is)
    (case z14 => k_is)
    (case y1 => k_is)
    (case y2 => k_is)
