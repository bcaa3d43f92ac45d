import PyProof.Rows.All
import Wide.All
import OpenK.AllK
import Wide.FinOn
import Lean
import PyProof.EqAt
import PyProof.EqKinds
import PyProof.TupleCall
import PySem.Challenge.RW_pasthall_k47_led
set_option Elab.async false
set_option linter.all false
set_option maxRecDepth 100000
namespace L2
open PySem PySem.Spec PyProof.Rows
abbrev Key := Sum Int Str
def keyIs : Key → Value → Bool
  | .inl k, v => Value.isInt k v
  | .inr x, v => Value.isStrOf x v
def keyH (w : World) : Key → Int
  | .inl k => hashInt k
  | .inr x => hashStr w x
theorem keyIs_shape : ∀ {k : Key} {v : Value}, keyIs k v = true → (∃ i t, k = Sum.inl i ∧ v = Value.int i t) ∨ (∃ x t, k = Sum.inr x ∧ v = Value.str x t)
  | .inl i, v, h => by
    obtain ⟨t, e⟩ := Value.isInt_shape (k := i) (v := v) h
    exact .inl ⟨i, t, rfl, e⟩
  | .inr x, v, h => by
    obtain ⟨t, e⟩ := Value.isStrOf_shape (x := x) (v := v) h
    exact .inr ⟨x, t, rfl, e⟩
theorem key_ll (a b : Int) : decide ((Sum.inl a : Key) = Sum.inl b) = (a == b) := by
  by_cases e : a = b
  · subst e; simp
  · have h : ¬ (Sum.inl a : Key) = Sum.inl b := fun q => e (Sum.inl.inj q)
    rw [decide_eq_false h]
    exact (beq_eq_false_iff_ne.mpr e).symm
theorem key_rr (a b : Str) : decide ((Sum.inr a : Key) = Sum.inr b) = decide (a = b) := by
  by_cases e : a = b
  · subst e; simp
  · have h : ¬ (Sum.inr a : Key) = Sum.inr b := fun q => e (Sum.inr.inj q)
    rw [decide_eq_false h, decide_eq_false e]
theorem key_lr (a : Int) (b : Str) : decide ((Sum.inl a : Key) = Sum.inr b) = false := decide_eq_false (fun q => nomatch q)
theorem key_rl (a : Str) (b : Int) : decide ((Sum.inr a : Key) = Sum.inl b) = false := decide_eq_false (fun q => nomatch q)
def mixKind (prog : Program) (w : World) : PySem.KeyKind prog w Key where
  is := keyIs
  hash := keyH w
  inj := fun v a b ha hb => by
    rcases keyIs_shape ha with ⟨i, t, rfl, rfl⟩ | ⟨x, t, rfl, rfl⟩
    · rcases keyIs_shape hb with ⟨j, u, rfl, e⟩ | ⟨y, u, rfl, e⟩
      · injection e with e1 _; rw [e1]
      · exact nomatch e
    · rcases keyIs_shape hb with ⟨j, u, rfl, e⟩ | ⟨y, u, rfl, e⟩
      · exact nomatch e
      · injection e with e1 _; rw [e1]
  byValue := fun k v h => by
    rcases keyIs_shape h with ⟨i, t, rfl, rfl⟩ | ⟨x, t, rfl, rfl⟩ <;> rfl
  pyHash := fun hv h => by
    rcases keyIs_shape hv with ⟨i, t, rfl, rfl⟩ | ⟨x, t, rfl, rfl⟩
    · exact wpAny_pyHash_int h
    · exact wpAny_pyHash_str h
  eqBool := fun hu hv h => by
    rcases keyIs_shape hu with ⟨i, t, rfl, rfl⟩ | ⟨x, t, rfl, rfl⟩
    · rcases keyIs_shape hv with ⟨j, u, rfl, rfl⟩ | ⟨y, u, rfl, rfl⟩
      · rw [key_ll] at h; exact wpAny_eqBool_int h
      · rw [key_lr] at h; exact SeqAt.EqAt.int_str i t y u _ _ _ _ h
    · rcases keyIs_shape hv with ⟨j, u, rfl, rfl⟩ | ⟨y, u, rfl, rfl⟩
      · rw [key_rl] at h; exact SeqAt.EqAt.str_int x t j u _ _ _ _ h
      · rw [key_rr] at h; exact wpAny_eqBool_str h
  «strs» := fun k x t v h => by
    rcases keyIs_shape h with ⟨i, u, rfl, e⟩ | ⟨y, u, rfl, e⟩
    · exact nomatch e
    · injection e with e1 _
      subst e1
      cases v <;> rfl
end L2
namespace L2
open PySem PySem.Spec PyProof.Rows
inductive V where
  | non | bl (b : Bool) | int (i : Int) | str (x : Str) | byt (b : Array UInt8) | flt (b : UInt64) | ref (a : Addr) | ty (n : String)
  deriving DecidableEq
def RelV : V → Value → Prop
  | .non, u => u = Value.none
  | .bl b, u => u = Value.bool b
  | .int i, u => ∃ t, u = Value.int i t
  | .str x, u => ∃ t, u = Value.str x t
  | .byt b, u => ∃ t, u = Value.bytes b t
  | .flt b, u => ∃ t, u = Value.float b t
  | .ref a, u => u = Value.ref a
  | .ty n, u => u = Value.type n
abbrev Vals : List V → List Value → Prop := Paired RelV
theorem Vals.length {xs : List V} {us : List Value} (r : Vals xs us) : xs.length = us.length := Paired.length r
theorem Vals.get : ∀ {xs : List V} {us : List Value} {i : Nat} {x : V}, Vals xs us → xs[i]? = some x → ∃ u, us[i]? = some u ∧ RelV x u
  | _, _, _, _, .nil, e => by simp at e
  | _, _, 0, _, .cons r _, e => by simp at e; subst e; exact ⟨_, rfl, r⟩
  | _, _, i + 1, x, .cons _ t, e => by
    obtain ⟨u, h1, h2⟩ := Vals.get (i := i) (x := x) t (by simpa using e)
    exact ⟨u, by simpa using h1, h2⟩
theorem Vals.set {x : V} {u : Value} (r : RelV x u) : ∀ {xs : List V} {us : List Value} (i : Nat), Vals xs us → Vals (xs.set i x) (us.set i u)
  | _, _, _, .nil => .nil
  | _, _, 0, .cons _ t => .cons r t
  | _, _, i + 1, .cons q t => .cons q (Vals.set r i t)
theorem Vals.append : ∀ {xs ys : List V} {us ws : List Value}, Vals xs us → Vals ys ws → Vals (xs ++ ys) (us ++ ws)
  | _, _, _, _, .nil, s => s
  | _, _, _, _, .cons r t, s => .cons r (Vals.append t s)
theorem Vals.take : ∀ {xs : List V} {us : List Value} (n : Nat), Vals xs us → Vals (xs.take n) (us.take n)
  | _, _, 0, _ => .nil
  | _, _, _ + 1, .nil => .nil
  | _, _, n + 1, .cons r t => .cons r (Vals.take n t)
theorem Vals.drop : ∀ {xs : List V} {us : List Value} (n : Nat), Vals xs us → Vals (xs.drop n) (us.drop n)
  | _, _, 0, r => r
  | _, _, _ + 1, .nil => .nil
  | _, _, n + 1, .cons _ t => Vals.drop n t
def RelO : Option V → Option Value → Prop
  | some v, some u => RelV v u
  | none, none => True
  | _, _ => False
def KV {κ : Type} : List (κ × V) → List (κ × Value) → Prop := Paired fun (p : κ × V) (q : κ × Value) => p.1 = q.1 ∧ RelV p.2 q.2
def kV : Key → V
  | .inl i => .int i
  | .inr x => .str x
inductive HO where
  | lst (xs : List V)
  | tup (xs : List V)
  | dK (kvs : List (Key × V)) | dT (kvs : List (List Key × V))
  | set (S : Int → Bool) (n : Nat)
  | ins (C dx : Addr) (fs : List (Str × V))
  | own (x : Addr)
  | xd (fs : List (Str × V))
  | met (f x : Addr)
  | rng (lo hi : Int)
  | frz (o : Obj) (u : HO)
  | tbl (ps : Array Value)
  | ext (φ : Heap → Prop)
abbrev Hp := Addr → Option HO
def upd (H : Hp) (a : Addr) (o : HO) : Hp := fun b => if b = a then some o else H b
theorem upd_same {H : Hp} {a : Addr} {o : HO} : upd H a o a = some o := by unfold upd; rw [if_pos rfl]
theorem upd_ne {H : Hp} {a b : Addr} {o : HO} (h : b ≠ a) : upd H a o b = H b := by unfold upd; rw [if_neg h]
theorem ne_of_none {H : Hp} {a b : Addr} {o : HO} (h : H a = some o) (h' : H b = none) : a ≠ b := by
  intro e; subst e; rw [h] at h'; cases h'
section
variable (P : Program) (w : World)
def ObjOk (H : Hp) (h : Heap) (a : Addr) : HO → Prop
  | .lst xs => xs.length ≤ sizeLine ∧ ∃ (its : List Value) (n : Nat), Vals xs its ∧ h.get? a = some { cls := .type "list", data := .seq its.toArray n }
  | .tup xs => xs.length ≤ sizeLine ∧ ∃ its : List Value, Vals xs its ∧ IsTup h a its.toArray
  | .dK kvs => kvs.length ≤ sizeLine ∧ (a == sysModules) = false ∧ ∃ vs, KV kvs vs ∧ h.DictOf (mixKind P w) a vs
  | .dT kvs => kvs.length ≤ sizeLine ∧ (a == sysModules) = false ∧ ∃ xs : List (List Key × Addr × Value),
      Paired (fun (p : List Key × V) (q : List Key × Addr × Value) => p.1 = q.1 ∧ H q.2.1 = some (.tup (p.1.map kV)) ∧ RelV p.2 q.2.2) kvs xs ∧
      ∃ o es ep, h.get? a = some o ∧ o.ExactDict ∧ o.data = .dict es ep ∧ es.toList = xs.map (entryOfKey (tupleKind (mixKind P w))) ∧ (xs.map (·.1)).Nodup
  | .set S n => h.SetOf (intKind P w) a S n
  | .ins C dx fs => H dx = some (.own a) ∧ fs.length ≤ 1000 ∧ dx ≠ a ∧ h.get? a = some (PySem.W.instObj C dx) ∧
      ∃ mA, h.Ns1 dx mA ∧ (∀ f, RelO (fs.lookup f) (mA f)) ∧ PySem.Within mA (fs.map (·.1))
  | .own _ => ∃ o, h.get? a = some o
  | .xd fs => ∃ mA, h.Ns1 a mA ∧ ∀ f, RelO (fs.lookup f) (mA f)
  | .rng lo hi => ∃ t u v, h.get? a = some { cls := .type "range", data := .fields #[.int lo t, .int hi u, .int 1 v] }
  | .frz o u => h.get? a = some o ∧ ObjOk H h a u
  | .tbl ps => h.get? a = some { cls := .none, data := .fields ps }
  | .met f x => h.get? a = some (PySem.W.methodObj (.ref f) (.ref x))
  | .ext φ => φ h ∧ (∃ o, h.get? a = some o) ∧ ∀ h1 h2 : Heap, φ h1 → (∀ o, h1.get? a = some o → h2.get? a = some o) → φ h2
def HOk (H : Hp) (h : Heap) : Prop := ∀ a o, H a = some o → ObjOk P w H h a o
end
section
variable {P : Program} {w : World} {H H' : Hp} {h h' : Heap} {a : Addr} {o : HO}
theorem ObjOk.lt (x : ObjOk P w H h a o) : a < h.objs.size := by
  cases o with
  | lst xs => obtain ⟨_, _, _, _, e⟩ := x; exact Heap.lt_size e
  | tup xs => obtain ⟨_, _, _, p⟩ := x; exact p.lt
  | dK kvs => obtain ⟨_, _, _, _, o, _, _, e, _⟩ := x; exact Heap.lt_size e
  | dT kvs => obtain ⟨_, _, _, _, o, _, _, e, _⟩ := x; exact Heap.lt_size e
  | set S n => obtain ⟨o, _, _, _, e, _⟩ := x; exact Heap.lt_size e
  | ins C dx fs => obtain ⟨_, _, _, e, _⟩ := x; exact Heap.lt_size e
  | own y => obtain ⟨_, e⟩ := x; exact Heap.lt_size e
  | xd fs => obtain ⟨_, ⟨_, _, _, e, _⟩, _⟩ := x; exact Heap.lt_size e
  | rng lo hi => obtain ⟨_, _, _, e⟩ := x; exact Heap.lt_size e
  | frz ob u => obtain ⟨e, _⟩ := x; exact Heap.lt_size e
  | tbl ps => exact Heap.lt_size (show h.get? a = some _ from x)
  | met f y => exact Heap.lt_size (show h.get? a = some _ from x)
  | ext φ => obtain ⟨_, ⟨_, e⟩, _⟩ := x; exact Heap.lt_size e
theorem Paired.mapP {α β : Type} {F G : α → β → Prop} : ∀ {l₁ : List α} {l₂ : List β}, Paired F l₁ l₂ → (∀ a b, F a b → G a b) → Paired G l₁ l₂
  | _, _, .nil, _ => .nil
  | _, _, .cons r t, f => .cons (f _ _ r) (Paired.mapP t f)
theorem ObjOk.stay (x : ObjOk P w H h a o) (k : ∀ b u, (b = a ∨ H b = some (.own a)) → h.get? b = some u → h'.get? b = some u)
    (ho : ∀ b, H b = some (.own a) → H' b = some (.own a)) (ht : ∀ b xs, H b = some (.tup xs) → H' b = some (.tup xs)) : ObjOk P w H' h' a o := by
  induction o with
  | lst xs => obtain ⟨z, its, n, r, e⟩ := x; exact ⟨z, its, n, r, k _ _ (.inl rfl) e⟩
  | tup xs => obtain ⟨z, its, r, ob, e, c⟩ := x; exact ⟨z, its, r, ob, k _ _ (.inl rfl) e, c⟩
  | dK kvs => obtain ⟨z, y, vs, r, ob, es, ep, e, c⟩ := x; exact ⟨z, y, vs, r, ob, es, ep, k _ _ (.inl rfl) e, c⟩
  | dT kvs =>
    obtain ⟨z, y, xs, r, ob, es, ep, e, c⟩ := x
    exact ⟨z, y, xs, Paired.mapP r fun p q z => ⟨z.1, ht _ _ z.2.1, z.2.2⟩, ob, es, ep, k _ _ (.inl rfl) e, c⟩
  | set S n => obtain ⟨ob, es, ep, t, e, c⟩ := x; exact ⟨ob, es, ep, t, k _ _ (.inl rfl) e, c⟩
  | ins C dx fs =>
    obtain ⟨d, z, ne, e, mA, ⟨od, es, ep, e2, c⟩, r⟩ := x
    exact ⟨ho _ d, z, ne, k _ _ (.inl rfl) e, mA, ⟨od, es, ep, k _ _ (.inr d) e2, c⟩, r⟩
  | own y => obtain ⟨ob, e⟩ := x; exact ⟨ob, k _ _ (.inl rfl) e⟩
  | xd fs => obtain ⟨mA, ⟨od, es, ep, e, c⟩, r⟩ := x; exact ⟨mA, ⟨od, es, ep, k _ _ (.inl rfl) e, c⟩, r⟩
  | rng lo hi => obtain ⟨t, u, v, e⟩ := x; exact ⟨t, u, v, k _ _ (.inl rfl) e⟩
  | frz ob u ih => obtain ⟨e, q⟩ := x; exact ⟨k _ _ (.inl rfl) e, ih q⟩
  | tbl ps =>
    have e : h.get? a = some { cls := .none, data := .fields ps } := x
    show h'.get? a = some { cls := .none, data := .fields ps }
    exact k a _ (.inl rfl) e
  | met f y =>
    have e : h.get? a = some (PySem.W.methodObj (.ref f) (.ref y)) := x
    show h'.get? a = some (PySem.W.methodObj (.ref f) (.ref y))
    exact k a _ (.inl rfl) e
  | ext φ => obtain ⟨p, ⟨o, e⟩, st⟩ := x; exact ⟨st _ _ p fun o q => k _ _ (.inl rfl) q, ⟨o, k _ _ (.inl rfl) e⟩, st⟩
theorem HOk.lt (x : HOk P w H h) (e : H a = some o) : a < h.objs.size := (x a o e).lt
theorem HOk.fresh (x : HOk P w H h) (e : h.objs.size ≤ a) : H a = none := by
  cases q : H a with
  | none => rfl
  | some u => exact absurd (Nat.lt_of_lt_of_le (x.lt q) e) (Nat.lt_irrefl _)
theorem HOk.kept (x : HOk P w H h) (k : ∀ b u, h.get? b = some u → h'.get? b = some u) : HOk P w H h' := fun a o e =>
  (x a o e).stay (fun b u _ q => k b u q) (fun _ q => q) fun _ _ q => q
theorem HOk.laid (x : HOk P w H h) (k : ∀ b u, h.get? b = some u → h'.get? b = some u) (hp : h.objs.size ≤ a) (new : ObjOk P w (upd H a o) h' a o) : HOk P w (upd H a o) h' := fun b u e => by
  have hn := x.fresh hp
  by_cases hb : b = a
  · subst hb; rw [upd_same] at e; cases e; exact new
  · rw [upd_ne hb] at e
    exact (x b u e).stay (fun c v _ q => k c v q) (fun c q => by rw [upd_ne (ne_of_none q hn)]; exact q) fun c xs q => by rw [upd_ne (ne_of_none q hn)]; exact q
end
def Rd (H : Hp) (a : Addr) (u : HO) : Prop := H a = some u ∨ ∃ o, H a = some (.frz o u)
theorem Rd.ok {P : Program} {w : World} {H : Hp} {h : Heap} {a : Addr} {u : HO} (r : Rd H a u) (x : HOk P w H h) : ObjOk P w H h a u := by
  rcases r with r | ⟨o, r⟩
  · exact x a u r
  · obtain ⟨_, q⟩ := x a _ r
    exact q
section
variable {P : Program} {w : World} {H : Hp} {h h' : Heap} {x e : Addr} {o' : HO}
end
structure Un (fs ex : List Addr) (H H' : Hp) (h h' : Heap) : Prop where
  keep : ∀ b o, h.get? b = some o → H b = none → b ∉ fs → b ∉ ex → h'.get? b = some o
  slot : ∀ b o, h.get? b = some o → H b = none → b ∈ fs → b ∉ ex → ∃ sl, h'.get? b = some { o with slots := sl }
  free : ∀ b o, h.get? b = some o → H b = none → b ∉ ex → H' b = none
  there : ∀ b o, h.get? b = some o → b ∉ ex → ∃ o', h'.get? b = some o'
  tups : ∀ b xs, H b = some (.tup xs) → H' b = some (.tup xs)
  frzs : ∀ b o u, H b = some (.frz o u) → H' b = some (.frz o u)
  tbls : ∀ b ps, H b = some (.tbl ps) → ∃ more, H' b = some (.tbl (ps ++ more))
section
variable {fs fs' ex ex' : List Addr} {H H1 H2 : Hp} {h h1 h2 h' : Heap} {a x e : Addr} {o : HO}
theorem Un.any (u : Un fs ex H H1 h h1) {b : Addr} {ob : Obj} (q : h.get? b = some ob) (n : H b = none) (hx : b ∉ ex) : ∃ sl, h1.get? b = some { ob with slots := sl } := by
  by_cases hb : b ∈ fs
  · exact u.slot b ob q n hb hx
  · exact ⟨ob.slots, u.keep b ob q n hb hx⟩
theorem Un.kept (k : ∀ b u, h.get? b = some u → h'.get? b = some u) : Un fs ex H H h h' :=
  ⟨fun b ob q _ _ _ => k b ob q, fun b ob q _ _ _ => ⟨ob.slots, k b ob q⟩, fun _ _ _ n _ => n, fun b ob q _ => ⟨ob, k b ob q⟩, fun _ _ q => q, fun _ _ _ q => q, fun _ ps q => ⟨#[], by rw [q]; simp⟩⟩
theorem Un.refl : Un fs ex H H h h := Un.kept fun _ _ q => q
theorem Un.laid (k : ∀ b u, h.get? b = some u → h'.get? b = some u) (hp : h.objs.size ≤ a) (hn : H a = none) : Un fs ex H (upd H a o) h h' where
  keep := fun b u q _ _ _ => k b u q
  slot := fun b u q _ _ _ => ⟨u.slots, k b u q⟩
  free := fun b u q n _ => by rw [upd_ne (Nat.ne_of_lt (Nat.lt_of_lt_of_le (Heap.lt_size q) hp))]; exact n
  there := fun b u q _ => ⟨u, k b u q⟩
  tups := fun b xs q => by rw [upd_ne (ne_of_none q hn)]; exact q
  frzs := fun b u xs q => by rw [upd_ne (ne_of_none q hn)]; exact q
  tbls := fun b ps q => ⟨#[], by rw [upd_ne (ne_of_none q hn), q]; simp⟩
end
def trk (h : Heap) (H : Hp) : List Addr := (List.range h.objs.size).filter fun a => (H a).isSome
def hidT (h : Heap) (H : Hp) : Heap := PySem.W.hideAll h (trk h H)
theorem hidT_size (h : Heap) (H : Hp) : (hidT h H).objs.size = h.objs.size := PySem.W.hideAll_size _ _
theorem hidT_get {h : Heap} {H : Hp} {b : Addr} {o : Obj} (e : h.get? b = some o) (n : H b = none) : (hidT h H).get? b = some o :=
  PySem.W.hideAll_get _ e fun hm => by
    have q : (H b).isSome = true := (List.mem_filter.mp hm).2
    rw [n] at q; simp at q
theorem of_hidT {h : Heap} {H : Hp} {b : Addr} {o : Obj} (e : (hidT h H).get? b = some o) : h.get? b = some o ∧ H b = none := by
  have e' : h.get? b = some o := PySem.W.of_hideAll (trk h H) e
  refine ⟨e', ?_⟩
  cases q : H b with
  | none => rfl
  | some x =>
    have hm : b ∈ trk h H := List.mem_filter.mpr ⟨List.mem_range.mpr (Heap.lt_size e'), by simp [q]⟩
    have z : (hidT h H).get? b = none := PySem.W.hideAll_none (trk h H) hm
    rw [z] at e; cases e
def allNews (g h : Heap) (L : Addr) : List (Addr × Obj) := (List.range h.objs.size).filterMap fun a => if a = L ∨ (g.get? a).isSome = true then none else (h.get? a).map fun o => (a, o)
def rest (g h : Heap) (L d : Addr) : List (Addr × Obj) := (allNews g h L).filter fun p => decide (p.1 ≠ d)
end L2
namespace L2
open PySem PySem.Spec PyProof.Rows
structure Mod (K : PySem.W.Frag) (mg : Str → Option Value) (base : Heap) : Prop where
  kin : K.In base
  glob : base.Ns mainGlobals mg
  blt : ∃ mb, base.Ns builtinsNs mb ∧ ∀ x : Str, x ≠ "__name__" → mb x = bootBuiltins x
  nolimit : base.NoLimit
structure Cx where
  prog : Program
  w : World
  K : PySem.W.Frag
  mg : Str → Option Value
  base : Heap
  A : Around
  N : List Str
  s₀ : Shared
  H₀ : Hp
  env : Env
  outer : List Env
  stack : List Env
  ex : List Addr
  fn : Str → Bool
  calm : Bool
  pn : List (Addr × Obj)
  xe : Value → Shared → Prop
def frs (l : List Env) : List Addr := l.filterMap (·.frame)
abbrev Cx.fs (X : Cx) : List Addr := frs X.outer
def Vis (sc : Scope) (x : Str) : Prop := sc.names.lookup x = some .local ∨ sc.names.lookup x = some .cell ∨ sc.names.lookup x = some .free
def Loc (sc : Scope) (x : Str) : Prop := sc.names.lookup x = some .local ∨ sc.names.lookup x = some .cell
def Look (env : Env) (h : Heap) (m : Str → Option Value) (x : Str) (u : Value) : Prop :=
  (env.kindOf x = some .local ∧ m x = some u) ∨ ((env.kindOf x = some .cell ∨ env.kindOf x = some .free) ∧ ∃ c, env.cells.lookup x = some c ∧ h.IsCell c (some u))
structure Cx.Ok (X : Cx) : Prop where
  mod : Mod X.K X.mg X.base
  kind : X.env.scope.kind = .function
  glob : X.env.globals = mainGlobals
  blt : X.env.builtins = builtinsNs
  above : X.s₀.heap.objs.size ≤ X.env.locals
  inj : ∀ x y c, X.env.cells.lookup x = some c → X.env.cells.lookup y = some c → x = y
  has : ∀ x, (X.env.kindOf x = some .cell ∨ X.env.kindOf x = some .free) → ∃ c, X.env.cells.lookup x = some c
  cab : ∀ x c, X.fn x = true → X.env.cells.lookup x = some c → X.s₀.heap.objs.size ≤ c
  hd : X.calm = true → X.A.handled = none
  frames : X.A.frames = some X.stack
  stk : X.stack = X.outer ∨ (X.stack = X.env :: X.outer ∧ X.env.frame = some X.env.locals)
  exf : ∀ b ∈ X.ex, b ≠ X.env.locals ∧ ∀ x c, X.env.cells.lookup x = some c → c ≠ b
  bs : ∀ b o, X.base.get? b = some o → X.s₀.heap.get? b = some o ∧ X.H₀ b = none
  bsz : X.base.objs.size ≤ X.s₀.heap.objs.size
  noex : ∀ b o, X.base.get? b = some o → b ∉ X.ex
  exfs : ∀ b ∈ X.ex, b ∉ X.fs
  funs : X.s₀.heap.FunFrames X.base X.outer
  frf : ∀ b ∈ X.fs, X.H₀ b = none
structure Inv (X : Cx) (pins : List (Addr × Obj)) (σ : List (Option V)) (H : Hp) (s : Shared) : Prop where
  ok : X.Ok
  os : s.os = X.s₀.os
  bare : AllBare s.gens
  base : Un X.fs X.ex X.H₀ H X.s₀.heap s.heap
  loc : ∃ m, s.heap.Ns X.env.locals m ∧ ∀ (i : Nat) (x : Str) (v : V), X.N[i]? = some x → σ[i]? = some (some v) → Vis X.env.scope x → ∃ u, RelV v u ∧ Look X.env s.heap m x u
  cell : ∀ x c, X.env.cells.lookup x = some c → ∃ v, s.heap.IsCell c v
  free : H X.env.locals = none
  freeC : ∀ x c, X.env.cells.lookup x = some c → H c = none
  pin : ∀ p ∈ X.pn ++ pins, s.heap.get? p.1 = some p.2 ∧ H p.1 = none ∧ p.1 ≠ X.env.locals ∧ p.1 ∉ X.fs ∧ ∀ v, p.2.data ≠ .cell v
  hok : HOk X.prog X.w H s.heap
  len : σ.length = X.N.length
section
variable {X : Cx} {pins : List (Addr × Obj)} {σ : List (Option V)} {H H' : Hp} {s : Shared} {h' : Heap}
theorem Cx.Ok.nofr (ok : X.Ok) {b : Addr} {o : Obj} (e : X.base.get? b = some o) : b ∉ X.fs := fun hb => by
  have := (ok.funs.mem hb).1
  rw [e] at this; cases this
theorem Inv.bs (I : Inv X pins σ H s) : ∀ b o, X.base.get? b = some o → s.heap.get? b = some o ∧ H b = none := fun b o e =>
  ⟨I.base.keep b o (I.ok.bs b o e).1 (I.ok.bs b o e).2 (I.ok.nofr e) (I.ok.noex b o e), I.base.free b o (I.ok.bs b o e).1 (I.ok.bs b o e).2 (I.ok.noex b o e)⟩
theorem Inv.bk (I : Inv X pins σ H s) : ∀ b o, X.base.get? b = some o → s.heap.get? b = some o := fun b o e => (I.bs b o e).1
theorem Inv.mod (I : Inv X pins σ H s) : Mod X.K X.mg X.base := I.ok.mod
theorem Inv.kIn (I : Inv X pins σ H s) : X.K.In s.heap := I.ok.mod.kin.keeps I.bk
theorem Inv.lt (I : Inv X pins σ H s) : X.env.locals < s.heap.objs.size := let ⟨_, hn, _⟩ := I.loc; hn.lt
theorem Inv.sz (I : Inv X pins σ H s) : X.s₀.heap.objs.size ≤ s.heap.objs.size := Nat.le_trans I.ok.above (Nat.le_of_lt I.lt)
theorem Inv.nofs (I : Inv X pins σ H s) {a : Addr} (h : s.heap.objs.size ≤ a) : a ∉ X.fs := fun hb => by
  obtain ⟨_, o, ho, _⟩ := I.ok.funs.mem hb
  exact absurd (Nat.lt_of_lt_of_le (Heap.lt_size ho) (Nat.le_trans I.sz h)) (Nat.lt_irrefl _)
theorem Inv.cne (I : Inv X pins σ H s) : ∀ x c, X.env.cells.lookup x = some c → c ≠ X.env.locals := fun x c e z => by
  obtain ⟨v, o, ho, hd⟩ := I.cell x c e
  obtain ⟨m, ⟨o', es, ep, ho', hd', _⟩, _⟩ := I.loc
  rw [z, ho'] at ho; cases ho; rw [hd'] at hd; cases hd
theorem Inv.funs (I : Inv X pins σ H s) : s.heap.FunFrames X.base X.outer := by
  have all : ∀ (l : List Env), (∀ b ∈ frs l, b ∈ X.fs) → X.s₀.heap.FunFrames X.base l → s.heap.FunFrames X.base l := by
    intro l
    induction l with
    | nil => intro _ _; trivial
    | cons env r ih =>
      intro hs hl
      obtain ⟨hk, ⟨L, o, hf, hn, ho, hd⟩, hr⟩ := hl
      have hL : L ∈ X.fs := hs L (by unfold frs; rw [List.filterMap_cons, hf]; exact List.mem_cons_self)
      obtain ⟨sl, e⟩ := I.base.slot L o ho (I.ok.frf L hL) hL fun z => I.ok.exfs L z hL
      exact ⟨hk, ⟨L, _, hf, hn, e, hd⟩, ih (fun b hb => hs b (by unfold frs; rw [List.filterMap_cons, hf]; exact List.mem_cons_of_mem _ hb)) hr⟩
  exact all X.outer (fun _ hb => hb) I.ok.funs
theorem Inv.stack (I : Inv X pins σ H s) : s.heap.FunFrames X.base X.stack := by
  rcases I.ok.stk with e | ⟨e, hf⟩
  · rw [e]; exact I.funs
  · rw [e]
    obtain ⟨m, hn, _⟩ := I.loc
    refine .cons (by rw [I.ok.kind]; decide) hf hn ?_ I.funs
    exact Heap.get?_none_of_le (Nat.le_trans I.ok.bsz I.ok.above)
theorem Inv.stkSub (I : Inv X pins σ H s) : ∀ b ∈ frs X.stack, b ∈ X.env.locals :: X.fs := fun b hb => by
  rcases I.ok.stk with e | ⟨e, hf⟩
  · rw [e] at hb; exact List.mem_cons_of_mem _ hb
  · rw [e] at hb
    unfold frs at hb
    rw [List.filterMap_cons, hf] at hb
    exact hb
theorem Inv.stkFree (I : Inv X pins σ H s) : ∀ b ∈ frs X.stack, H b = none := fun b hb => by
  rcases List.mem_cons.mp (I.stkSub b hb) with e | hb
  · rw [e]; exact I.free
  · obtain ⟨_, o, ho, _⟩ := I.ok.funs.mem hb
    exact I.base.free b o ho (I.ok.frf b hb) fun z => I.ok.exfs b z hb
theorem Inv.step {g' : Array GenState} {t' : Nat} {d' : Drawn} {ch : List Addr} (I : Inv X pins σ H s)
    (hch : ∀ b ∈ ch, (b ∈ X.ex ∨ X.s₀.heap.objs.size ≤ b) ∧ b ≠ X.env.locals ∧ (∀ x c, X.env.cells.lookup x = some c → c ≠ b) ∧ ∀ p ∈ X.pn ++ pins, p.1 ≠ b)
    (keep : ∀ b o, b ≠ X.env.locals → b ∉ X.fs → b ∉ ch → s.heap.get? b = some o → H b = none → h'.get? b = some o)
    (slot : ∀ b o, b ≠ X.env.locals → b ∈ X.fs → b ∉ ch → s.heap.get? b = some o → H b = none → ∃ sl, h'.get? b = some { o with slots := sl }) (free : ∀ b o, b ∉ ch → s.heap.get? b = some o → H b = none → H' b = none)
    (there : ∀ b o, b ∉ ch → s.heap.get? b = some o → ∃ o', h'.get? b = some o')
    (tups : ∀ b xs, H b = some (.tup xs) → H' b = some (.tup xs)) (frzs : ∀ b o u, H b = some (.frz o u) → H' b = some (.frz o u)) (tbls : ∀ b ps, H b = some (.tbl ps) → ∃ more, H' b = some (.tbl (ps ++ more)))
    (ns : ∀ m, s.heap.Ns X.env.locals m → h'.Ns X.env.locals m) (hok : HOk X.prog X.w H' h') (hg : AllBare g') :
    Inv X pins σ H' { s with heap := h', gens := g', drawn := d', toks := t' } := by
  have neL : ∀ b o, X.s₀.heap.get? b = some o → b ≠ X.env.locals := fun b o e => Nat.ne_of_lt (Nat.lt_of_lt_of_le (Heap.lt_size e) I.ok.above)
  have neC : ∀ b o, X.s₀.heap.get? b = some o → b ∉ X.ex → b ∉ ch := fun b o e hx hb => by
    rcases (hch b hb).1 with z | z
    · exact hx z
    · exact absurd (Nat.lt_of_lt_of_le (Heap.lt_size e) z) (Nat.lt_irrefl _)
  have cellK : ∀ x c, X.env.cells.lookup x = some c → ∀ v, s.heap.IsCell c v → h'.IsCell c v := fun x c e v ⟨o, ho, hd⟩ => by
    have nch : c ∉ ch := fun z => (hch c z).2.2.1 x c e rfl
    by_cases hc : c ∈ X.fs
    · obtain ⟨sl, q⟩ := slot c o (I.cne x c e) hc nch ho (I.freeC x c e)
      exact ⟨_, q, hd⟩
    · exact ⟨o, keep c o (I.cne x c e) hc nch ho (I.freeC x c e), hd⟩
  refine ⟨I.ok, I.os, hg, ⟨fun b o e n hb hx => ?_, fun b o e n hb hx => ?_, fun b o e n hx => ?_, fun b o e hx => ?_, fun b xs e => tups b xs (I.base.tups b xs e), fun b o xs e => frzs b o xs (I.base.frzs b o xs e), fun b ps e => ?_⟩, ?_, fun x c e => ?_, ?_, fun x c e => ?_, fun p hp => ?_, hok, I.len⟩
  · exact keep b o (neL b o e) hb (neC b o e hx) (I.base.keep b o e n hb hx) (I.base.free b o e n hx)
  · obtain ⟨sl, e1⟩ := I.base.slot b o e n hb hx
    obtain ⟨sl', e2⟩ := slot b _ (neL b o e) hb (neC b o e hx) e1 (I.base.free b o e n hx)
    exact ⟨sl', e2⟩
  · obtain ⟨o', e1⟩ := I.base.there b o e hx
    exact free b o' (neC b o e hx) e1 (I.base.free b o e n hx)
  · obtain ⟨o', e1⟩ := I.base.there b o e hx
    exact there b o' (neC b o e hx) e1
  · obtain ⟨m1, e1⟩ := I.base.tbls b ps e
    obtain ⟨m2, e2⟩ := tbls b _ e1
    exact ⟨m1 ++ m2, by rw [e2, Array.append_assoc]⟩
  · obtain ⟨m, hn, hl⟩ := I.loc
    refine ⟨m, ns m hn, fun i x v e1 e2 e3 => ?_⟩
    obtain ⟨u, r, l⟩ := hl i x v e1 e2 e3
    refine ⟨u, r, ?_⟩
    rcases l with l | ⟨k, c, e, z⟩
    · exact .inl l
    · exact .inr ⟨k, c, e, cellK x c e _ z⟩
  · obtain ⟨v, z⟩ := I.cell x c e
    exact ⟨v, cellK x c e v z⟩
  · obtain ⟨m, ⟨o, _, _, ho, _⟩, _⟩ := I.loc
    exact free _ o (fun z => (hch _ z).2.1 rfl) ho I.free
  · obtain ⟨v, o, ho, hd⟩ := I.cell x c e
    exact free c o (fun z => (hch c z).2.2.1 x c e rfl) ho (I.freeC x c e)
  · obtain ⟨e, n, ne, nf, d⟩ := I.pin p hp
    have nch : p.1 ∉ ch := fun z => (hch p.1 z).2.2.2 p hp rfl
    exact ⟨keep p.1 p.2 ne nf nch e n, free p.1 p.2 nch e n, ne, nf, d⟩
theorem Inv.un {t' : Nat} (I : Inv X pins σ H s) (u : Un X.fs [] H H' s.heap h') (hok : HOk X.prog X.w H' h') : Inv X pins σ H' { s with heap := h', toks := t' } := by
  obtain ⟨m, ⟨o, es, ep, ho, r⟩, _⟩ := id I.loc
  obtain ⟨sl, hL⟩ := u.any ho I.free (by simp)
  exact I.step (g' := s.gens) (d' := s.drawn) (ch := []) (fun _ z => nomatch z) (fun b o _ hb _ e n => u.keep b o e n hb (by simp)) (fun b o _ hb _ e n => u.slot b o e n hb (by simp)) (fun b o _ e n => u.free b o e n (by simp)) (fun b o _ e => u.there b o e (by simp)) u.tups u.frzs u.tbls (fun m' hm => by
    obtain ⟨o', es', ep', ho', r'⟩ := hm
    rw [ho] at ho'; cases ho'
    exact ⟨_, es', ep', hL, r'⟩) hok I.bare
theorem Inv.call {g' : Array GenState} {t' : Nat} {d' : Drawn} {ch : List Addr} (I : Inv X pins σ H s) (u : Un (frs X.stack) ch H H' s.heap h') (hok : HOk X.prog X.w H' h') (hg : AllBare g')
    (hch : ∀ b ∈ ch, (b ∈ X.ex ∨ X.s₀.heap.objs.size ≤ b) ∧ b ≠ X.env.locals ∧ (∀ x c, X.env.cells.lookup x = some c → c ≠ b) ∧ ∀ p ∈ X.pn ++ pins, p.1 ≠ b) :
    Inv X pins σ H' { s with heap := h', gens := g', drawn := d', toks := t' } := by
  obtain ⟨m, ⟨o, es, ep, ho, r⟩, _⟩ := id I.loc
  obtain ⟨sl, hL⟩ := u.any ho I.free fun z => (hch _ z).2.1 rfl
  exact I.step (ch := ch) hch (fun b o hL hb hc e n => u.keep b o e n (fun z => (List.mem_cons.mp (I.stkSub b z)).elim hL hb) hc) (fun b o _ _ hc e n => u.any e n hc) (fun b o hc e n => u.free b o e n hc) (fun b o hc e => u.there b o e hc) u.tups u.frzs u.tbls (fun m' hm => by
    obtain ⟨o', es', ep', ho', r'⟩ := hm
    rw [ho] at ho'; cases ho'
    exact ⟨_, es', ep', hL, r'⟩) hok hg
theorem Inv.turned {t' : Nat} {it : Addr} (I : Inv X pins σ H s) (k : ∀ b o, b ≠ it → s.heap.get? b = some o → h'.get? b = some o) (hn : H it = none) (hL : it ≠ X.env.locals)
    (h1 : it ∈ X.ex ∨ X.s₀.heap.objs.size ≤ it) (h2 : ∀ x c, X.env.cells.lookup x = some c → c ≠ it) (h3 : ∀ p ∈ X.pn ++ pins, p.1 ≠ it) : Inv X pins σ H { s with heap := h', toks := t' } := by
  have nit : ∀ b u, H b = some u → b ≠ it := fun b u e z => by rw [z, hn] at e; cases e
  refine I.step (g' := s.gens) (d' := s.drawn) (ch := [it]) (fun b hb => ?_) (fun b o _ _ hc e _ => k b o (fun z => hc (by simp [z])) e) (fun b o _ _ hc e _ => ⟨o.slots, k b o (fun z => hc (by simp [z])) e⟩) (fun _ _ _ _ n => n)
    (fun b o hc e => ⟨o, k b o (fun z => hc (by simp [z])) e⟩) (fun _ _ e => e) (fun _ _ _ e => e) (fun b ps e => ⟨#[], by rw [e]; simp⟩) (fun m hm => ?_) (fun b u e => ?_) I.bare
  · have e : b = it := by simpa using hb
    subst e
    exact ⟨h1, hL, h2, h3⟩
  · obtain ⟨o, es, ep, ho, r⟩ := hm
    exact ⟨o, es, ep, k _ o (Ne.symm hL) ho, r⟩
  · refine (I.hok b u e).stay (fun c v hc q => k c v ?_ q) (fun _ q => q) fun _ _ q => q
    rcases hc with z | z
    · rw [z]; exact nit b u e
    · exact nit c _ z
theorem Inv.tok (I : Inv X pins σ H s) (t : Nat) : Inv X pins σ H { s with toks := t } := I.un (h' := s.heap) (t' := t) Un.refl I.hok
theorem Inv.kept {t' : Nat} (I : Inv X pins σ H s) (k : ∀ b u, s.heap.get? b = some u → h'.get? b = some u) : Inv X pins σ H { s with heap := h', toks := t' } := I.un (Un.kept k) (I.hok.kept k)
theorem Inv.laid {a : Addr} {o : HO} {t' : Nat} (I : Inv X pins σ H s) (k : ∀ b u, s.heap.get? b = some u → h'.get? b = some u) (hp : s.heap.objs.size ≤ a) (new : ObjOk X.prog X.w (upd H a o) h' a o) :
    Inv X pins σ (upd H a o) { s with heap := h', toks := t' } := I.un (Un.laid k hp (I.hok.fresh hp)) (I.hok.laid k hp new)
theorem Inv.pins_of {pins' : List (Addr × Obj)} (I : Inv X pins σ H s) (h : ∀ p ∈ pins', s.heap.get? p.1 = some p.2 ∧ H p.1 = none ∧ p.1 ≠ X.env.locals ∧ p.1 ∉ X.fs ∧ ∀ v, p.2.data ≠ .cell v) : Inv X pins' σ H s :=
  ⟨I.ok, I.os, I.bare, I.base, I.loc, I.cell, I.free, I.freeC, fun p hp => (List.mem_append.mp hp).elim (fun z => I.pin p (List.mem_append_left _ z)) (h p), I.hok, I.len⟩
theorem nodup_ix {N : List Str} (hN : N.Nodup) {i j : Nat} {x : Str} (a : N[i]? = some x) (b : N[j]? = some x) : i = j := by
  obtain ⟨h1, e1⟩ := List.getElem?_eq_some_iff.mp a
  obtain ⟨h2, e2⟩ := List.getElem?_eq_some_iff.mp b
  exact (List.getElem_inj hN).mp (e1.trans e2.symm)
theorem store_ok2 {M : Model} {A : Around} {E : Value → Shared → Prop} {i : Nat} {x : Str} {v : V} {u : Value} {Q : Unit → Shared → Prop} (I : Inv X pins σ H s) (hN : X.N.Nodup) (hi : X.N[i]? = some x) (hx : Loc X.env.scope x) (r : RelV v u)
    (h : ∀ s', Inv X pins (σ.set i (some v)) H s' → (∃ a, Heap.SameBut a s.heap s'.heap ∧ (a = X.env.locals ∨ X.env.cells.lookup x = some a)) → Q () s') (hf : X.fn x = true ∨ X.env.scope.names.lookup x = some .local := by first | exact .inl rfl | exact .inr rfl | assumption) : wpAny M A (storeName X.env x u) Q E s := by
  obtain ⟨m, hn, hl⟩ := id I.loc
  have hcls : (X.env.scope.kind == .class || (X.env.scope.kind == .module && X.env.locals != X.env.globals)) = false := by rw [I.ok.kind]; rfl
  have hiσ : i < σ.length := by rw [I.len]; exact (List.getElem?_eq_some_iff.mp hi).1
  have cne := I.cne
  have tracked : ∀ {a : Addr} {h' : Heap}, (∃ o, s.heap.get? a = some o ∧ H a = none) → Heap.SameBut a s.heap h' → HOk X.prog X.w H h' := fun {a h'} ha hs b ob e => by
    obtain ⟨_, _, hfree⟩ := ha
    refine (I.hok b ob e).stay (fun c w' hc q => (hs.2 c ?_).trans q) (fun _ q => q) fun _ _ q => q
    rintro rfl
    rcases hc with rfl | hc
    · rw [hfree] at e; cases e
    · rw [hfree] at hc; cases hc
  rcases hx with hk | hk
  · refine wpAny_storeName_local hk hn (fun h' hn' hs => ?_) hcls
    obtain ⟨oL, _, _, hoL, _⟩ := id hn
    refine h _ ⟨I.ok, I.os, I.bare, ⟨fun b o e n hb hx => ?_, fun b o e n hb hx => ?_, I.base.free, fun b o e hx => ?_, I.base.tups, I.base.frzs, I.base.tbls⟩, ⟨_, hn', fun j y v' e1 e2 e3 => ?_⟩, fun y c e => ?_, I.free, I.freeC, fun p hp => ?_, tracked ⟨oL, hoL, I.free⟩ hs, by simpa using I.len⟩ ⟨_, hs, .inl rfl⟩
    · exact (hs.2 b (Nat.ne_of_lt (Nat.lt_of_lt_of_le (Heap.lt_size e) I.ok.above))).trans (I.base.keep b o e n hb hx)
    · obtain ⟨sl, e1⟩ := I.base.slot b o e n hb hx
      exact ⟨sl, (hs.2 b (Nat.ne_of_lt (Nat.lt_of_lt_of_le (Heap.lt_size e) I.ok.above))).trans e1⟩
    · obtain ⟨o', e1⟩ := I.base.there b o e hx
      exact ⟨o', (hs.2 b (Nat.ne_of_lt (Nat.lt_of_lt_of_le (Heap.lt_size e) I.ok.above))).trans e1⟩
    · by_cases hj : j = i
      · subst hj
        rw [hi] at e1; cases e1
        rw [List.getElem?_set_self hiσ] at e2
        cases e2
        exact ⟨u, r, .inl ⟨hk, by simp⟩⟩
      · rw [List.getElem?_set_ne (Ne.symm hj)] at e2
        obtain ⟨u', r', q⟩ := hl j y v' e1 e2 e3
        refine ⟨u', r', ?_⟩
        rcases q with ⟨k, e⟩ | ⟨k, c, e, z⟩
        · refine .inl ⟨k, ?_⟩
          have : y ≠ x := fun e => hj (nodup_ix hN e1 (e ▸ hi))
          simp [this, e]
        · exact .inr ⟨k, c, e, z.sameBut hs (cne y c e)⟩
    · obtain ⟨w', z⟩ := I.cell y c e
      exact ⟨w', z.sameBut hs (cne y c e)⟩
    · obtain ⟨e, n, ne, nf, d⟩ := I.pin p hp
      exact ⟨(hs.2 p.1 ne).trans e, n, ne, nf, d⟩
  · have hfn : X.fn x = true := by
      rcases hf with z | z
      · exact z
      · rw [z] at hk; cases hk
    obtain ⟨c, hc⟩ := I.ok.has x (.inl hk)
    obtain ⟨w', z⟩ := I.cell x c hc
    refine wpAny_storeName_cell I.ok.kind hk hc z (fun h' hc' hs => ?_)
    obtain ⟨oc, hoc, hocd⟩ := id z
    refine h { s with heap := h' } ⟨I.ok, I.os, I.bare, ⟨fun b o e n hb hx => ?_, fun b o e n hb hx => ?_, I.base.free, fun b o e hx => ?_, I.base.tups, I.base.frzs, I.base.tbls⟩, ⟨m, hn.sameBut hs (Ne.symm (cne x c hc)), fun j y v' e1 e2 e3 => ?_⟩, fun y c' e => ?_, I.free, I.freeC, fun p hp => ?_, tracked ⟨oc, hoc, I.freeC x c hc⟩ hs, by simpa using I.len⟩ ⟨c, hs, .inr hc⟩
    · exact (hs.2 b (Nat.ne_of_lt (Nat.lt_of_lt_of_le (Heap.lt_size e) (I.ok.cab x c hfn hc)))).trans (I.base.keep b o e n hb hx)
    · obtain ⟨sl, e1⟩ := I.base.slot b o e n hb hx
      exact ⟨sl, (hs.2 b (Nat.ne_of_lt (Nat.lt_of_lt_of_le (Heap.lt_size e) (I.ok.cab x c hfn hc)))).trans e1⟩
    · obtain ⟨o', e1⟩ := I.base.there b o e hx
      exact ⟨o', (hs.2 b (Nat.ne_of_lt (Nat.lt_of_lt_of_le (Heap.lt_size e) (I.ok.cab x c hfn hc)))).trans e1⟩
    · by_cases hj : j = i
      · subst hj
        rw [hi] at e1; cases e1
        rw [List.getElem?_set_self hiσ] at e2
        cases e2
        exact ⟨u, r, .inr ⟨.inl hk, c, hc, hc'⟩⟩
      · rw [List.getElem?_set_ne (Ne.symm hj)] at e2
        obtain ⟨u', r', q⟩ := hl j y v' e1 e2 e3
        refine ⟨u', r', ?_⟩
        rcases q with q | ⟨k, c', e, z'⟩
        · exact .inl q
        · refine .inr ⟨k, c', e, z'.sameBut hs ?_⟩
          rintro rfl
          exact hj (nodup_ix hN e1 (I.ok.inj _ _ _ e hc ▸ hi))
    · by_cases hcc : c' = c
      · subst hcc; exact ⟨_, hc'⟩
      · obtain ⟨w2, z2⟩ := I.cell y c' e
        exact ⟨w2, z2.sameBut hs hcc⟩
    · obtain ⟨e, n, ne, nf, d⟩ := I.pin p hp
      refine ⟨(hs.2 p.1 ?_).trans e, n, ne, nf, d⟩
      intro q
      rw [q, hoc] at e
      have q' : oc = p.2 := Option.some.inj e
      exact d w' (by rw [← q']; exact hocd)
theorem store_ok {M : Model} {A : Around} {E : Value → Shared → Prop} {i : Nat} {x : Str} {v : V} {u : Value} {Q : Unit → Shared → Prop} (I : Inv X pins σ H s) (hN : X.N.Nodup) (hi : X.N[i]? = some x) (hx : Loc X.env.scope x) (r : RelV v u)
    (h : ∀ s', Inv X pins (σ.set i (some v)) H s' → Q () s') (hf : X.fn x = true ∨ X.env.scope.names.lookup x = some .local := by first | exact .inl rfl | exact .inr rfl | assumption) : wpAny M A (storeName X.env x u) Q E s :=
  store_ok2 I hN hi hx r (fun s' I' _ => h s' I') hf
theorem Inv.call' {s' : Shared} {ch : List Addr} (I : Inv X pins σ H s) (ho : s'.os = s.os) (u : Un (frs X.stack) ch H H' s.heap s'.heap) (hok : HOk X.prog X.w H' s'.heap) (hg : AllBare s'.gens)
    (hch : ∀ b ∈ ch, (b ∈ X.ex ∨ X.s₀.heap.objs.size ≤ b) ∧ b ≠ X.env.locals ∧ (∀ x c, X.env.cells.lookup x = some c → c ≠ b) ∧ ∀ p ∈ X.pn ++ pins, p.1 ≠ b) : Inv X pins σ H' s' := by
  obtain ⟨h', g', d', t', o'⟩ := s'
  have e : o' = s.os := ho
  subst e
  exact I.call (g' := g') (t' := t') (d' := d') u hok hg hch
end
abbrev XK := Value → Option Addr → Hp → Prop
abbrev St := List (Option V)
abbrev VK := V → Hp → Prop
abbrev TE := St → Hp → VK → Prop
abbrev TT := St → Hp → (Bool → Hp → Prop) → Prop
abbrev TA := St → Hp → (List V → Hp → Prop) → Prop
structure Ends where
  nx : St → Hp → Prop
  rt : VK
  bk : St → Hp → Prop := fun _ _ => False
  ct : St → Hp → Prop := fun _ _ => False
abbrev TS := Ends → St → Hp → Prop
def EP (X : Cx) (pins : List (Addr × Obj)) (σ : St) (Q : VK) (u : Value) (s' : Shared) : Prop := ∃ v H', Inv X pins σ H' s' ∧ RelV v u ∧ Q v H'
def TP (X : Cx) (pins : List (Addr × Obj)) (σ : St) (Q : Bool → Hp → Prop) (b : Bool) (s' : Shared) : Prop := ∃ H', Inv X pins σ H' s' ∧ Q b H'
def AP (X : Cx) (pins : List (Addr × Obj)) (σ : St) (Q : List V → Hp → Prop) (us : List Value) (s' : Shared) : Prop := ∃ vs H', Inv X pins σ H' s' ∧ Vals vs us ∧ Q vs H'
def SP (X : Cx) (pins : List (Addr × Obj)) (D : Ends) (f : Flow) (s' : Shared) : Prop :=
  match f with
  | .next => ∃ σ' H', Inv X pins σ' H' s' ∧ D.nx σ' H'
  | .brk => ∃ σ' H', Inv X pins σ' H' s' ∧ D.bk σ' H'
  | .cont => ∃ σ' H', Inv X pins σ' H' s' ∧ D.ct σ' H'
  | .ret u => ∃ v σ' H', Inv X pins σ' H' s' ∧ RelV v u ∧ D.rt v H'
def PE (X : Cx) (e : Expr) (t : TE) : Prop :=
  ∀ (pins : List (Addr × Obj)) (s : Shared) (σ : St) (H : Hp) (Q : VK), Inv X pins σ H s → t σ H Q → wpAny (model X.prog X.w) X.A (eval e X.env) (EP X pins σ Q) X.xe s
def PT (X : Cx) (e : Expr) (t : TT) : Prop :=
  ∀ (pins : List (Addr × Obj)) (s : Shared) (σ : St) (H : Hp) (Q : Bool → Hp → Prop), Inv X pins σ H s → t σ H Q → wpAny (model X.prog X.w) X.A (isTrue e X.env (eval e X.env)) (TP X pins σ Q) X.xe s
def PW (X : Cx) (e : Expr) (t : TT) : Prop :=
  ∀ (whole : Sem Value) (pins : List (Addr × Obj)) (s : Shared) (σ : St) (H : Hp) (Q : Bool → Hp → Prop), Inv X pins σ H s → t σ H Q → wpAny (model X.prog X.w) X.A (isTrue e X.env whole) (TP X pins σ Q) X.xe s
theorem PW.pt {X : Cx} {e : Expr} {t : TT} (h : PW X e t) : PT X e t := h _
def PA (X : Cx) (es : List Expr) (t : TA) : Prop :=
  ∀ (pos : Pos) (pins : List (Addr × Obj)) (s : Shared) (σ : St) (H : Hp) (Q : List V → Hp → Prop), Inv X pins σ H s → t σ H Q → wpAny (model X.prog X.w) X.A (spliced (backTo pos (starEach es X.env))) (AP X pins σ Q) X.xe s
def PS (X : Cx) (st : Stmt) (t : TS) : Prop :=
  ∀ (pins : List (Addr × Obj)) (s : Shared) (σ : St) (H : Hp) (D : Ends), Inv X pins σ H s → t D σ H → wpAny (model X.prog X.w) X.A (exec st X.env) (SP X pins D) X.xe s
def PSs (X : Cx) (st : List Stmt) (t : TS) : Prop :=
  ∀ (pins : List (Addr × Obj)) (s : Shared) (σ : St) (H : Hp) (D : Ends), Inv X pins σ H s → t D σ H → wpAny (model X.prog X.w) X.A (execs st X.env) (SP X pins D) X.xe s
theorem thn {α : Type} {t : Sem α} {Q Q' : α → Shared → Prop} {M : Model} {A : Around} {E : Value → Shared → Prop} {s : Shared} (h : wpAny M A t Q E s) (hQ : ∀ a s, Q a s → Q' a s) : wpAny M A t Q' E s := wpAny_mono h hQ fun _ _ x => x
end L2
namespace L2
open PySem PySem.Spec PyProof.Rows
section
variable {X : Cx}
def tVar (i : Nat) : TE := fun σ H Q => ∃ v, σ[i]? = some (some v) ∧ Q v H
def tC (v : V) : TE := fun _ H Q => Q v H
theorem pe_var {i : Nat} {x : Str} {pos : Pos} (hN : X.N[i]? = some x) (hv : Vis X.env.scope x) (hd : (x == ("__debug__" : Str)) = false := by decide) (hcd : (x == ("__classdict__" : Str)) = false := by decide) : PE X (.Name x pos) (tVar i) := by
  intro pins s σ H Q I h
  obtain ⟨v, e, h⟩ := h
  obtain ⟨m, hn, hl⟩ := I.loc
  obtain ⟨u, r, l⟩ := hl i x v hN e hv
  have fin : EP X pins σ Q u s := ⟨v, H, I, r, h⟩
  rcases l with ⟨hk, hm⟩ | ⟨hk, c, hc, hcell⟩
  · exact wpAny_Name (wpAny_loadName_local I.ok.kind hk hn hm fin) hd
  · rcases hk with hk | hk
    · exact wpAny_Name (wpAny_loadName_cell I.ok.kind hk hc hcell fin) hd
    · exact wpAny_Name (wpAny_loadName_free I.ok.kind hk hc hcell fin hcd) hd
theorem pe_int {i j pos} : PE X (.Constant (.int i) j pos) (tC (.int i)) := fun _ _ _ H _ I h => wpAny_Constant_int ⟨.int i, H, I.tok _, ⟨_, rfl⟩, h⟩
theorem pe_bl {b j pos} : PE X (.Constant (.bool b) j pos) (tC (.bl b)) := fun _ _ _ H _ I h => Constant_bool ⟨.bl b, H, I, rfl, h⟩
theorem pe_non {j pos} : PE X (.Constant .none j pos) (tC .non) := fun _ _ _ H _ I h => Constant_none ⟨.non, H, I, rfl, h⟩
theorem pe_str {x j pos} : PE X (.Constant (.str x) j pos) (tC (.str x)) := fun _ _ _ H _ I h => Calls.Constant_str ⟨.str x, H, I.tok _, ⟨_, rfl⟩, h⟩
def Gl (X : Cx) (x : Str) : Prop := X.env.kindOf x = some .globalImplicit
theorem ld_glob {E : Value → Shared → Prop} {pins : List (Addr × Obj)} {s : Shared} {σ : St} {H : Hp} {x : Str} {u : Value} {pos : Pos} {Q : Value → Shared → Prop} (I : Inv X pins σ H s) (hg : Gl X x) (hm : X.mg x = some u) (h : Q u s)
    (hd : (x == ("__debug__" : Str)) = false := by decide) : wpAny (model X.prog X.w) X.A (eval (.Name x pos) X.env) Q E s :=
  Calls.Name_function_global I.ok.kind hg (Calls.loadGlobal_global (by rw [I.ok.glob]; exact I.mod.glob.keeps I.bk) hm h) hd
theorem ld_blt {E : Value → Shared → Prop} {pins : List (Addr × Obj)} {s : Shared} {σ : St} {H : Hp} {x : Str} {u : Value} {pos : Pos} {Q : Value → Shared → Prop} (I : Inv X pins σ H s) (hg : Gl X x) (hm : X.mg x = none) (hv : bootBuiltins x = some u) (h : Q u s)
    (hn : x ≠ "__name__" := by decide) (hd : (x == ("__debug__" : Str)) = false := by decide) : wpAny (model X.prog X.w) X.A (eval (.Name x pos) X.env) Q E s := by
  obtain ⟨mb, h1, h2⟩ := I.mod.blt
  exact Calls.Name_function_global I.ok.kind hg (Calls.loadGlobal_builtin (by rw [I.ok.glob]; exact I.mod.glob.keeps I.bk) hm (by rw [I.ok.blt]; exact h1.keeps I.bk) ((h2 x hn).trans hv) h) hd
theorem pe_glob {x : Str} {v : V} {u : Value} {pos : Pos} (hg : Gl X x) (hm : X.mg x = some u) (r : RelV v u) (hd : (x == ("__debug__" : Str)) = false := by decide) : PE X (.Name x pos) (tC v) :=
  fun _ _ _ H _ I h => ld_glob I hg hm ⟨v, H, I, r, h⟩ hd
theorem pe_bltn {x : Str} {v : V} {u : Value} {pos : Pos} (hg : Gl X x) (hm : X.mg x = none) (hv : bootBuiltins x = some u) (r : RelV v u) (hn : x ≠ "__name__" := by decide) (hd : (x == ("__debug__" : Str)) = false := by decide) : PE X (.Name x pos) (tC v) :=
  fun _ _ _ H _ I h => ld_blt I hg hm hv ⟨v, H, I, r, h⟩ hn hd
variable {a b : Expr} {ta tb : TE} {pos : Pos}
def tB (t : TE) : TT := fun σ H Q => t σ H fun x H1 => ∃ c, x = .bl c ∧ Q c H1
theorem pt_val {e : Expr} {t : TE} (h : PE X e t) (he : ∀ whole, isTrue e X.env whole = (do let v ← whole; standAt e.pos; holding [v] (truthy v)) := by intro _; rfl) : PT X e (tB t) := by
  intro pins s σ H Q I hw
  refine isTrue_plain (thn (h pins s σ H _ I hw) fun v s1 ⟨x, H1, I1, r1, q1⟩ => ?_) (he _)
  obtain ⟨d, rfl, q⟩ := q1
  cases r1
  exact wpAny_truthy_bool ⟨H1, I1, q⟩
variable {tA tB' : TT} {rest : List Expr}
def tAnd (t u : TT) : TT := fun σ H Q => t σ H fun c H1 => if c = true then u σ H1 Q else Q false H1
def tOr (t u : TT) : TT := fun σ H Q => t σ H fun c H1 => if c = true then Q true H1 else u σ H1 Q
def tNot (t : TT) : TT := fun σ H Q => t σ H fun c H1 => Q (!c) H1
theorem pw_and1 (ha : PT X a tA) : PW X (.BoolOp .And [a] pos) tA := by
  intro wh pins s σ H Q I h
  refine isTrue_and (thn (ha pins s σ H Q I h) fun c s1 e => ?_)
  cases c with
  | true => exact isTrue_and_nil e
  | false => exact e
theorem pw_or1 (ha : PT X a tA) : PW X (.BoolOp .Or [a] pos) tA := by
  intro wh pins s σ H Q I h
  refine isTrue_or (thn (ha pins s σ H Q I h) fun c s1 e => ?_)
  cases c with
  | false => exact isTrue_or_nil e
  | true => exact e
theorem pw_and (ha : PT X a tA) (hb : PW X (.BoolOp .And (b :: rest) pos) tB') : PW X (.BoolOp .And (a :: b :: rest) pos) (tAnd tA tB') := by
  intro wh pins s σ H Q I h
  refine isTrue_and (thn (ha pins s σ H _ I h) fun c s1 ⟨H1, I1, q1⟩ => ?_)
  cases c with
  | true => exact hb wh pins s1 σ H1 Q I1 q1
  | false => exact ⟨H1, I1, q1⟩
theorem pw_or (ha : PT X a tA) (hb : PW X (.BoolOp .Or (b :: rest) pos) tB') : PW X (.BoolOp .Or (a :: b :: rest) pos) (tOr tA tB') := by
  intro wh pins s σ H Q I h
  refine isTrue_or (thn (ha pins s σ H _ I h) fun c s1 ⟨H1, I1, q1⟩ => ?_)
  cases c with
  | true => exact ⟨H1, I1, q1⟩
  | false => exact hb wh pins s1 σ H1 Q I1 q1
theorem pt_not (ha : PT X a tA) : PT X (.UnaryOp .Not a pos) (tNot tA) := by
  intro pins s σ H Q I h
  exact isTrue_not (ha pins s σ H (fun c H1 => Q (!c) H1) I h)
def tAndV (ta tb : TE) : TE := fun σ H Q => ta σ H fun x H1 => ∃ c, x = .bl c ∧ if c = true then tb σ H1 Q else Q (.bl false) H1
def tOrV (ta tb : TE) : TE := fun σ H Q => ta σ H fun x H1 => ∃ c, x = .bl c ∧ if c = true then Q (.bl true) H1 else tb σ H1 Q
def tNotV (ta : TE) : TE := fun σ H Q => ta σ H fun x H1 => ∃ c, x = .bl c ∧ Q (.bl (!c)) H1
theorem pe_one {op} {t : TE} (h : PE X a t) : PE X (.BoolOp op [a] pos) t := fun pins s σ H Q I hw => BoolOp_one (h pins s σ H Q I hw)
theorem pe_and (ha : PE X a ta) (hb : PE X (.BoolOp .And (b :: rest) pos) tb) : PE X (.BoolOp .And (a :: b :: rest) pos) (tAndV ta tb) := by
  intro pins s σ H Q I h
  refine BoolOp_and (thn (ha pins s σ H _ I h) fun v s1 ⟨x, H1, I1, r1, q1⟩ => ?_)
  obtain ⟨c, rfl, q1⟩ := q1
  cases r1
  refine wpAny_truthy_bool ?_
  cases c with
  | true => exact hb pins s1 σ H1 Q I1 q1
  | false => exact ⟨.bl false, H1, I1, rfl, q1⟩
theorem pe_or (ha : PE X a ta) (hb : PE X (.BoolOp .Or (b :: rest) pos) tb) : PE X (.BoolOp .Or (a :: b :: rest) pos) (tOrV ta tb) := by
  intro pins s σ H Q I h
  refine BoolOp_or (thn (ha pins s σ H _ I h) fun v s1 ⟨x, H1, I1, r1, q1⟩ => ?_)
  obtain ⟨c, rfl, q1⟩ := q1
  cases r1
  refine wpAny_truthy_bool ?_
  cases c with
  | false => exact hb pins s1 σ H1 Q I1 q1
  | true => exact ⟨.bl true, H1, I1, rfl, q1⟩
theorem pe_not (ha : PE X a ta) : PE X (.UnaryOp .Not a pos) (tNotV ta) := by
  intro pins s σ H Q I h
  refine UnaryOp_ (thn (ha pins s σ H _ I h) fun v s1 ⟨x, H1, I1, r1, q1⟩ => ?_)
  obtain ⟨c, rfl, q1⟩ := q1
  cases r1
  exact not_of (wpAny_truthy_bool ⟨.bl (!c), H1, I1, rfl, q1⟩)
def tIf (t : TT) (ta tb : TE) : TE := fun σ H Q => t σ H fun c H1 => if c = true then ta σ H1 Q else tb σ H1 Q
theorem pe_ifExp {c : Expr} (hc : PT X c tA) (ha : PE X a ta) (hb : PE X b tb) : PE X (.IfExp c a b pos) (tIf tA ta tb) := by
  intro pins s σ H Q I h
  refine wpAny_IfExp (thn (hc pins s σ H _ I h) fun d s1 ⟨H1, I1, q1⟩ => ?_)
  cases d with
  | true => exact ha pins s1 σ H1 Q I1 q1
  | false => exact hb pins s1 σ H1 Q I1 q1
end
end L2
namespace L2
open PySem PySem.Spec PyProof.Rows
def SqL (K : PySem.W.Frag) (H : Hp) (a : Addr) (xs : List V) : Prop :=
  Rd H a (.lst xs) ∨
    ∃ (o : Obj) (its : Array Value) (n : Nat), K.lookup a = some o ∧ o.cls = .type "list" ∧ o.dict = none ∧ o.data = .seq its n ∧ its.size ≤ sizeLine ∧ Vals xs its.toList
def SqT (K : PySem.W.Frag) (H : Hp) (a : Addr) (xs : List V) : Prop :=
  Rd H a (.tup xs) ∨
    ∃ (o : Obj) (its : Array Value) (n : Nat), K.lookup a = some o ∧ o.cls = .type "tuple" ∧ o.data = .seq its n ∧ its.size ≤ sizeLine ∧ Vals xs its.toList
def absV : Value → Option V
  | .none => some .non
  | .bool b => some (.bl b)
  | .int i _ => some (.int i)
  | .str x _ => some (.str x)
  | .bytes b _ => some (.byt b)
  | .float b _ => some (.flt b)
  | .ref a => some (.ref a)
  | .type n => some (.ty n)
  | _ => none
theorem RelV.abs {x : V} {u : Value} (r : RelV x u) : absV u = some x := by
  cases x with
  | non => cases r; rfl
  | bl _ => cases r; rfl
  | int _ => obtain ⟨t, rfl⟩ := r; rfl
  | str _ => obtain ⟨t, rfl⟩ := r; rfl
  | byt _ => obtain ⟨t, rfl⟩ := r; rfl
  | flt _ => obtain ⟨t, rfl⟩ := r; rfl
  | ref _ => cases r; rfl
  | ty _ => cases r; rfl
theorem RelV.inj {x y : V} {u : Value} (r : RelV x u) (q : RelV y u) : x = y := Option.some.inj (r.abs.symm.trans q.abs)
theorem Vals.inj : ∀ {xs ys : List V} {us : List Value}, Vals xs us → Vals ys us → xs = ys
  | _, _, _, .nil, .nil => rfl
  | _, _, _, .cons r t, .cons r' t' => by rw [r.inj r', Vals.inj t t']
section
variable {X : Cx} {pins : List (Addr × Obj)} {σ : St} {H : Hp} {s : Shared} {a : Addr} {xs ys : List V}
theorem SqL.of {K : PySem.W.Frag} (h : H a = some (.lst xs)) : SqL K H a xs := .inl (.inl h)
theorem SqT.of {K : PySem.W.Frag} (h : H a = some (.tup xs)) : SqT K H a xs := .inl (.inl h)
theorem Inv.list (I : Inv X pins σ H s) (h : SqL X.K H a xs) : ∃ its : List Value, Vals xs its ∧ PlainL s.heap a its.toArray ∧ xs.length ≤ sizeLine := by
  rcases h with h | ⟨o, its, n, hk, hc, hd, hs, hz, r⟩
  · obtain ⟨z, its, n, r, e⟩ := h.ok I.hok
    exact ⟨its, r, ⟨_, n, e, rfl, rfl, rfl⟩, z⟩
  · refine ⟨its.toList, r, ⟨o, n, I.kIn a o hk, hc, hd, by simpa using hs⟩, ?_⟩
    have e := r.length
    simp only [Array.length_toList] at e
    omega
theorem Inv.tuple (I : Inv X pins σ H s) (h : SqT X.K H a xs) : ∃ its : List Value, Vals xs its ∧ IsTup s.heap a its.toArray ∧ xs.length ≤ sizeLine := by
  rcases h with h | ⟨o, its, n, hk, hc, hs, hz, r⟩
  · obtain ⟨z, its, r, p⟩ := h.ok I.hok
    exact ⟨its, r, p, z⟩
  · refine ⟨its.toList, r, ⟨o, I.kIn a o hk, hc, n, by simpa using hs⟩, ?_⟩
    have e := r.length
    simp only [Array.length_toList] at e
    omega
theorem Inv.list_inj (I : Inv X pins σ H s) (h : SqL X.K H a xs) (h' : SqL X.K H a ys) : xs = ys := by
  obtain ⟨its, r, ⟨o, n, e, _, _, d⟩, _⟩ := I.list h
  obtain ⟨its', r', ⟨o', n', e', _, _, d'⟩, _⟩ := I.list h'
  rw [e] at e'; cases e'
  rw [d] at d'
  injection d' with d1 _
  have : its = its' := by simpa using congrArg Array.toList d1
  subst this
  exact r.inj r'
theorem Inv.tuple_inj (I : Inv X pins σ H s) (h : SqT X.K H a xs) (h' : SqT X.K H a ys) : xs = ys := by
  obtain ⟨its, r, ⟨o, e, _, n, d⟩, _⟩ := I.tuple h
  obtain ⟨its', r', ⟨o', e', _, n', d'⟩, _⟩ := I.tuple h'
  rw [e] at e'; cases e'
  rw [d] at d'
  injection d' with d1 _
  have : its = its' := by simpa using congrArg Array.toList d1
  subst this
  exact r.inj r'
end
abbrev Cx.wish (X : Cx) (E : Value → Shared → Prop) : Cx := { X with xe := E }
abbrev Cx.nox (X : Cx) : Cx := X.wish fun _ _ => False
theorem Cx.Ok.wish {X : Cx} (ok : X.Ok) (E : Value → Shared → Prop) : (X.wish E).Ok :=
  ⟨ok.mod, ok.kind, ok.glob, ok.blt, ok.above, ok.inj, ok.has, ok.cab, ok.hd, ok.frames, ok.stk, ok.exf, ok.bs, ok.bsz, ok.noex, ok.exfs, ok.funs, ok.frf⟩
theorem Cx.Ok.unwish {X : Cx} {E : Value → Shared → Prop} (ok : (X.wish E).Ok) : X.Ok :=
  ⟨ok.mod, ok.kind, ok.glob, ok.blt, ok.above, ok.inj, ok.has, ok.cab, ok.hd, ok.frames, ok.stk, ok.exf, ok.bs, ok.bsz, ok.noex, ok.exfs, ok.funs, ok.frf⟩
section
variable {X : Cx} {pins : List (Addr × Obj)} {σ : St} {H : Hp} {s : Shared} {E : Value → Shared → Prop}
theorem Inv.wish (I : Inv X pins σ H s) (E : Value → Shared → Prop) : Inv (X.wish E) pins σ H s := ⟨I.ok.wish E, I.os, I.bare, I.base, I.loc, I.cell, I.free, I.freeC, I.pin, I.hok, I.len⟩
theorem Inv.unwish (I : Inv (X.wish E) pins σ H s) : Inv X pins σ H s := ⟨I.ok.unwish, I.os, I.bare, I.base, I.loc, I.cell, I.free, I.freeC, I.pin, I.hok, I.len⟩
theorem SP.unwish {D : Ends} {f : Flow} {s' : Shared} (h : SP (X.wish E) pins D f s') : SP X pins D f s' := by
  cases f with
  | next => obtain ⟨σ', H', I, q⟩ := h; exact ⟨σ', H', I.unwish, q⟩
  | brk => obtain ⟨σ', H', I, q⟩ := h; exact ⟨σ', H', I.unwish, q⟩
  | cont => obtain ⟨σ', H', I, q⟩ := h; exact ⟨σ', H', I.unwish, q⟩
  | ret u => obtain ⟨v, σ', H', I, r, q⟩ := h; exact ⟨v, σ', H', I.unwish, r, q⟩
theorem PSs.nox {st : List Stmt} {t : TS} (h : PSs X.nox st t) : PSs X st t := fun pins s σ H D I hw =>
  wpAny_mono (h pins s σ H D (I.wish _) hw) (fun _ _ q => q.unwish) fun _ _ z => False.elim z
end
section
variable {X : Cx} {st : Stmt} {rest : List Stmt} {t u : TS} {e : Expr} {te : TE} {pos : Pos}
def tNext : TS := fun D σ H => D.nx σ H
def tSeq (t u : TS) : TS := fun D σ H => t { D with nx := u D } σ H
theorem pss_nil : PSs X [] tNext := fun _ _ σ H _ I h => wpAny_execs_nil ⟨σ, H, I, h⟩
theorem pss_cons (h1 : PS X st t) (h2 : PSs X rest u) : PSs X (st :: rest) (tSeq t u) := by
  intro pins s σ H D I h
  refine wpAny_execs_cons (thn (h1 pins s σ H { D with nx := u D } I h) fun f s1 q => ?_)
  cases f with
  | next =>
    obtain ⟨σ', H', I', q⟩ := q
    exact h2 pins s1 σ' H' D I' q
  | ret v => exact q
  | brk => exact q
  | cont => exact q
theorem pss_one (h1 : PS X st t) : PSs X [st] t := by
  intro pins s σ H D I h
  refine wpAny_execs_cons (thn (h1 pins s σ H D I h) fun f s1 q => ?_)
  cases f with
  | next => exact wpAny_execs_nil q
  | ret v => exact q
  | brk => exact q
  | cont => exact q
def tRet (te : TE) : TS := fun D σ H => te σ H D.rt
theorem ps_ret (he : PE X e te) : PS X (.Return (some e) pos) (tRet te) := by
  intro pins s σ H D I h
  exact wpAny_Return_some (thn (he pins s σ H _ I h) fun v s1 ⟨x, H1, I1, r1, q1⟩ => ⟨x, σ, H1, I1, r1, q1⟩)
def tIfS (c : TT) (t u : TS) : TS := fun D σ H => c σ H fun b H1 => if b = true then t D σ H1 else u D σ H1
theorem ps_if {c : Expr} {a b : List Stmt} {tc : TT} (hc : PT X c tc) (ha : PSs X a t) (hb : PSs X b u) : PS X (.If c a b pos) (tIfS tc t u) := by
  intro pins s σ H D I h
  refine wpAny_If (thn (hc pins s σ H _ I h) fun d s1 ⟨H1, I1, q1⟩ => ?_)
  cases d with
  | true => exact ha pins s1 σ H1 D I1 q1
  | false => exact hb pins s1 σ H1 D I1 q1
def tNever : TS := fun _ _ _ => False
theorem ps_never : PS X st tNever := fun _ _ _ _ _ _ h => h.elim
end
abbrev TG := V → St → Hp → (St → Hp → Prop) → Prop
def PG (X : Cx) (target : Expr) (t : TG) : Prop :=
  ∀ (pins : List (Addr × Obj)) (s : Shared) (σ : St) (H : Hp) (v : V) (u : Value) (Q : St → Hp → Prop), Inv X pins σ H s → RelV v u → t v σ H Q →
    wpAny (model X.prog X.w) X.A (assign target X.env u) (fun _ s' => ∃ σ' H', Inv X pins σ' H' s' ∧ Q σ' H') X.xe s
section
variable {X : Cx} {pos : Pos}
def gName (i : Nat) : TG := fun v σ H Q => Q (σ.set i (some v)) H
theorem pg_name {i : Nat} {x : Str} (hN : X.N.Nodup) (hi : X.N[i]? = some x) (hx : Loc X.env.scope x) (hf : X.fn x = true ∨ X.env.scope.names.lookup x = some .local := by first | exact .inl rfl | exact .inr rfl | assumption) : PG X (.Name x pos) (gName i) := by
  intro pins s σ H v u Q I r h
  exact wpAny_assign_Name (store_ok I hN hi hx r (fun s' I' => ⟨_, H, I', h⟩) hf)
def tAsg (te : TE) (g : TG) : TS := fun D σ H => te σ H fun x H1 => g x σ H1 D.nx
theorem ps_set {i : Nat} {x : Str} {e : Expr} {te : TE} {pos' : Pos} (hN : X.N.Nodup) (hi : X.N[i]? = some x) (hx : Loc X.env.scope x) (he : PE X e te) (hs : swapsWith e (some (.Name x pos')) pos.line X.env = pure false := by rfl) (hf : X.fn x = true ∨ X.env.scope.names.lookup x = some .local := by first | exact .inl rfl | exact .inr rfl | assumption) :
    PS X (.Assign [.Name x pos'] e pos) (tAsg te (gName i)) := by
  intro pins s σ H D I h
  refine wpAny_Assign_Name (thn (he pins s σ H _ I h) fun v s1 ⟨y, H1, I1, r1, q1⟩ => ?_) hs
  exact store_ok I1 hN hi hx r1 (fun s2 I2 => ⟨_, H1, I2, q1⟩) hf
end
section
variable {X : Cx} {pos : Pos}
end
structure It where
  go : Nat → Hp → Prop
  yld : Nat → Hp → V → Hp → Prop
  stop : Nat → Hp → Prop
def FpOk (X : Cx) (pins : List (Addr × Obj)) (H : Hp) (b : Addr) : Prop :=
  H b = none ∧ b ≠ X.env.locals ∧ b ∉ X.fs ∧ (b ∈ X.ex ∨ X.s₀.heap.objs.size ≤ b) ∧ (∀ x c, X.env.cells.lookup x = some c → c ≠ b) ∧ ∀ p ∈ X.pn ++ pins, p.1 ≠ b
theorem Inv.fpOk {X : Cx} {pins : List (Addr × Obj)} {σ : St} {H H' : Hp} {s : Shared} {b : Addr} (I : Inv X pins σ H s) (hb : s.heap.objs.size ≤ b) (hn : H' b = none) : FpOk X pins H' b := by
  refine ⟨hn, Nat.ne_of_gt (Nat.lt_of_lt_of_le I.lt hb), I.nofs hb, .inr (Nat.le_trans I.sz hb), fun x c e z => ?_, fun p hp z => ?_⟩
  · obtain ⟨v, q⟩ := I.cell x c e
    exact absurd (Nat.lt_of_lt_of_le q.lt (by rw [z]; exact hb)) (Nat.lt_irrefl _)
  · exact absurd (Nat.lt_of_lt_of_le (Heap.lt_size (I.pin p hp).1) (by rw [z]; exact hb)) (Nat.lt_irrefl _)
structure Turn (P : Program) (w : World) (K : PySem.W.Frag) (tg : Expr) (J : It) (fp : List Addr) (it : Addr) (tn : Nat → Heap → Prop) : Prop where
  mem : it ∈ fp
  obj : ∀ i h, tn i h → ∀ b ∈ fp, ∃ o, h.get? b = some o ∧ ∀ v, o.data ≠ .cell v
  keep : ∀ i h h', tn i h → (∀ b ∈ fp, ∀ o, h.get? b = some o → h'.get? b = some o) → tn i h'
  item : ∀ (X : Cx), X.prog = P → X.w = w → X.K = K → X.calm = true → ∀ (i : Nat) (pins : List (Addr × Obj)) (s : Shared) (σ : St) (H : Hp) (E : Value → Shared → Prop), Inv X pins σ H s → (∀ b ∈ fp, FpOk X pins H b) → tn i s.heap → J.go i H →
    wpAny (model P w) X.A (pyNext (.ref it)) (fun r s1 => ∃ u, r = some u ∧
      wpAny (model P w) X.A (letOwnedTupleGo tg (.ref it) u) (fun _ s2 => ∃ x H', Inv X pins σ H' s2 ∧ RelV x u ∧ J.yld i H x H' ∧ tn (i + 1) s2.heap ∧ ∀ b ∈ fp, H' b = none) E s1) E s
  done : ∀ (X : Cx), X.prog = P → X.w = w → X.K = K → X.calm = true → ∀ (i : Nat) (pins : List (Addr × Obj)) (s : Shared) (σ : St) (H : Hp) (E : Value → Shared → Prop), Inv X pins σ H s → (∀ b ∈ fp, FpOk X pins H b) → tn i s.heap → J.stop i H →
    wpAny (model P w) X.A (pyNext (.ref it)) (fun r s1 => r = none ∧ Inv X pins σ H s1) E s
  self : ∀ (A : Around) (i : Nat) (s : Shared) (Q : Value → Shared → Prop) (E : Value → Shared → Prop), tn i s.heap → Q (.ref it) s → wpAny (model P w) A (pyIter (.ref it)) Q E s
abbrev TI := St → Hp → (It → Hp → Prop) → Prop
def PIE (X : Cx) (pins : List (Addr × Obj)) (σ : St) (tg : Expr) (R : It → Hp → Prop) (itv : Value) (s2 : Shared) : Prop :=
  ∃ (it : Addr) (fp : List Addr) (tn : Nat → Heap → Prop) (J : It) (H' : Hp), itv = .ref it ∧ Inv X pins σ H' s2 ∧ Turn X.prog X.w X.K tg J fp it tn ∧ tn 0 s2.heap ∧ (∀ b ∈ fp, FpOk X pins H' b) ∧ R J H'
def PI (X : Cx) (tg iter : Expr) (wi : TI) : Prop :=
  ∀ (pins : List (Addr × Obj)) (s : Shared) (σ : St) (H : Hp) (R : It → Hp → Prop), Inv X pins σ H s → wi σ H R →
    wpAny (model X.prog X.w) X.A (eval iter X.env) (fun v s1 => wpAny (model X.prog X.w) X.A (pyIter v) (PIE X pins σ tg R) X.xe s1) X.xe s
theorem go_of {M : Model} {A : Around} {E : Value → Shared → Prop} {s : Shared} {tg : Expr} {it : Addr} {u : Value} {o : Obj} {n : String} {vs : Array Value} {Q : Unit → Shared → Prop} (ho : s.heap.get? it = some o) (hc : o.cls = .type n) (hd : o.data = .fields vs)
    (hn : ["enumerate", "zip", "dict_itemiterator", "dict_reverseitemiterator", "odict_iterator", "itertools.zip_longest", "itertools.pairwise"].contains n = false) (hQ : Q () s) : wpAny M A (letOwnedTupleGo tg (.ref it) u) Q E s := by
  unfold letOwnedTupleGo
  cases tg <;> first
    | exact wpAny_pure hQ
    | (cases u <;> first
        | exact wpAny_pure hQ
        | (refine wpAny_bind (wpAny_load ho ?_)
           rw [hc, hd]
           show wpAny M A (if (["enumerate", "zip", "dict_itemiterator", "dict_reverseitemiterator", "odict_iterator", "itertools.zip_longest", "itertools.pairwise"].contains n && vs[0]? == some (rawInt _)) = true then _ else _) Q E s
           rw [if_neg (by intro h; rw [hn, Bool.false_and] at h; cases h)]
           exact wpAny_pure hQ))
def Itl (K : PySem.W.Frag) (a : Addr) : It :=
  ⟨fun i H => ∃ xs x, SqL K H a xs ∧ xs[i]? = some x, fun i H x H' => H' = H ∧ ∀ xs, SqL K H a xs → xs[i]? = some x, fun i H => ∃ xs, SqL K H a xs ∧ xs.length ≤ i⟩
def Itt (K : PySem.W.Frag) (a : Addr) : It :=
  ⟨fun i H => ∃ xs x, SqT K H a xs ∧ xs[i]? = some x, fun i H x H' => H' = H ∧ ∀ xs, SqT K H a xs → xs[i]? = some x, fun i H => ∃ xs, SqT K H a xs ∧ xs.length ≤ i⟩
def Itr (lo : Int) (n : Nat) : It := ⟨fun i _ => i < n, fun i H x H' => H' = H ∧ x = .int (lo + i), fun i _ => n ≤ i⟩
theorem turn_list {P : Program} {w : World} {K : PySem.W.Frag} {tg : Expr} (a it : Addr) : Turn P w K tg (Itl K a) [it] it (fun i h => h.IsListIter it a i) where
  mem := by simp
  obj := fun i h st b hb => by
    have e : b = it := by simpa using hb
    subst e
    obtain ⟨o, e, c, d⟩ := st
    exact ⟨o, e, fun v z => by rw [d] at z; cases z⟩
  keep := fun i h h' st k => st.at fun o e => k it (by simp) o e
  item := by
    intro X hP hw hK hc i pins s σ H E I hf st hg
    subst hP hw hK
    obtain ⟨xs, x, hq, hx⟩ := hg
    obtain ⟨its, rv, p, hz⟩ := I.list hq
    obtain ⟨u, hu, ru⟩ := rv.get hx
    obtain ⟨f0, f1, f2, f3, f4, f5⟩ := hf it (by simp)
    refine wpAny_pyNext_list_item st p.isList (x := u) (by simpa using hu) fun h' st' sb => ?_
    have I1 : Inv X pins σ H { s with heap := h' } := I.turned (t' := s.toks) (fun b o hb e => (sb.2 b hb).trans e) f0 f1 f3 f4 f5
    obtain ⟨o, e, c, d⟩ := id st'
    exact ⟨u, rfl, go_of (s := { s with heap := h' }) e c d (by decide) ⟨x, H, I1, ru, ⟨rfl, fun ys hy => by rw [I.list_inj hy hq]; exact hx⟩, st', fun b hb => (hf b hb).1⟩⟩
  done := by
    intro X hP hw hK hc i pins s σ H E I hf st hg
    subst hP hw hK
    obtain ⟨xs, hq, hx⟩ := hg
    obtain ⟨its, rv, p, hz⟩ := I.list hq
    obtain ⟨f0, f1, f2, f3, f4, f5⟩ := hf it (by simp)
    have hl := rv.length
    exact wpAny_pyNext_list_end (I.ok.hd hc) st p.isList (by simp; omega) fun h' eb => ⟨rfl, I.turned (t' := s.toks) (fun b o hb e => eb b o hb e) f0 f1 f3 f4 f5⟩
  self := fun _ _ _ _ _ st h => wpAny_pyIter_listiter st h
theorem turn_tuple {P : Program} {w : World} {K : PySem.W.Frag} {tg : Expr} (a it : Addr) : Turn P w K tg (Itt K a) [it] it (fun i h => h.IsTupleIter it a i) where
  mem := by simp
  obj := fun i h st b hb => by
    have e : b = it := by simpa using hb
    subst e
    obtain ⟨o, e, c, d⟩ := st
    exact ⟨o, e, fun v z => by rw [d] at z; cases z⟩
  keep := fun i h h' st k => st.at fun o e => k it (by simp) o e
  item := by
    intro X hP hw hK hc i pins s σ H E I hf st hg
    subst hP hw hK
    obtain ⟨xs, x, hq, hx⟩ := hg
    obtain ⟨its, rv, p, hz⟩ := I.tuple hq
    obtain ⟨u, hu, ru⟩ := rv.get hx
    obtain ⟨f0, f1, f2, f3, f4, f5⟩ := hf it (by simp)
    refine wpAny_pyNext_tuple_item st (show s.heap.IsTuple a its.toArray from p) (x := u) (by simpa using hu) fun h' st' sb => ?_
    have I1 : Inv X pins σ H { s with heap := h' } := I.turned (t' := s.toks) (fun b o hb e => (sb.2 b hb).trans e) f0 f1 f3 f4 f5
    obtain ⟨o, e, c, d⟩ := id st'
    exact ⟨u, rfl, go_of (s := { s with heap := h' }) e c d (by decide) ⟨x, H, I1, ru, ⟨rfl, fun ys hy => by rw [I.tuple_inj hy hq]; exact hx⟩, st', fun b hb => (hf b hb).1⟩⟩
  done := by
    intro X hP hw hK hc i pins s σ H E I hf st hg
    subst hP hw hK
    obtain ⟨xs, hq, hx⟩ := hg
    obtain ⟨its, rv, p, hz⟩ := I.tuple hq
    obtain ⟨f0, f1, f2, f3, f4, f5⟩ := hf it (by simp)
    have hl := rv.length
    exact wpAny_pyNext_tuple_end (I.ok.hd hc) st (show s.heap.IsTuple a its.toArray from p) (by simp; omega) fun h' eb => ⟨rfl, I.turned (t' := s.toks) (fun b o hb e => eb b o hb e) f0 f1 f3 f4 f5⟩
  self := fun _ _ _ _ _ st h => wpAny_pyIter_tupleiter st h
theorem turn_range {P : Program} {w : World} {K : PySem.W.Frag} {tg : Expr} (it : Addr) (lo : Int) (n : Nat) : Turn P w K tg (Itr lo n) [it] it (fun i h => IsRangeIter h it (lo + (i : Nat) * 1) ((n : Int) - (i : Nat)) 1) where
  mem := by simp
  obj := fun i h st b hb => by
    have e : b = it := by simpa using hb
    subst e
    exact ⟨_, st, fun v z => by
      have z' : Data.fields _ = Data.cell v := z
      cases z'⟩
  keep := fun i h h' st k => k it (by simp) _ st
  item := by
    intro X hP hw hK hc i pins s σ H E I hf st hg
    subst hP hw hK
    obtain ⟨f0, f1, f2, f3, f4, f5⟩ := hf it (by simp)
    have W := Walks.range (prog := X.prog) (w := X.w) (I.ok.hd hc) it lo 1 n
    refine W.item i s _ _ hg st fun v h' tk hv st' kk => ?_
    obtain ⟨t, rfl⟩ := hv
    have I1 : Inv X pins σ H { s with heap := h', toks := tk } := I.turned (fun b o hb e => kk b o (by simpa using hb) e) f0 f1 f3 f4 f5
    refine ⟨_, rfl, go_of (s := { s with heap := h', toks := tk }) (n := "range_iterator") st' rfl rfl (by decide) ⟨.int (lo + i), H, I1, ⟨t, ?_⟩, ⟨rfl, rfl⟩, st', fun b hb => (hf b hb).1⟩⟩
    rw [Int.mul_one]
  done := by
    intro X hP hw hK hc i pins s σ H E I hf st hg
    subst hP hw hK
    obtain ⟨f0, f1, f2, f3, f4, f5⟩ := hf it (by simp)
    exact wpAny_pyNext_range_end (I.ok.hd hc) st (by have : n ≤ i := hg; omega) fun h' eb => ⟨rfl, I.turned (t' := s.toks) (fun b o hb e => eb b o hb e) f0 f1 f3 f4 f5⟩
  self := fun _ _ _ _ _ st h => wpAny_pyIter_rangeiter st h
end L2
namespace L2
open PySem PySem.Spec PyProof.Rows
section
variable {X : Cx} {tg : Expr}
def iList (K : PySem.W.Frag) (tl : TE) : TI := fun σ H R => tl σ H fun x H1 => ∃ a, x = .ref a ∧ (∃ xs, SqL K H1 a xs) ∧ R (Itl K a) H1
def iTup (K : PySem.W.Frag) (tl : TE) : TI := fun σ H R => tl σ H fun x H1 => ∃ a, x = .ref a ∧ (∃ xs, SqT K H1 a xs) ∧ R (Itt K a) H1
theorem pi_list {l : Expr} {tl : TE} (hl : PE X l tl) : PI X tg l (iList X.K tl) := by
  intro pins s σ H R I h
  refine thn (hl pins s σ H _ I h) fun v s1 ⟨x, H1, I1, r1, q1⟩ => ?_
  obtain ⟨a, e, ⟨xs, hq⟩, q⟩ := q1
  subst e
  cases r1
  obtain ⟨its, rv, p, hz⟩ := I1.list hq
  refine wpAny_pyIter_list p.isList ?_
  refine ⟨s1.heap.objs.size, [s1.heap.objs.size], _, _, H1, rfl, I1.kept (t' := s1.toks) fun b o e => Heap.get?_push_of_some _ e, turn_list a _, ⟨_, Heap.get?_push_size _ rfl, rfl, rfl⟩, fun b hb => ?_, q⟩
  have e : b = s1.heap.objs.size := by simpa using hb
  subst e
  exact I1.fpOk (Nat.le_refl _) (I1.hok.fresh (Nat.le_refl _))
theorem pi_tup {l : Expr} {tl : TE} (hl : PE X l tl) : PI X tg l (iTup X.K tl) := by
  intro pins s σ H R I h
  refine thn (hl pins s σ H _ I h) fun v s1 ⟨x, H1, I1, r1, q1⟩ => ?_
  obtain ⟨a, e, ⟨xs, hq⟩, q⟩ := q1
  subst e
  cases r1
  obtain ⟨its, rv, p, hz⟩ := I1.tuple hq
  refine wpAny_pyIter_tuple (show s1.heap.IsTuple a its.toArray from p) ?_
  refine ⟨s1.heap.objs.size, [s1.heap.objs.size], _, _, H1, rfl, I1.kept (t' := s1.toks) fun b o e => Heap.get?_push_of_some _ e, turn_tuple a _, ⟨_, Heap.get?_push_size _ rfl, rfl, rfl⟩, fun b hb => ?_, q⟩
  have e : b = s1.heap.objs.size := by simpa using hb
  subst e
  exact I1.fpOk (Nat.le_refl _) (I1.hok.fresh (Nat.le_refl _))
theorem range_it {pins : List (Addr × Obj)} {σ : St} {H : Hp} {s : Shared} {R : It → Hp → Prop} {E : Value → Shared → Prop} {lo hi : Int} {t u v : Tok} {tk : Nat} (I : Inv X pins σ H s) (h1 : -(2 ^ 62) ≤ lo) (h2 : lo < 2 ^ 62) (h3 : -(2 ^ 62) ≤ hi) (h4 : hi < 2 ^ 62)
    (q : R (Itr lo (hi - lo).toNat) H) : wpAny (model X.prog X.w) X.A (pyIter (.ref s.heap.objs.size)) (PIE X pins σ tg R) E { s with heap := s.heap.push { cls := .type "range", data := .fields #[.int lo t, .int hi u, .int 1 v] }, toks := tk } := by
  refine wpAny_pyIter_range (IsRange.new ..) (small_one h1 h2 h3 h4) ?_
  have I1 : Inv X pins σ H { s with heap := s.heap.push { cls := .type "range", data := .fields #[.int lo t, .int hi u, .int 1 v] }, toks := tk } := I.kept fun b o e => Heap.get?_push_of_some _ e
  refine ⟨(s.heap.push { cls := .type "range", data := .fields #[.int lo t, .int hi u, .int 1 v] }).objs.size, [(s.heap.push { cls := .type "range", data := .fields #[.int lo t, .int hi u, .int 1 v] }).objs.size], _, _, H, rfl,
    I1.kept (t' := tk) fun b o e => Heap.get?_push_of_some _ e, turn_range _ lo (hi - lo).toNat, ?_, fun b hb => ?_, q⟩
  · have e1 : lo + ((0 : Nat) : Int) * 1 = lo := by simp
    have e2 : (((hi - lo).toNat : Nat) : Int) - ((0 : Nat) : Int) = Builtin.Range.rangeSize lo hi 1 := by rw [rangeSize_one]; split <;> omega
    show IsRangeIter _ _ (lo + ((0 : Nat) : Int) * 1) ((((hi - lo).toNat : Nat) : Int) - ((0 : Nat) : Int)) 1
    rw [e1, e2]
    exact Heap.get?_push_size _ rfl
  · have e : b = (s.heap.push { cls := .type "range", data := .fields #[.int lo t, .int hi u, .int 1 v] }).objs.size := by simpa using hb
    subst e
    exact I1.fpOk (Nat.le_refl _) (I1.hok.fresh (Nat.le_refl _))
def iRng1 (ta : TA) : TI := fun σ H R => ta σ H fun vs H1 => ∃ j : Int, vs = [.int j] ∧ -(2 ^ 62) ≤ j ∧ j < 2 ^ 62 ∧ R (Itr 0 j.toNat) H1
theorem pi_range1 {a : Expr} {ta : TA} {p pos : Pos} (hg : Gl X "range") (hm : X.mg "range" = none) (ha : PA X [a] ta) (hs : starEach [a] X.env = [(false, eval a X.env)] := by rfl) : PI X tg (.Call (.Name "range" p) [a] [] pos) (iRng1 ta) := by
  intro pins s σ H R I h
  refine Call_ (ld_blt I hg hm boot_range (PyProof.Rows.callWith_type1 (thn (ha pos pins s σ H _ I h) fun us s1 ⟨vs, H1, I1, r1, q1⟩ => ?_) hs rfl))
  obtain ⟨j, e, q1, q2, q⟩ := q1
  subst e
  cases r1 with
  | cons r rr =>
    cases rr
    obtain ⟨t, rfl⟩ := r
    exact call_range_1 (range_it I1 (by omega) (by omega) q1 q2 (by simpa using q))
def tFor (wi : TI) (g : TG) (tb : TS) : TS := fun D σ H => wi σ H fun J H1 => ∃ W : Nat → Nat → St → Hp → Prop, (∃ m, W 0 m σ H1) ∧ ∀ i m σ H, W i m σ H →
  (J.stop i H ∧ D.nx σ H) ∨ (J.go i H ∧ ∃ N : St → Hp → Prop, (∀ σ' H', N σ' H' → ∃ m', m' < m ∧ W (i + 1) m' σ' H') ∧ ∀ x H', J.yld i H x H' → g x σ H' fun σ2 H2 => tb { D with nx := N, ct := N, bk := D.nx } σ2 H2)
def pinsAt (fp : List Addr) (h : Heap) : List (Addr × Obj) := fp.filterMap fun b => (h.get? b).map fun o => (b, o)
theorem mem_pinsAt {fp : List Addr} {h : Heap} {b : Addr} {o : Obj} (hb : b ∈ fp) (e : h.get? b = some o) : (b, o) ∈ pinsAt fp h := List.mem_filterMap.mpr ⟨b, hb, by rw [e]; rfl⟩
theorem of_pinsAt {fp : List Addr} {h : Heap} {p : Addr × Obj} (hp : p ∈ pinsAt fp h) : p.1 ∈ fp ∧ h.get? p.1 = some p.2 := by
  obtain ⟨b, hb, e⟩ := List.mem_filterMap.mp hp
  cases q : h.get? b with
  | none => rw [q] at e; cases e
  | some o =>
    rw [q] at e
    have e' : (b, o) = p := Option.some.inj e
    subst e'
    exact ⟨hb, q⟩
theorem Inv.pinned {pins : List (Addr × Obj)} {σ : St} {H : Hp} {s : Shared} {fp : List Addr} (I : Inv X pins σ H s) (hf : ∀ b ∈ fp, FpOk X pins H b) (ho : ∀ b ∈ fp, ∃ o, s.heap.get? b = some o ∧ ∀ v, o.data ≠ .cell v) : Inv X (pins ++ pinsAt fp s.heap) σ H s :=
  I.pins_of fun p hp => (List.mem_append.mp hp).elim (fun z => I.pin p (List.mem_append_right _ z)) fun z => by
    obtain ⟨hb, e⟩ := of_pinsAt z
    obtain ⟨f0, f1, f2, _⟩ := hf p.1 hb
    obtain ⟨o, e', d⟩ := ho p.1 hb
    rw [e] at e'; cases e'
    exact ⟨e, f0, f1, f2, d⟩
theorem Inv.unpinned {pins pl : List (Addr × Obj)} {σ : St} {H : Hp} {s : Shared} (I : Inv X (pins ++ pl) σ H s) : Inv X pins σ H s := I.pins_of fun p hp => I.pin p (List.mem_append_right _ (List.mem_append_left _ hp))
theorem ps_for {iter : Expr} {body : List Stmt} {wi : TI} {g : TG} {tb : TS} {pos : Pos} (hp : PassesOwn (model X.prog X.w) X.A X.env X.xe) (hc : X.calm = true) (hi : PI X tg iter wi) (hg : PG X tg g) (hb : PSs X body tb)
    (hs : ∀ x, foldedSetIterable iter X.env x = pure x := by intro _; rfl) : PS X (.For tg iter body [] pos) (tFor wi g tb) := by
  intro pins s σ H D I h
  refine wpAny_For (thn (hi pins s σ H _ I h) fun v s1 h1 => thn h1 fun itv s2 h2 => ?_) hs
  obtain ⟨it, fp, tn, J, H2, e, I2, T, st2, f2, W, ⟨m0, w0⟩, turn⟩ := h2
  subst e
  have stat : ∀ {H' : Hp}, (∀ b ∈ fp, H' b = none) → ∀ b ∈ fp, FpOk X pins H' b := fun hn b hb => ⟨hn b hb, (f2 b hb).2⟩
  refine codeAny_forLoop_any (fun n s' => ∃ i σ' H', Inv X pins σ' H' s' ∧ tn i s'.heap ∧ (∀ b ∈ fp, H' b = none) ∧ W i n σ' H') ?_ m0 ⟨0, σ, H2, I2, st2, fun b hb => (f2 b hb).1, w0⟩
  rintro n s3 ⟨i, σ3, H3, I3, st3, fr3, w3⟩
  rcases turn i n σ3 H3 w3 with ⟨stop, qn⟩ | ⟨go, N, hN, step⟩
  · refine wpAny_passesOwn hp (thn (T.done X rfl rfl rfl hc i pins s3 σ3 H3 X.xe I3 (stat fr3) st3 stop) fun r s4 ⟨hr, I4⟩ => ?_)
    subst hr
    exact wpAny_execs_nil ⟨σ3, H3, I4, qn⟩
  · refine wpAny_passesOwn hp (thn (T.item X rfl rfl rfl hc i pins s3 σ3 H3 X.xe I3 (stat fr3) st3 go) fun r s4 ⟨u, hr, h4⟩ => ?_)
    subst hr
    refine wpAny_passesOwn hp (thn h4 fun _ s5 ⟨x, H5, I5, r5, y5, st5, fr5⟩ => ?_)
    have I5' := I5.pinned (stat fr5) (T.obj _ _ st5)
    refine wpAny_passesOwn hp (thn (hg _ s5 σ3 H5 x u _ I5' r5 (step x H5 y5)) fun _ s6 ⟨σ6, H6, I6, q6⟩ => ?_)
    refine wpAny_passesOwn hp (thn (hb _ s6 σ6 H6 _ I6 q6) fun f s7 q7 => ?_)
    have again : ∀ {σ7 : St} {H7 : Hp}, Inv X (pins ++ pinsAt fp s5.heap) σ7 H7 s7 → N σ7 H7 → ∃ m, m < n ∧ ∃ i σ' H', Inv X pins σ' H' s7 ∧ tn i s7.heap ∧ (∀ b ∈ fp, H' b = none) ∧ W i m σ' H' := fun {σ7 H7} I7 n7 => by
      obtain ⟨m', hm, w7⟩ := hN σ7 H7 n7
      refine ⟨m', hm, i + 1, σ7, H7, I7.unpinned, T.keep _ _ _ st5 fun b hb o e => (I7.pin (b, o) (List.mem_append_right _ (List.mem_append_right _ (mem_pinsAt hb e)))).1, fun b hb => ?_, w7⟩
      obtain ⟨o, e, d⟩ := T.obj _ _ st5 b hb
      exact (I7.pin (b, o) (List.mem_append_right _ (List.mem_append_right _ (mem_pinsAt hb e)))).2.1
    cases f with
    | next => obtain ⟨σ7, H7, I7, n7⟩ := q7; exact again I7 n7
    | cont => obtain ⟨σ7, H7, I7, n7⟩ := q7; exact again I7 n7
    | brk => obtain ⟨σ7, H7, I7, q7⟩ := q7; exact ⟨σ7, H7, I7.unpinned, q7⟩
    | ret v => obtain ⟨x7, σ7, H7, I7, r7, q7⟩ := q7; exact ⟨x7, σ7, H7, I7.unpinned, r7, q7⟩
end
end L2
namespace L2
open PySem PySem.Spec PyProof.Rows
abbrev R2 := V → V → Hp → VK → Prop
def OpR (X : Cx) (f : Value → Value → Sem Value) (r : R2) : Prop :=
  ∀ (pins : List (Addr × Obj)) (s : Shared) (σ : St) (H : Hp) (x y : V) (v u : Value) (Q : VK), Inv X pins σ H s → RelV x v → RelV y u → r x y H Q →
    wpAny (model X.prog X.w) X.A (f v u) (EP X pins σ Q) X.xe s
def CallR (X : Cx) (f : Value) (r : List V → Hp → VK → Prop) : Prop :=
  ∀ (pins : List (Addr × Obj)) (s : Shared) (σ : St) (H : Hp) (xs : List V) (us : List Value) (Q : VK), Inv X pins σ H s → Vals xs us → r xs H Q →
    wpAny (model X.prog X.w) X.A (call f us) (EP X pins σ Q) X.xe s
def tOp (r : R2) (ta tb : TE) : TE := fun σ H Q => ta σ H fun x H1 => tb σ H1 fun y H2 => r x y H2 Q
def rI (C : Int → Int → Prop) (g : Int → Int → V) : R2 := fun x y H Q => ∃ i j, x = .int i ∧ y = .int j ∧ C i j ∧ Q (g i j) H
def rI0 (g : Int → Int → V) : R2 := fun x y H Q => ∃ i j, x = .int i ∧ y = .int j ∧ Q (g i j) H
section
variable {X : Cx} {a b c : Expr} {ta tb tc : TE} {pos : Pos}
theorem binT (ha : PE X a ta) (hb : PE X b tb) {pins : List (Addr × Obj)} {s : Shared} {σ : St} {H : Hp} {R : V → V → Hp → Prop} (I : Inv X pins σ H s)
    (h : ta σ H fun x H1 => tb σ H1 fun y H2 => R x y H2) {Q : Value → Shared → Prop} {f : Value → Value → Sem Value}
    (hf : ∀ v u s2 x y H2, Inv X pins σ H2 s2 → RelV x v → RelV y u → R x y H2 → wpAny (model X.prog X.w) X.A (f v u) Q X.xe s2) :
    wpAny (model X.prog X.w) X.A (eval a X.env) (fun v s₁ => wpAny (model X.prog X.w) X.A (eval b X.env) (fun u s₂ => wpAny (model X.prog X.w) X.A (f v u) Q X.xe s₂) X.xe s₁) X.xe s := by
  refine thn (ha pins s σ H _ I h) fun v s1 ⟨x, H1, I1, r1, q1⟩ => ?_
  refine thn (hb pins s1 σ H1 _ I1 q1) fun u s2 ⟨y, H2, I2, r2, q2⟩ => ?_
  exact hf v u s2 x y H2 I2 r1 r2 q2
theorem pe_op {op : Operator} {r : R2} (ho : OpR X (binaryOp op) r) (ha : PE X a ta) (hb : PE X b tb) : PE X (.BinOp a op b pos) (tOp r ta tb) := by
  intro pins s σ H Q I h
  exact wpAny_BinOp (binT ha hb I h fun v u s2 x y H2 I2 rx ry q => ho pins s2 σ H2 x y v u Q I2 rx ry q)
theorem opI {f : Value → Value → Sem Value} {C : Int → Int → Prop} {g : Int → Int → Int}
    (rule : ∀ (i j : Int) (t u : Tok) (s : Shared) (Q : Value → Shared → Prop) (E : Value → Shared → Prop), C i j → Q (.int (g i j) s.toks) { s with toks := s.toks + 1 } → wpAny (model X.prog X.w) X.A (f (.int i t) (.int j u)) Q E s) :
    OpR X f (rI C fun i j => .int (g i j)) := by
  intro pins s σ H x y v u Q I rx ry h
  obtain ⟨i, j, rfl, rfl, hc, q⟩ := h
  obtain ⟨t, rfl⟩ := rx
  obtain ⟨t', rfl⟩ := ry
  exact rule i j t t' s _ _ hc ⟨.int (g i j), H, I.tok _, ⟨_, rfl⟩, q⟩
theorem opI0 {f : Value → Value → Sem Value} {g : Int → Int → Int}
    (rule : ∀ (i j : Int) (t u : Tok) (s : Shared) (Q : Value → Shared → Prop) (E : Value → Shared → Prop), Q (.int (g i j) s.toks) { s with toks := s.toks + 1 } → wpAny (model X.prog X.w) X.A (f (.int i t) (.int j u)) Q E s) :
    OpR X f (rI0 fun i j => .int (g i j)) := by
  intro pins s σ H x y v u Q I rx ry h
  obtain ⟨i, j, rfl, rfl, q⟩ := h
  obtain ⟨t, rfl⟩ := rx
  obtain ⟨t', rfl⟩ := ry
  exact rule i j t t' s _ _ ⟨.int (g i j), H, I.tok _, ⟨_, rfl⟩, q⟩
theorem opB0 {f : Value → Value → Sem Value} {g : Int → Int → Bool}
    (rule : ∀ (i j : Int) (t u : Tok) (s : Shared) (Q : Value → Shared → Prop) (E : Value → Shared → Prop), Q (.bool (g i j)) s → wpAny (model X.prog X.w) X.A (f (.int i t) (.int j u)) Q E s) :
    OpR X f (rI0 fun i j => .bl (g i j)) := by
  intro pins s σ H x y v u Q I rx ry h
  obtain ⟨i, j, rfl, rfl, q⟩ := h
  obtain ⟨t, rfl⟩ := rx
  obtain ⟨t', rfl⟩ := ry
  exact rule i j t t' s _ _ ⟨.bl (g i j), H, I, rfl, q⟩
def CDiv (i j : Int) : Prop := 0 < j ∧ j < 1073741824
def CMul (i j : Int) : Prop := (-(2 ^ 64) < i ∧ i < 2 ^ 64) ∨ (-(2 ^ 64) < j ∧ j < 2 ^ 64)
theorem CMul.ok {i j : Int} (h : CMul i j) : IntMulOk i j := by
  rcases h with ⟨h1, h2⟩ | ⟨h1, h2⟩
  · exact .of_left (intBits_le_64 h1 h2)
  · exact .of_right (intBits_le_64 h1 h2)
theorem op_add : OpR X (binaryOp .Add) (rI0 fun i j => .int (i + j)) := opI0 fun _ _ _ _ _ _ _ q => add_int q
theorem op_sub : OpR X (binaryOp .Sub) (rI0 fun i j => .int (i - j)) := opI0 fun _ _ _ _ _ _ _ q => sub_int q
theorem op_mul : OpR X (binaryOp .Mult) (rI CMul fun i j => .int (i * j)) := opI fun _ _ _ _ _ _ _ hc q => mul_int q hc.ok
theorem op_fdiv : OpR X (binaryOp .FloorDiv) (rI CDiv fun i j => .int (i / j)) := opI fun i j _ _ _ _ _ hc q => by
  have h1 : (0 : Int) < j := hc.1
  have h2 : j < 1073741824 := hc.2
  exact floordiv_int (by omega) (by rw [Int.fdiv_eq_ediv_of_nonneg i (by omega)]; exact q) (.inl (PyProof.noPylong_small (by omega)))
theorem op_mod : OpR X (binaryOp .Mod) (rI (fun _ j => 0 < j) fun i j => .int (i % j)) := opI fun i j _ _ _ _ _ hc q => by
  have h1 : (0 : Int) < j := hc
  exact mod_int' (by omega) (by rw [Int.fmod_eq_emod_of_nonneg i (by omega)]; exact q)
end
def scal : V → V → Bool
  | .non, .non => true | .non, .int _ => true | .int _, .non => true | .non, .bl _ => true | .bl _, .non => true | .non, .str _ => true | .str _, .non => true
  | .int _, .int _ => true | .bl _, .bl _ => true | .str _, .str _ => true | .byt _, .byt _ => true
  | .int _, .str _ => true | .str _, .int _ => true | .bl _, .str _ => true | .str _, .bl _ => true
  | _, _ => false
def rEq : R2 := fun x y H Q => scal x y = true ∧ Q (.bl (decide (x = y))) H
def rNe : R2 := fun x y H Q => scal x y = true ∧ Q (.bl (!decide (x = y))) H
theorem dec_int {i j : Int} : decide (V.int i = V.int j) = (i == j) := by
  rw [Bool.eq_iff_iff]
  simp
theorem dec_bl {i j : Bool} : decide (V.bl i = V.bl j) = (i == j) := by
  rw [Bool.eq_iff_iff]
  simp
theorem dec_str {i j : Str} : decide (V.str i = V.str j) = (i == j) := by
  rw [Bool.eq_iff_iff]
  simp
theorem dec_byt {i j : Array UInt8} : decide (V.byt i = V.byt j) = (i.toList == j.toList) := by
  rw [Bool.eq_iff_iff]
  cases i
  cases j
  simp
section
variable {X : Cx} {a b c : Expr} {ta tb tc : TE} {pos : Pos}
theorem fin_bl {pins : List (Addr × Obj)} {σ : St} {H : Hp} {s : Shared} {Q : VK} {k k' : Bool} (I : Inv X pins σ H s) (q : Q (.bl k) H) (e : k = k') : EP X pins σ Q (.bool k') s := by
  subst e
  exact ⟨.bl k, H, I, rfl, q⟩
theorem op_eq : OpR X (compareOp .Eq) rEq := by
  intro pins s σ H x y v u Q I rx ry h
  obtain ⟨hs, q⟩ := h
  cases x with
  | non =>
    cases rx
    cases y with
    | non => cases ry; exact PySem.EqNone.eq_none_none (fin_bl I q (by simp))
    | bl j => cases ry; exact PySem.EqNone.eq_none_bool (fin_bl I q (by simp))
    | int j => obtain ⟨t', rfl⟩ := ry; exact PySem.EqNone.eq_none_int (fin_bl I q (by simp))
    | str j => obtain ⟨t', rfl⟩ := ry; exact PySem.EqNone.eq_none_str (fin_bl I q (by simp))
    | _ => exact absurd (show false = true from hs) Bool.false_ne_true
  | bl i =>
    cases rx
    cases y with
    | non => cases ry; exact PySem.EqNone.eq_bool_none (fin_bl I q (by simp))
    | bl j => cases ry; exact eq_bool (fin_bl I q dec_bl)
    | str j => obtain ⟨t', rfl⟩ := ry; exact PySem.EqMixed.eq_bool_str (fin_bl I q (by simp))
    | _ => exact absurd (show false = true from hs) Bool.false_ne_true
  | int i =>
    obtain ⟨t, rfl⟩ := rx
    cases y with
    | non => cases ry; exact PySem.EqNone.eq_int_none (fin_bl I q (by simp))
    | int j => obtain ⟨t', rfl⟩ := ry; exact eq_int (fin_bl I q dec_int)
    | str j => obtain ⟨t', rfl⟩ := ry; exact PySem.EqMixed.eq_int_str (fin_bl I q (by simp))
    | _ => exact absurd (show false = true from hs) Bool.false_ne_true
  | str i =>
    obtain ⟨t, rfl⟩ := rx
    cases y with
    | non => cases ry; exact PySem.EqNone.eq_str_none (fin_bl I q (by simp))
    | bl j => cases ry; exact PySem.EqMixed.eq_str_bool (fin_bl I q (by simp))
    | int j => obtain ⟨t', rfl⟩ := ry; exact PySem.EqMixed.eq_str_int (fin_bl I q (by simp))
    | str j => obtain ⟨t', rfl⟩ := ry; exact eq_str (fin_bl I q dec_str)
    | _ => exact absurd (show false = true from hs) Bool.false_ne_true
  | byt i =>
    obtain ⟨t, rfl⟩ := rx
    cases y with
    | byt j => obtain ⟨t', rfl⟩ := ry; exact PySem.W.eq_bytes (fin_bl I q dec_byt)
    | _ => exact absurd (show false = true from hs) Bool.false_ne_true
  | _ => cases y <;> exact absurd (show false = true from hs) Bool.false_ne_true
theorem op_ne : OpR X (compareOp .NotEq) rNe := by
  intro pins s σ H x y v u Q I rx ry h
  obtain ⟨hs, q⟩ := h
  cases x with
  | non =>
    cases rx
    cases y with
    | non => cases ry; exact PySem.EqNone.ne_none_none (fin_bl I q (by simp))
    | bl j => cases ry; exact PySem.EqNone.ne_none_bool (fin_bl I q (by simp))
    | int j => obtain ⟨t', rfl⟩ := ry; exact PySem.EqNone.ne_none_int (fin_bl I q (by simp))
    | str j => obtain ⟨t', rfl⟩ := ry; exact PySem.EqNone.ne_none_str (fin_bl I q (by simp))
    | _ => exact absurd (show false = true from hs) Bool.false_ne_true
  | bl i =>
    cases rx
    cases y with
    | non => cases ry; exact PySem.EqNone.ne_bool_none (fin_bl I q (by simp))
    | bl j => cases ry; exact ne_bool (fin_bl I q (congrArg not dec_bl))
    | str j => obtain ⟨t', rfl⟩ := ry; exact PySem.EqMixed.ne_bool_str (fin_bl I q (by simp))
    | _ => exact absurd (show false = true from hs) Bool.false_ne_true
  | int i =>
    obtain ⟨t, rfl⟩ := rx
    cases y with
    | non => cases ry; exact PySem.EqNone.ne_int_none (fin_bl I q (by simp))
    | int j => obtain ⟨t', rfl⟩ := ry; exact ne_int (fin_bl I q (congrArg not dec_int))
    | str j => obtain ⟨t', rfl⟩ := ry; exact PySem.EqMixed.ne_int_str (fin_bl I q (by simp))
    | _ => exact absurd (show false = true from hs) Bool.false_ne_true
  | str i =>
    obtain ⟨t, rfl⟩ := rx
    cases y with
    | non => cases ry; exact PySem.EqNone.ne_str_none (fin_bl I q (by simp))
    | bl j => cases ry; exact PySem.EqMixed.ne_str_bool (fin_bl I q (by simp))
    | int j => obtain ⟨t', rfl⟩ := ry; exact PySem.EqMixed.ne_str_int (fin_bl I q (by simp))
    | str j => obtain ⟨t', rfl⟩ := ry; exact ne_str (fin_bl I q (congrArg not dec_str))
    | _ => exact absurd (show false = true from hs) Bool.false_ne_true
  | byt i =>
    obtain ⟨t, rfl⟩ := rx
    cases y with
    | byt j => obtain ⟨t', rfl⟩ := ry; exact PySem.W.ne_bytes (fin_bl I q (congrArg not dec_byt))
    | _ => exact absurd (show false = true from hs) Bool.false_ne_true
  | _ => cases y <;> exact absurd (show false = true from hs) Bool.false_ne_true
theorem op_lt : OpR X (compareOp .Lt) (rI0 fun i j => .bl (decide (i < j))) := opB0 fun _ _ _ _ _ _ _ q => lt_int q
theorem op_le : OpR X (compareOp .LtE) (rI0 fun i j => .bl (decide (i ≤ j))) := opB0 fun _ _ _ _ _ _ _ q => le_int q
theorem nomark (b : Expr) {op : CmpOp} (h : op ≠ .In := by decide) (h2 : op ≠ .NotIn := by decide) : behindInMarks op b = false := by
  have e1 : (op == CmpOp.In) = false := by cases op <;> first | rfl | exact absurd rfl h
  have e2 : (op == CmpOp.NotIn) = false := by cases op <;> first | rfl | exact absurd rfl h2
  cases b <;> simp [behindInMarks, e1, e2]
theorem pe_cmpR {op : CmpOp} {r : R2} (ho : OpR X (compareOp op) r) (ha : PE X a ta) (hb : PE X b tb) (hm : behindInMarks op b = false) : PE X (.Compare a [op] [b] pos) (tOp r ta tb) := by
  intro pins s σ H Q I h
  exact wpAny_Compare1 (binT ha hb I h fun v u s2 x y H2 I2 rx ry q => ho pins s2 σ H2 x y v u Q I2 rx ry q) hm
def tTest (t : TE) : TT := fun σ H Q => t σ H fun x H' => ∃ k, x = .bl k ∧ Q k H'
theorem pt_cmpR {op : CmpOp} {r : R2} (ho : OpR X (compareOp op) r) (ha : PE X a ta) (hb : PE X b tb) (hm : behindInMarks op b = false) : PT X (.Compare a [op] [b] pos) (tTest (tOp r ta tb)) := by
  intro pins s σ H Q I h
  refine wpAny_isTrue_Compare1 (thn (ha pins s σ H _ I h) fun v s1 ⟨x, H1, I1, r1, q1⟩ => thn (hb pins s1 σ H1 _ I1 q1) fun u s2 ⟨y, H2, I2, r2, q2⟩ =>
    thn (ho pins s2 σ H2 x y v u _ I2 r1 r2 q2) fun c s3 ⟨z, H3, I3, r3, k, e, q3⟩ => ?_) hm
  subst e
  cases r3
  exact wpAny_truthy_bool ⟨H3, I3, q3⟩
theorem line63 : (sizeLine : Nat) < 2 ^ 63 := by rw [sizeLine_eq]; decide
theorem vals1 {x : V} {us : List Value} (r : Vals [x] us) : ∃ u, us = [u] ∧ RelV x u := by
  cases r with
  | cons r1 r2 => cases r2; exact ⟨_, rfl, r1⟩
theorem vals2 {x y : V} {us : List Value} (r : Vals [x, y] us) : ∃ u w', us = [u, w'] ∧ RelV x u ∧ RelV y w' := by
  cases r with
  | cons r1 r2 =>
    cases r2 with
    | cons r3 r4 => cases r4; exact ⟨_, _, rfl, r1, r3⟩
theorem call_max2 (hc : X.calm = true) : CallR X (.builtin "max") (fun xs H Q => ∃ i j, xs = [.int i, .int j] ∧ Q (.int (if j > i then j else i)) H) := by
  intro pins s σ H xs us Q I r h
  obtain ⟨i, j, rfl, q⟩ := h
  obtain ⟨u, w', rfl, ⟨t, rfl⟩, ⟨t', rfl⟩⟩ := vals2 r
  refine max_two_ints (I.ok.hd hc) fun h' tk k => ⟨_, H, I.kept k, ?_, q⟩
  by_cases hj : j > i
  · rw [if_pos hj, if_pos hj]; exact ⟨_, rfl⟩
  · rw [if_neg hj, if_neg hj]; exact ⟨_, rfl⟩
end
end L2
namespace L2
open PySem PySem.Spec PyProof.Rows
structure ObjM (h : Heap) (x dx C : Addr) (mA : Str → Option Value) : Prop where
  obj : h.get? x = some (PySem.W.instObj C dx)
  ns : h.Ns1 dx mA
  ne : dx ≠ x
theorem lookIn_ns {h : Heap} {dx : Addr} {mA : Str → Option Value} (n : h.Ns1 dx mA) : ∃ od, h.get? dx = some od ∧ ∀ name, PySem.W.lookIn name od = some (mA name) := by
  obtain ⟨o, es, ep, ho, hd, hk, _, hm⟩ := n
  refine ⟨o, ho, fun name => ?_⟩
  have e := hm name
  unfold nsFind findBy at e
  rw [← Array.find?_toList] at e
  unfold PySem.W.lookIn
  rw [hd]
  dsimp only
  split
  · rename_i y q
    rw [q] at e
    exact congrArg some e
  · rename_i q
    rw [q] at e
    have a : es.toList.any (·.refKey) = false := by
      rw [List.any_eq_false]
      intro y hy
      obtain ⟨z, t, hkey⟩ := hk y (Array.mem_toList_iff.mp hy)
      simp [DictEntry.refKey, hkey]
    have a' : ¬ es.toList.any (·.refKey) = true := by rw [a]; exact Bool.false_ne_true
    rw [if_neg a']
    exact congrArg some e
theorem ObjM.look {h : Heap} {x dx C : Addr} {mA : Str → Option Value} (I : ObjM h x dx C mA) : ∃ od, PySem.W.InstAt h x (PySem.W.instObj C dx) C (some od) ∧ ∀ name, PySem.W.lookIn name od = some (mA name) :=
  let ⟨od, ho, hl⟩ := lookIn_ns I.ns
  ⟨od, ⟨I.obj, rfl, rfl, ho⟩, hl⟩
section
variable {prog : Program} {w : World} {A : Around} {E : Value → Shared → Prop} {s : Shared} {K : PySem.W.Frag} {x dx C f : Addr} {mA : Str → Option Value} {name : Str} {v : Value}
end
section
variable {P : Program} {w : World} {H H' : Hp} {h h' : Heap} {a C dx : Addr} {fs fs' : List (Str × V)}
theorem ins_get (hok : HOk P w H h) (e : H a = some (.ins C dx fs)) : ∃ mA, ObjM h a dx C mA ∧ (∀ f, RelO (fs.lookup f) (mA f)) ∧ PySem.Within mA (fs.map (·.1)) ∧ fs.length ≤ 1000 ∧ H dx = some (.own a) := by
  obtain ⟨d, z, ne, ob, mA, n, r, q⟩ := (show ObjOk P w H h a (.ins C dx fs) from hok a _ e)
  exact ⟨mA, ⟨ob, n, ne⟩, r, q, z, d⟩
end
structure Cls (K : PySem.W.Frag) (C : Addr) : Prop where
  pg : PySem.W.plainGet K C Str.empty = true
  hd : PySem.W.hasDictIn K C = true
  po : PySem.W.plainOver K C = true
  sa : PySem.W.findIn K (.ref C) "__setattr__" = some (some (.builtin "object.__setattr__"))
theorem Cls.get {K : PySem.W.Frag} {C : Addr} (c : Cls K C) (f : Str) : PySem.W.plainGet K C f = true := c.pg
section
variable {X : Cx} {pins : List (Addr × Obj)} {σ : St} {H : Hp} {s : Shared} {a C dx : Addr} {fs : List (Str × V)} {f : Str} {v : V} {A : Around} {E : Value → Shared → Prop}
end
section
variable {X : Cx} {o e value : Expr} {f : Str} {pos pos' tpos : Pos} {ta tv : TE}
end
section
variable {X : Cx} {pins : List (Addr × Obj)} {σ : St} {H : Hp} {s : Shared} {A : Around} {E : Value → Shared → Prop} {Q : Value → Shared → Prop} {c : Value} {b : Bool}
inductive TyOf (K : PySem.W.Frag) (H : Hp) : V → Value → Prop where
  | non : TyOf K H .non (.type "NoneType")
  | bl (x : Bool) : TyOf K H (.bl x) (.type "bool")
  | int (i : Int) : TyOf K H (.int i) (.type "int")
  | str (x : Str) : TyOf K H (.str x) (.type "str")
  | flt (x : UInt64) : TyOf K H (.flt x) (.type "float")
  | lst {a : Addr} {xs : List V} (e : H a = some (.lst xs)) : TyOf K H (.ref a) (.type "list")
  | frz {a : Addr} {o : Obj} {xs : List V} (e : H a = some (.frz o (.lst xs))) : TyOf K H (.ref a) (.type "list")
  | tup {a : Addr} {xs : List V} (e : H a = some (.tup xs)) : TyOf K H (.ref a) (.type "tuple")
  | dK {a : Addr} {kvs : List (Key × V)} (e : H a = some (.dK kvs)) : TyOf K H (.ref a) (.type "dict")
  | dT {a : Addr} {kvs : List (List Key × V)} (e : H a = some (.dT kvs)) : TyOf K H (.ref a) (.type "dict")
  | ins {a C dx : Addr} {fs : List (Str × V)} (e : H a = some (.ins C dx fs)) (cl : Cls K C) (ha : PySem.W.findIn K (.ref C) "__class__" = some (some (.builtin "object.__class__")))
      (hn : PySem.W.specialIn K (.builtin "object.__class__") "__get__" = some (some (.builtin "getset_descriptor.__get__"))) (htk : PySem.W.takesIn K (.builtin "object.__class__") = some true)
      (hm : PySem.W.mroIn K C (.type "object") = some true) : TyOf K H (.ref a) (.ref C)
theorem isinst_ok {x : V} {u t : Value} (I : Inv X pins σ H s) (rx : RelV x u) (ty : TyOf X.K H x t) (e : PySem.W.kitOne X.K t c = some b) (h : ∀ tk, Q (.bool b) { s with toks := tk }) :
    wpAny (model X.prog X.w) A (call (.builtin "isinstance") [u, c]) Q E s := by
  cases ty with
  | non => cases (show u = Value.none from rx); exact PySem.W.kia_one PySem.W.kitx_none I.kIn True.intro e (fun z => nomatch z) h
  | bl y => cases (show u = Value.bool y from rx); exact PySem.W.kia_one PySem.W.kitx_bool I.kIn True.intro e (fun z => nomatch z) h
  | int i => obtain ⟨t, q⟩ := (show ∃ t, u = Value.int i t from rx); cases q; exact PySem.W.kia_one PySem.W.kitx_int I.kIn True.intro e (fun z => nomatch z) h
  | str y => obtain ⟨t, q⟩ := (show ∃ t, u = Value.str y t from rx); cases q; exact PySem.W.kia_one PySem.W.kitx_str I.kIn True.intro e (fun z => nomatch z) h
  | flt y => obtain ⟨t, q⟩ := (show ∃ t, u = Value.float y t from rx); cases q; exact PySem.W.kia_one PySem.W.kitx_float I.kIn True.intro e (fun z => nomatch z) h
  | @lst a xs ea =>
    cases (show u = Value.ref a from rx)
    obtain ⟨_, _, n, _, h1⟩ := (show ObjOk X.prog X.w H s.heap a (.lst xs) from I.hok a _ ea)
    exact PySem.W.kia_one PySem.W.kitx_list I.kIn ⟨_, h1, rfl⟩ e (fun z => nomatch z) h
  | @frz a ob xs ea =>
    cases (show u = Value.ref a from rx)
    obtain ⟨_, _, _, n, _, h1⟩ := (show ObjOk X.prog X.w H s.heap a (.frz ob (.lst xs)) from I.hok a _ ea)
    exact PySem.W.kia_one PySem.W.kitx_list I.kIn ⟨_, h1, rfl⟩ e (fun z => nomatch z) h
  | @tup a xs ea =>
    cases (show u = Value.ref a from rx)
    obtain ⟨_, _, _, p⟩ := (show ObjOk X.prog X.w H s.heap a (.tup xs) from I.hok a _ ea)
    obtain ⟨o, h1, h2, _⟩ := p
    exact PySem.W.kia_one PySem.W.kitx_tuple I.kIn ⟨o, h1, h2⟩ e (fun z => nomatch z) h
  | @dK a kvs ea =>
    cases (show u = Value.ref a from rx)
    obtain ⟨_, _, vs, _, p⟩ := (show ObjOk X.prog X.w H s.heap a (.dK kvs) from I.hok a _ ea)
    obtain ⟨o, es, ep, h1, h2, _⟩ := p
    exact PySem.W.kia_one PySem.W.kitx_dict I.kIn ⟨o, h1, h2.1⟩ e (fun z => nomatch z) h
  | @dT a kvs ea =>
    cases (show u = Value.ref a from rx)
    obtain ⟨_, _, xs, _, o, es, ep, h1, h2, _⟩ := (show ObjOk X.prog X.w H s.heap a (.dT kvs) from I.hok a _ ea)
    exact PySem.W.kia_one PySem.W.kitx_dict I.kIn ⟨o, h1, h2.1⟩ e (fun z => nomatch z) h
  | @ins a C dx fs ea cl ha hn htk hm =>
    cases (show u = Value.ref a from rx)
    obtain ⟨mA, O, _⟩ := ins_get I.hok ea
    obtain ⟨od, J, _⟩ := O.look
    exact PySem.W.kia_one (PySem.W.kitx_own (cl.get _) cl.hd ha hn htk hm) I.kIn J e (fun z => nomatch z) h
end
end L2
namespace L2
open PySem PySem.Spec PyProof.Rows
structure Room (k : Nat) (A : Around) : Prop where
  hd : A.handled = none
  dp : A.depth + 3 * k + 5 < recursionLimit
  un : A.units + 16 * k + 200 < cLine
theorem Room.mono {j k : Nat} {A : Around} (r : Room k A) (h : j ≤ k) : Room j A := ⟨r.hd, by have := r.dp; omega, by have := r.un; omega⟩
theorem Room.deeper {k : Nat} {A : Around} (r : Room (k + 1) A) (env : Env) : Room k (A.deeper env) :=
  ⟨r.hd, by have := r.dp; show A.depth + 1 + 3 * k + 5 < _; omega, by have := r.un; show A.units + 3 + 16 * k + 200 < _; omega⟩
theorem Room.depth {k : Nat} {A : Around} (r : Room k A) : A.depth < recursionLimit := by have := r.dp; omega
theorem Room.units {k : Nat} {A : Around} (r : Room k A) : A.units + 64 < cLine := by have := r.un; omega
def tNil : TA := fun _ H Q => Q [] H
def tCons (ta : TE) (tr : TA) : TA := fun σ H Q => ta σ H fun x H1 => tr σ H1 fun xs H2 => Q (x :: xs) H2
section
variable {X : Cx} {e : Expr} {es : List Expr} {te : TE} {t : TA} {pos : Pos}
theorem pa_nil : PA X [] tNil := fun _ _ _ _ H Q I h => Calls.spliced_nil ⟨[], H, I, .nil, h⟩
theorem pa_cons (ha : PE X e te) (hr : PA X es t) (hs : starEach (e :: es) X.env = (false, eval e X.env) :: starEach es X.env := by rfl) : PA X (e :: es) (tCons te t) := by
  intro pos pins s σ H Q I h
  rw [hs]
  show wpAny _ _ (spliced ((false, eval e X.env) :: backTo pos (starEach es X.env))) _ _ s
  refine Calls.spliced_cons (thn (ha pins s σ H _ I h) fun u s1 ⟨x, H1, I1, r1, q1⟩ => ?_)
  exact thn (hr pos pins s1 σ H1 _ I1 q1) fun us s2 ⟨xs, H2, I2, r2, q2⟩ => ⟨x :: xs, H2, I2, .cons r1 r2, q2⟩
def tTup (t : TA) : TE := fun σ H Q => t σ H fun xs H1 => xs.length ≤ sizeLine ∧ ∀ p, H1 p = none → Q (.ref p) (upd H1 p (.tup xs))
def tLst (t : TA) : TE := fun σ H Q => t σ H fun xs H1 => xs.length ≤ sizeLine ∧ ∀ p, H1 p = none → Q (.ref p) (upd H1 p (.lst xs))
theorem pe_tup {x1} (h : PA X es t) : PE X (.Tuple es x1 pos) (tTup t) := by
  intro pins s σ H Q I hq
  refine wpAny_Tuple_spliced (thn (h pos pins s σ H _ I hq) fun us s1 ⟨xs, H1, I1, r, z, q⟩ => ⟨by rw [← r.length]; exact z, ?_⟩)
  have hf : H1 s1.heap.objs.size = none := I1.hok.fresh (Nat.le_refl _)
  refine ⟨.ref s1.heap.objs.size, upd H1 s1.heap.objs.size (.tup xs), I1.laid (t' := s1.toks) (fun b u e => Heap.get?_push_of_some _ e) (Nat.le_refl _) ?_, rfl, q _ hf⟩
  exact ⟨z, us, r, ⟨_, Heap.get?_push_size _ rfl, rfl, _, rfl⟩⟩
theorem pe_lst (h : PA X es t) : PE X (.List es pos) (tLst t) := by
  intro pins s σ H Q I hq
  refine wpAny_List_spliced (thn (h pos pins s σ H _ I hq) fun us s1 ⟨xs, H1, I1, r, z, q⟩ => ⟨by rw [← r.length]; exact z, ?_⟩)
  have hf : H1 s1.heap.objs.size = none := I1.hok.fresh (Nat.le_refl _)
  refine ⟨.ref s1.heap.objs.size, upd H1 s1.heap.objs.size (.lst xs), I1.laid (t' := s1.toks) (fun b u e => Heap.get?_push_of_some _ e) (Nat.le_refl _) ?_, rfl, q _ hf⟩
  exact ⟨z, us, 0, r, Heap.get?_push_size _ rfl⟩
end
abbrev Sp := List V → Hp → VK → XK → Prop
abbrev CXT := List Env → Hp → Shared → XK → Value → Shared → Prop
structure Env0 (P : Program) (w : World) (K : PySem.W.Frag) (mg : Str → Option Value) (base : Heap) (A : Around) (outer : List Env) (s : Shared) (H : Hp) : Prop where
  frames : A.frames = some outer
  mod : Mod K mg base
  bs : ∀ b o, base.get? b = some o → s.heap.get? b = some o ∧ H b = none
  bsz : base.objs.size ≤ s.heap.objs.size
  funs : s.heap.FunFrames base outer
  frf : ∀ b ∈ frs outer, H b = none
  hok : HOk P w H s.heap
  bare : AllBare s.gens
def CE (outer : List Env) (P : Program) (w : World) (H : Hp) (s : Shared) (Q : VK) (u : Value) (s' : Shared) : Prop :=
  ∃ v H', s'.os = s.os ∧ AllBare s'.gens ∧ Un (frs outer) [] H H' s.heap s'.heap ∧ HOk P w H' s'.heap ∧ RelV v u ∧ Q v H'
def CR (CX : CXT) (outer : List Env) (P : Program) (w : World) (H : Hp) (s : Shared) (Q : VK) (E : XK) (r : Result) (s' : Shared) : Prop :=
  match r with
  | .ok (.ret u) => CE outer P w H s Q u s'
  | .ok _ => False
  | .error e => CX outer H s E e s'
structure FnOk (P : Program) (w : World) (K : PySem.W.Frag) (mg : Str → Option Value) (base : Heap) (CX : CXT) (k : Nat) (f : Addr) (fd : FuncData) (ps : List Str) (sp : Sp) : Prop where
  len : ∀ vs H Q E, sp vs H Q E → vs.length = ps.length
  run : ∀ (A : Around) (outer : List Env) (s : Shared) (H : Hp) (args : Args) (us : List Value) (vs : List V) (Q : VK) (E : XK), Room k A → Env0 P w K mg base A outer s H → BindsTo s fd args (ps.zip us) → Vals vs us → sp vs H Q E →
    codeAny (model P w) A (.call (.ref f) args) (CR CX outer P w H s Q E) s
section
variable {X : Cx} {pins : List (Addr × Obj)} {σ : St} {H : Hp} {s s' : Shared}
theorem Inv.env0 (I : Inv X pins σ H s) : Env0 X.prog X.w X.K X.mg X.base X.A X.stack s H :=
  ⟨I.ok.frames, I.ok.mod, I.bs, Nat.le_trans I.ok.bsz I.sz, I.stack, I.stkFree, I.hok, I.bare⟩
theorem Inv.after {Q : VK} {u : Value} (I : Inv X pins σ H s) (h : CE X.stack X.prog X.w H s Q u s') : EP X pins σ Q u s' := by
  obtain ⟨v, H', os, bare, un, hok, r, q⟩ := h
  obtain ⟨hh, g, d, t, os'⟩ := s'
  obtain rfl : os' = s.os := os
  exact ⟨v, H', I.call (h' := hh) (g' := g) (d' := d) (t' := t) (ch := []) un hok bare (fun b z => absurd z (by simp)), r, q⟩
end
def tCall (sp : Sp) (dvs : List V) (E : XK) (t : TA) : TE := fun σ H Q => t σ H fun vs H1 => sp (vs ++ dvs) H1 Q E
def Binds (K : PySem.W.Frag) (fd : FuncData) (ps : List Str) (ds : List Value) : Prop :=
  ∀ (s : Shared) (us : List Value), K.In s.heap → (us ++ ds).length = ps.length → BindsTo s fd ⟨us, []⟩ (ps.zip (us ++ ds))
theorem Binds.all {K : PySem.W.Frag} {fd : FuncData} {ps : List Str} (h : ∀ us : List Value, us.length = ps.length → bindArgs fd ⟨us, []⟩ = pure (ps.zip us)) : Binds K fd ps [] := fun s us _ hl => by
  rw [List.append_nil] at hl ⊢
  exact .of_eq (h us hl)
def Passes (CX : CXT) (X : Cx) (E : XK) : Prop := ∀ (pins : List (Addr × Obj)) (σ : St) (H : Hp) (s : Shared) (e : Value) (s' : Shared), Inv X pins σ H s → CX X.stack H s E e s' → X.xe e s'
section
variable {X : Cx} {CX : CXT} {k : Nat} {f C : Addr} {fd : FuncData} {ps : List Str} {sp : Sp} {dvs : List V} {ds : List Value} {E : XK} {x m : Str} {p pos apos : Pos} {e o : Expr} {es : List Expr} {ta : TE} {t : TA}
theorem run_fn {pins : List (Addr × Obj)} {σ : St} {H : Hp} {s : Shared} {Q : VK} {us : List Value} {vs : List V} (F : FnOk X.prog X.w X.K X.mg X.base CX k f fd ps sp) (hr : Room k X.A) (hb : Binds X.K fd ps ds) (hd : Vals dvs ds) (hx : Passes CX X E)
    (I : Inv X pins σ H s) (r : Vals vs us) (h : sp (vs ++ dvs) H Q E) : wpAny (model X.prog X.w) X.A (call (.ref f) us) (EP X pins σ Q) X.xe s := by
  have r2 : Vals (vs ++ dvs) (us ++ ds) := r.append hd
  have hl : (us ++ ds).length = ps.length := by rw [← r2.length]; exact F.len _ _ _ _ h
  refine wpAny_call (codeAny_mono (F.run X.A X.stack s H ⟨us, []⟩ (us ++ ds) (vs ++ dvs) Q E hr I.env0 (hb s us I.kIn hl) r2 h) fun r s' hq => ?_)
  cases r with
  | error e => exact hx pins σ H s e s' I hq
  | ok fl =>
    cases fl with
    | ret u => exact I.after hq
    | next => exact False.elim hq
    | brk => exact False.elim hq
    | cont => exact False.elim hq
theorem pe_call (F : FnOk X.prog X.w X.K X.mg X.base CX k f fd ps sp) (hr : Room k X.A) (hg : Gl X x) (hm : X.mg x = some (.ref f)) (hk : PySem.W.keepIn X.K (.ref f) = true) (hb : Binds X.K fd ps ds) (hd : Vals dvs ds) (hx : Passes CX X E)
    (ha : PA X (e :: es) t) (hdb : (x == ("__debug__" : Str)) = false := by decide) (he : starEach (e :: es) X.env = (false, eval e X.env) :: starEach es X.env := by rfl) (hpl : (backTo pos (starEach es X.env)).any (·.1) = false := by rfl) :
    PE X (.Call (.Name x p) (e :: es) [] pos) (tCall sp dvs E t) := by
  intro pins s σ H Q I h
  refine wpAny_Call_Name_kw (ld_glob I hg hm ?_ hdb)
  refine PySem.W.callWith_K (h₀ := X.base) I.ok.mod.kin hk (thn (ha pos pins s σ H _ I h) fun us s1 ⟨vs, H1, I1, r, q⟩ => ⟨I1.kIn, ?_⟩) he hpl
  exact run_fn F hr hb hd hx I1 r q
end
section
variable {X : Cx} {CX : CXT} {k : Nat} {f C : Addr} {fd : FuncData} {ps ks : List Str} {sp : Sp} {E : XK} {x m : Str} {p pos apos kpos : Pos} {e o : Expr} {es : List Expr} {kws : List Keyword} {te ta : TE} {t tk : TA} {nm : Option Str}
variable {g : List Value → List Value → List Value} {gV : List V → List V → List V}
end
structure FnScope (N P : List Str) (sc : Scope) : Prop where
  kind : sc.kind = .function
  co : sc.isCoroutine = false
  gen : sc.isGenerator = false
  nd : N.Nodup
  pre : N.take P.length = P
  par : ∀ x ∈ P, sc.names.lookup x = some .local ∨ sc.names.lookup x = some .cell
  nofree : ∀ y ∈ sc.names, y.2 ≠ .free
theorem bindL_out {kindOf : Str → Option NameKind} {x : Str} : ∀ {binds : List (Str × Value)} {m : Str → Option Value}, (∀ v, (x, v) ∉ binds) → bindL kindOf binds m x = m x
  | [], _, _ => rfl
  | (n, v) :: r, m, h => by
    unfold bindL
    rw [bindL_out fun w hw => h w (List.mem_cons_of_mem _ hw)]
    split
    · have : x ≠ n := by rintro rfl; exact h v List.mem_cons_self
      simp [this]
    · rfl
theorem bindC_out {kindOf : Str → Option NameKind} {x : Str} : ∀ {binds : List (Str × Value)} {m : Str → Option Value}, (∀ v, (x, v) ∉ binds) → bindC kindOf binds m x = m x
  | [], _, _ => rfl
  | (n, v) :: r, m, h => by
    unfold bindC
    rw [bindC_out fun w hw => h w (List.mem_cons_of_mem _ hw)]
    split
    · rfl
    · have : x ≠ n := by rintro rfl; exact h v List.mem_cons_self
      simp [this]
theorem bindL_get {kindOf : Str → Option NameKind} {x : Str} {v : Value} : ∀ {P : List Str} {vs : List Value} {i : Nat} {m : Str → Option Value}, P.Nodup → P[i]? = some x → vs[i]? = some v → kindOf x = some .local →
    bindL kindOf (P.zip vs) m x = some v
  | [], _, _, _, _, h, _, _ => by simp at h
  | _ :: _, [], _, _, _, _, h, _ => by simp at h
  | p :: P, w :: vs, 0, m, nd, h1, h2, hk => by
    simp at h1 h2; subst h1; subst h2
    show bindL kindOf ((p, w) :: P.zip vs) m p = _
    unfold bindL
    rw [bindL_out fun v hv => (List.nodup_cons.mp nd).1 (List.of_mem_zip hv).1, if_pos hk]
    simp
  | p :: P, w :: vs, i + 1, m, nd, h1, h2, hk => by
    show bindL kindOf ((p, w) :: P.zip vs) m x = _
    unfold bindL
    exact bindL_get (i := i) (List.nodup_cons.mp nd).2 (by simpa using h1) (by simpa using h2) hk
theorem bindC_get {kindOf : Str → Option NameKind} {x : Str} {v : Value} : ∀ {P : List Str} {vs : List Value} {i : Nat} {m : Str → Option Value}, P.Nodup → P[i]? = some x → vs[i]? = some v → kindOf x ≠ some .local →
    bindC kindOf (P.zip vs) m x = some v
  | [], _, _, _, _, h, _, _ => by simp at h
  | _ :: _, [], _, _, _, _, h, _ => by simp at h
  | p :: P, w :: vs, 0, m, nd, h1, h2, hk => by
    simp at h1 h2; subst h1; subst h2
    show bindC kindOf ((p, w) :: P.zip vs) m p = _
    unfold bindC
    rw [bindC_out fun v hv => (List.nodup_cons.mp nd).1 (List.of_mem_zip hv).1, if_neg hk]
    simp
  | p :: P, w :: vs, i + 1, m, nd, h1, h2, hk => by
    show bindC kindOf ((p, w) :: P.zip vs) m x = _
    unfold bindC
    exact bindC_get (i := i) (List.nodup_cons.mp nd).2 (by simpa using h1) (by simpa using h2) hk
def start (N : List Str) (vs : List V) : St := vs.map some ++ List.replicate (N.length - vs.length) none
def cxOf (CX : CXT) (P : Program) (w : World) (K : PySem.W.Frag) (mg : Str → Option Value) (base : Heap) (N : List Str) (qual : Str) (scope : Scope) (f : Addr) (cd : Value) (A : Around) (outer : List Env) (s : Shared) (H : Hp) (E : XK) : Cx where
  prog := P
  w := w
  K := K
  mg := mg
  base := base
  A := A.deeper (envOfC qual scope s.heap.objs.size f cd)
  N := N
  s₀ := s
  H₀ := H
  env := envOfC qual scope s.heap.objs.size f cd
  outer := outer
  stack := envOfC qual scope s.heap.objs.size f cd :: outer
  ex := []
  calm := true
  fn := fun _ => true
  pn := []
  xe := fun e s' => wpAny (model P w) (A.deeper (envOfC qual scope s.heap.objs.size f cd)) (leaving (envOfC qual scope s.heap.objs.size f cd) e) (fun _ s'' => CX outer H s E e s'') (fun e' s'' => CX outer H s E e' s'') s'
theorem cell_has {sc : Scope} {n : Nat} {x : Str} (h : sc.names.lookup x = some .cell) : ∃ c, (cellsFrom n sc.names []).lookup x = some c := by
  have q := PySem.W.cellsFrom_some sc.names n [] (.inl h)
  exact Option.isSome_iff_exists.mp q
theorem inv_start {CX : CXT} {P : Program} {w : World} {K : PySem.W.Frag} {mg : Str → Option Value} {base : Heap} {N ps : List Str} {qual : Str} {scope : Scope} {f : Addr} {cd : Value} {A : Around} {outer : List Env} {s s1 : Shared} {H : Hp} {E : XK} {us : List Value} {vs : List V}
    (S : FnScope N ps scope) (hd : A.handled = none) (e0 : Env0 P w K mg base A outer s H) (hl : vs.length = ps.length) (r : Vals vs us)
    (x : InCallC s s.heap.objs.size (bindL (envOfC qual scope s.heap.objs.size f cd).kindOf (ps.zip us) fun _ => none) (cellsFrom (s.heap.objs.size + 1) scope.names []) (bindC (envOfC qual scope s.heap.objs.size f cd).kindOf (ps.zip us) fun _ => none) s1) :
    Inv (cxOf CX P w K mg base N qual scope f cd A outer s H E) [] (start N vs) H s1 := by
  have hpl : ps.length ≤ N.length := by have := congrArg List.length S.pre; rw [List.length_take] at this; omega
  obtain ⟨h1, tk, rfl, hk⟩ := x.done
  have noA : ∀ b : Addr, b ∉ (cxOf CX P w K mg base N qual scope f cd A outer s H E).ex := fun b z => absurd (show b ∈ ([] : List Addr) from z) (by simp)
  refine ⟨⟨e0.mod, S.kind, rfl, rfl, Nat.le_refl _, fun y z c h1 h2 => ?_, fun y hy => ?_, fun y c _ h => ?_, fun _ => hd, Around.frames_deeper e0.frames, .inr ⟨rfl, rfl⟩, fun b z => absurd z (noA b), e0.bs, e0.bsz, fun b _ _ => noA b, fun b z => absurd z (noA b), e0.funs, e0.frf⟩,
    rfl, e0.bare, Un.kept hk, ⟨_, x.toInCall.ns, fun i y v h1 h2 h3 => ?_⟩, fun y c h => ⟨_, x.cell y c h⟩, e0.hok.fresh (Nat.le_refl _), fun y c h => ?_, fun p hp => absurd (show p ∈ ([] : List (Addr × Obj)) from hp) (by simp), e0.hok.kept hk, ?_⟩
  · exact name_of_addr x.apart (PySem.mem_of_lookup h1) (PySem.mem_of_lookup h2)
  · have hy : scope.names.lookup y = some .cell ∨ scope.names.lookup y = some .free := hy
    rcases hy with hy | hy
    · exact cell_has hy
    · exact absurd rfl (S.nofree _ (PySem.mem_of_lookup hy))
  · exact Nat.le_of_lt (x.above y c (PySem.mem_of_lookup h))
  · have hi : i < vs.length := by
      unfold start at h2
      by_cases hi : i < vs.length
      · exact hi
      · rw [List.getElem?_append_right (by simpa using hi)] at h2
        rw [List.getElem?_replicate] at h2
        split at h2 <;> cases h2
    have ha : vs[i]? = some v := by
      unfold start at h2
      rw [List.getElem?_append_left (by simpa using hi), List.getElem?_map] at h2
      cases e : vs[i]? with
      | none => rw [e] at h2; cases h2
      | some a => rw [e] at h2; cases h2; rfl
    obtain ⟨u, hu, rv⟩ := r.get ha
    have hp : ps[i]? = some y := by
      rw [← S.pre, List.getElem?_take_of_lt (by omega)]; exact h1
    have ndP : ps.Nodup := by rw [← S.pre]; exact S.nd.sublist (List.take_sublist _ _)
    refine ⟨u, rv, ?_⟩
    rcases S.par y (List.mem_of_getElem? hp) with k | k
    · exact .inl ⟨k, bindL_get ndP hp hu k⟩
    · obtain ⟨c, e⟩ := cell_has (n := s.heap.objs.size + 1) k
      refine .inr ⟨.inl k, c, e, ?_⟩
      have q := x.cell y c e
      rw [bindC_get ndP hp hu (by show scope.names.lookup y ≠ _; rw [k]; decide)] at q
      exact q
  · exact e0.hok.fresh (Nat.le_of_lt (x.above y c (PySem.mem_of_lookup h)))
  · unfold start
    show _ = N.length
    rw [List.length_append, List.length_map, List.length_replicate]
    omega
theorem fn_of {CX : CXT} {P : Program} {w : World} {K : PySem.W.Frag} {mg : Str → Option Value} {base : Heap} {k : Nat} {f : Addr} {name qual : Str} {params : Arguments} {body : List Stmt} {scope : Scope} {dV kV doc pm cdv ct oc : Value} {an od : Option Addr}
    {osl : Array (Option Value)} {N ps : List Str} {sp : Sp} (lk : K.lookup f = some ⟨oc, od, .func (PySem.W.fnOf name qual params body scope dV kV doc pm an cdv ct), osl⟩) (hcd : PySem.W.codeIn K cdv qual = true) (S : FnScope N ps scope)
    (len : ∀ vs H Q E, sp vs H Q E → vs.length = ps.length)
    (hbody : ∀ (A : Around) (outer : List Env) (s : Shared) (H : Hp) (vs : List V) (Q : VK) (E : XK), Room k (A.deeper (envOfC qual scope s.heap.objs.size f cdv)) → sp vs H Q E →
      ∃ t, PSs (cxOf CX P w K mg base N qual scope f cdv A outer s H E) body t ∧ t { nx := fun _ H' => Q .non H', rt := Q } (start N vs) H) :
    FnOk P w K mg base CX (k + 1) f (PySem.W.fnOf name qual params body scope dV kV doc pm an cdv ct) ps sp := by
  refine ⟨len, fun A outer s H args us vs Q E hr e0 hb r hsp => ?_⟩
  have hl := len _ _ _ _ hsp
  have KX : K.In s.heap := e0.mod.kin.keeps fun b o e => (e0.bs b o e).1
  have lim : s.heap.NoLimit := e0.mod.nolimit.keeps fun b o e => (e0.bs b o e).1
  have hkind : ∀ y ∈ ps.zip us, scope.names.lookup y.1 = some .local ∨ (scope.names.lookup y.1 = some .cell ∧ ((cellsFrom (s.heap.objs.size + 1) scope.names []).lookup y.1).isSome = true) := fun ⟨n, v⟩ hy => by
    rcases S.par n (List.of_mem_zip hy).1 with q | q
    · exact .inl q
    · exact .inr ⟨q, PySem.W.cellsFrom_some _ _ _ (.inl q)⟩
  refine codeAny_call_function hr.depth (KX _ _ lk) rfl S.co S.gen rfl (PySem.W.codeRec_of KX hcd) (hb _ _ _ _ ?_)
  refine wpAny_newFunctionEnv_cells S.kind hkind fun env he s1 x => ?_
  subst he
  refine ⟨lim.keeps x.toInCall.keep, codeAny_func ?_⟩
  obtain ⟨t, ht, hq⟩ := hbody A outer s H vs Q E (hr.deeper _) hsp
  have I : Inv (cxOf CX P w K mg base N qual scope f cdv A outer s H E) [] (start N vs) H s1 := inv_start S hr.hd e0 hl r x
  refine wpAny_mono (ht [] s1 (start N vs) H _ I hq) (fun fl s' hs => ?_) fun e s' hs => hs
  have fin : ∀ {σ' : St} {H' : Hp} {v : V} {u : Value}, Inv (cxOf CX P w K mg base N qual scope f cdv A outer s H E) [] σ' H' s' → RelV v u → Q v H' → CE outer P w H s Q u s' :=
    fun {σ' H' v u} J rv q => ⟨v, H', J.os, J.bare, J.base, J.hok, rv, q⟩
  cases fl with
  | ret u =>
    obtain ⟨v, σ', H', J, rv, q⟩ := hs
    exact fin J rv q
  | next =>
    obtain ⟨σ', H', J, q⟩ := hs
    exact fin (v := V.non) (u := Value.none) J rfl q
  | brk =>
    obtain ⟨_, _, _, q⟩ := hs
    exact False.elim q
  | cont =>
    obtain ⟨_, _, _, q⟩ := hs
    exact False.elim q
end L2
namespace L2
open PySem PySem.Spec PyProof.Rows
section
variable {X : Cx} {x : Str} {p pos : Pos} {e : Expr} {es : List Expr} {t : TA} {id T : String} {r : List V → Hp → VK → Prop}
def tCB (r : List V → Hp → VK → Prop) (t : TA) : TE := fun σ H Q => t σ H fun vs H1 => r vs H1 Q
theorem pe_callB (hc : CallR X (.builtin id) r) (hg : Gl X x) (hm : X.mg x = none) (hv : bootBuiltins x = some (.builtin id)) (ha : PA X (e :: es) t) (hn : x ≠ "__name__" := by decide) (hdb : (x == ("__debug__" : Str)) = false := by decide)
    (he : starEach (e :: es) X.env = (false, eval e X.env) :: starEach es X.env := by rfl) (hpl : (backTo pos (starEach es X.env)).any (·.1) = false := by rfl) : PE X (.Call (.Name x p) (e :: es) [] pos) (tCB r t) := by
  intro pins s σ H Q I h
  refine wpAny_Call_Name_kw (ld_blt I hg hm hv ?_ hn hdb)
  exact PyProof.Rows.callWith_builtin1 (thn (ha pos pins s σ H _ I h) fun us s1 ⟨vs, H1, I1, r1, q1⟩ => hc pins s1 σ H1 vs us Q I1 r1 q1) he hpl
theorem pe_callTy (hc : CallR X (.type T) r) (hg : Gl X x) (hm : X.mg x = none) (hv : bootBuiltins x = some (.type T)) (ha : PA X (e :: es) t) (hn : x ≠ "__name__" := by decide) (hdb : (x == ("__debug__" : Str)) = false := by decide)
    (he : starEach (e :: es) X.env = (false, eval e X.env) :: starEach es X.env := by rfl) (hpl : (backTo pos (starEach es X.env)).any (·.1) = false := by rfl) : PE X (.Call (.Name x p) (e :: es) [] pos) (tCB r t) := by
  intro pins s σ H Q I h
  refine wpAny_Call_Name_kw (ld_blt I hg hm hv ?_ hn hdb)
  exact PyProof.Rows.callWith_type1 (thn (ha pos pins s σ H _ I h) fun us s1 ⟨vs, H1, I1, r1, q1⟩ => hc pins s1 σ H1 vs us Q I1 r1 q1) he hpl
end
end L2
namespace HT
open PySem PyProof.Rows
section
open PySem.SeqAt
open PySem.AutoSeq1 (wpAny_loadPart')
open PySem.MeetsSeq PySem.MeetsSeq2 PySem.MeetsSeq3
end
section
variable {prog : Program} {w : World} {A : Around} {E : Value → Shared → Prop} {s : Shared}
def sIx (n d : Nat) : Option Int → Nat
  | none => d
  | some v => if v < 0 then (v + (n : Int)).toNat else min v.toNat n
theorem sIx_none (n d : Nat) : sIx n d none = d := rfl
theorem sIx_nat (n d k : Nat) : sIx n d (some (k : Int)) = min k n := by
  show (if (k : Int) < 0 then ((k : Int) + (n : Int)).toNat else min (k : Int).toNat n) = min k n
  rw [if_neg (by omega), Int.toNat_natCast]
theorem sIx_le (n d : Nat) (hd : d ≤ n) (o : Option Int) : sIx n d o ≤ n := by
  cases o with
  | none => exact hd
  | some v =>
    show (if v < 0 then (v + (n : Int)).toNat else min v.toNat n) ≤ n
    by_cases hv : v < 0
    · rw [if_pos hv]; omega
    · rw [if_neg hv]; exact Nat.min_le_right _ _
theorem clip_eq (v : Int) (n d : Nat) : (if v < 0 then max (v + (n : Int)) 0 else min v (n : Int)) = ((sIx n d (some v) : Nat) : Int) := by
  show (if v < 0 then max (v + (n : Int)) 0 else min v (n : Int)) = (((if v < 0 then (v + (n : Int)).toNat else min v.toNat n) : Nat) : Int)
  by_cases hv : v < 0
  · simp only [if_pos hv]; omega
  · simp only [if_neg hv]; omega
theorem adjust_gen (lo hi : Option Int) (n : Nat) : Builtin.Slice.sliceAdjust lo hi 1 (n : Int) = (((sIx n 0 lo : Nat) : Int), ((sIx n n hi : Nat) : Int)) := by
  have h1 : ¬ ((1 : Int) < 0) := by omega
  unfold Builtin.Slice.sliceAdjust
  simp only [h1, if_false]
  refine Prod.ext ?_ ?_
  · cases lo with
    | none => rfl
    | some v => exact clip_eq v n 0
  · cases hi with
    | none => rfl
    | some v => exact clip_eq v n n
theorem places_gen (i j : Nat) : Builtin.Slice.slicePlaces (i : Int) (j : Int) 1 = j - i := by
  unfold Builtin.Slice.slicePlaces
  have h1 : (1 : Int) > 0 := by omega
  simp only [h1, if_true, Int.ediv_one]
  split <;> omega
theorem slicePart_ {v : Value} {o : Option Int} {Q : Option Int → Shared → Prop} (p : IsPart v o) (h : Q o s) : wpAny (model prog w) A (Builtin.Slice.slicePartIndex v) Q E s := by
  cases p with
  | none => exact slicePart_none h
  | int i t => exact slicePart_int h
theorem sliceApplied_gen {sl : Addr} {vl vu : Value} {lo hi : Option Int} {n : Nat} {Q : Int × Int × Nat → Shared → Prop} (hs : s.heap.IsSliceOf sl vl vu .none) (pl : IsPart vl lo) (pu : IsPart vu hi)
    (h : Q (((sIx n 0 lo : Nat) : Int), 1, sIx n n hi - sIx n 0 lo) s) : wpAny (model prog w) A (Builtin.Slice.sliceApplied (.ref sl) (pure (n : Int))) Q E s := by
  obtain ⟨os, hos, hcs, hds⟩ := id hs
  unfold Builtin.Slice.sliceApplied Builtin.Slice.sliceFields
  refine wpAny_bind (wpAny_bind (wpAny_field hos hds (x := vl) rfl (wpAny_bind (wpAny_field hos hds (x := vu) rfl (wpAny_bind (wpAny_field hos hds (x := .none) rfl (wpAny_pure ?_)))))))
  refine wpAny_bind (slicePart_none ?_)
  show wpAny _ _ (if ((1 : Int) == 0) = true then _ else _) _ _ s
  rw [if_neg (by decide)]
  refine wpAny_bind (slicePart_ pl (wpAny_bind (slicePart_ pu (wpAny_bind (wpAny_pure ?_)))))
  show wpAny _ _ (match Builtin.Slice.sliceAdjust lo hi 1 (n : Int) with | (lo, hi) => pure (lo, (1 : Int), Builtin.Slice.slicePlaces lo hi 1)) _ _ s
  rw [adjust_gen lo hi n]
  show wpAny _ _ (pure (((sIx n 0 lo : Nat) : Int), (1 : Int), Builtin.Slice.slicePlaces ((sIx n 0 lo : Nat) : Int) ((sIx n n hi : Nat) : Int) 1)) _ _ s
  rw [places_gen]
  exact wpAny_pure h
theorem pick_gen (xs : Array Value) (i k : Nat) : ((List.range k).filterMap fun (m : Nat) => xs[((i : Int) + (m : Int) * 1).toNat]?).toArray = ((xs.toList.drop i).take k).toArray := by
  have e : (fun (m : Nat) => xs[((i : Int) + (m : Int) * 1).toNat]?) = fun m => xs[i + m]? := by
    funext m
    have : ((i : Int) + (m : Int) * 1).toNat = i + m := by omega
    rw [this]
  rw [e]
  have := pick_run xs i k
  rw [List.filterMap_map] at this
  have e2 : ((fun x => xs[x]?) ∘ fun x => i + x) = fun m => xs[i + m]? := rfl
  rw [e2] at this
  rw [this]
theorem getItem_tuple_cut {t sl : Addr} {items : Array Value} {vl vu : Value} {lo hi : Option Int} {Q : Value → Shared → Prop} (ht : IsTup s.heap t items) (hs : s.heap.IsSliceOf sl vl vu .none) (pl : IsPart vl lo) (pu : IsPart vu hi)
    (hw : ¬ (sIx items.size 0 lo = 0 ∧ sIx items.size items.size hi = items.size))
    (h : Q (.ref s.heap.objs.size) { s with heap := s.heap.push { cls := .type "tuple", data := .seq ((items.toList.drop (sIx items.size 0 lo)).take (sIx items.size items.size hi - sIx items.size 0 lo)).toArray } })
    (hsz : items.size ≤ sizeLine) : wpAny (model prog w) A (getItem (.ref t) (.ref sl)) Q E s := by
  have htake : sizeOk (.seq ((items.toList.drop (sIx items.size 0 lo)).take (sIx items.size items.size hi - sIx items.size 0 lo)).toArray) := by
    show ((items.toList.drop (sIx items.size 0 lo)).take (sIx items.size items.size hi - sIx items.size 0 lo)).toArray.size ≤ sizeLine
    rw [List.size_toArray, List.length_take, List.length_drop, Array.length_toList]
    omega
  have hj : sIx items.size items.size hi ≤ items.size := sIx_le _ _ (Nat.le_refl _) hi
  obtain ⟨os, hos, hcs, hds⟩ := id hs
  have hTs : s.TypeIs (.ref sl) "slice" := ⟨os, hos, hcs⟩
  unfold getItem
  try with_reducible refine wpAny_holding ?_
  first | refine wpAny_bind (wpAny_pure ?_) | skip
  refine wpAny_bind (wpAny_sequenceKey ht.typeIs (by decide) ?_)
  refine wpAny_bind (wpAny_callSpecial?_slot (name := Str.ofString "__getitem__") ht.typeIs PyProof.Rows.slot_tuple_getitem
    (wpAny_call_entry PyProof.Rows.slot_tuple_getitem ht.typeIs entry_tuple_getitem ?_ (args_tuple_getitem _ _)))
  show wpAny _ _ (Builtin.Tuple.tupleItemsOf (.ref t) >>= _) _ _ s
  refine wpAny_bind (tupleItemsOf_ ht ?_)
  refine wpAny_bind (wpAny_typeOf hTs ?_)
  rw [if_pos (by decide)]
  refine wpAny_bind (sliceApplied_gen hs pl pu ?_)
  have hno : ¬ ((((sIx items.size 0 lo : Nat) : Int) == 0 && (1 : Int) == 1 && (sIx items.size items.size hi - sIx items.size 0 lo) == items.size) = true) := by
    intro q
    rw [Bool.and_eq_true, Bool.and_eq_true] at q
    have q1 : ((sIx items.size 0 lo : Nat) : Int) = 0 := eq_of_beq q.1.1
    have q2 : sIx items.size items.size hi - sIx items.size 0 lo = items.size := eq_of_beq q.2
    exact hw ⟨by omega, by omega⟩
  show wpAny _ _ (if (((sIx items.size 0 lo : Nat) : Int) == 0 && (1 : Int) == 1 && (sIx items.size items.size hi - sIx items.size 0 lo) == items.size) = true then _ else _) _ _ s
  rw [if_neg hno, pick_gen]
  first
    | exact wpAny_bind (m := Builtin.Tuple.tupleExact _) (wpAny_newObj_type (wpAny_pure ⟨_, rfl, wpAny_pure h⟩) htake)
    | exact wpAny_bind (m := Builtin.Tuple.tupleExact _) (wpAny_newObj_type (wpAny_bind (wpAny_pure (wpAny_pure ⟨_, rfl, wpAny_pure h⟩))) htake)
    | exact wpAny_bind (wpAny_bind (m := Builtin.Tuple.tupleExact _) (wpAny_newObj_type (wpAny_pure (wpAny_pure ⟨_, rfl, wpAny_pure h⟩)) htake))
    | exact wpAny_bind (wpAny_bind (m := Builtin.Tuple.tupleExact _) (wpAny_newObj_type (wpAny_pure ⟨_, rfl, wpAny_pure h⟩) htake))
end
end HT
namespace L2
open PySem PySem.Spec PyProof.Rows
abbrev TO := St → Hp → (Option Int → Hp → Prop) → Prop
def PO (X : Cx) (e : Option Expr) (t : TO) : Prop :=
  ∀ (pins : List (Addr × Obj)) (s : Shared) (σ : St) (H : Hp) (Q : Option Int → Hp → Prop), Inv X pins σ H s → t σ H Q →
    wpAny (model X.prog X.w) X.A (evalPart e X.env) (fun u s' => ∃ o H', Inv X pins σ H' s' ∧ IsPart u o ∧ Q o H') X.xe s
def tNoPart : TO := fun _ H Q => Q none H
def tPart (t : TE) : TO := fun σ H Q => t σ H fun x H1 => ∃ i, x = .int i ∧ Q (some i) H1
section
variable {X : Cx} {e : Expr} {te : TE} {lo hi : Option Expr} {tl th : TO} {pos p2 : Pos}
theorem po_none : PO X none tNoPart := by
  intro pins s σ H Q I h
  rw [evalPart_none]
  exact wpAny_pure ⟨none, H, I, .none, h⟩
theorem po_some (h : PE X e te) : PO X (some e) (tPart te) := by
  intro pins s σ H Q I hw
  rw [evalPart_some]
  refine thn (h pins s σ H _ I hw) fun u s1 ⟨x, H1, I1, r1, q1⟩ => ?_
  obtain ⟨i, rfl, q⟩ := q1
  obtain ⟨t, rfl⟩ := r1
  exact ⟨some i, H1, I1, .int i t, q⟩
def SlR (X : Cx) (r : V → Option Int → Option Int → Hp → VK → Prop) : Prop :=
  ∀ (pins : List (Addr × Obj)) (s : Shared) (σ : St) (H : Hp) (x : V) (v vl vu : Value) (lo hi : Option Int) (sl : Addr) (Q : VK), Inv X pins σ H s → RelV x v → s.heap.IsSliceOf sl vl vu .none → IsPart vl lo → IsPart vu hi → r x lo hi H Q →
    ∃ T id, typeLookup (.type T) "__getitem__" = pure (some (.builtin id)) ∧ s.TypeIs v T ∧ wpAny (model X.prog X.w) X.A (getItem v (.ref sl)) (EP X pins σ Q) X.xe s
def tSl (r : V → Option Int → Option Int → Hp → VK → Prop) (te : TE) (tl th : TO) : TE := fun σ H Q => te σ H fun x H1 => tl σ H1 fun l H2 => th σ H2 fun u H3 => r x l u H3 Q
theorem pe_slice {r : V → Option Int → Option Int → Hp → VK → Prop} (hr : SlR X r) (he : PE X e te) (hl : PO X lo tl) (hu : PO X hi th) : PE X (.Subscript e (.Slice lo hi none p2) pos) (tSl r te tl th) := by
  intro pins s σ H Q I h
  refine Subscript_ (thn (he pins s σ H _ I h) fun v s1 ⟨x, H1, I1, r1, q1⟩ => ?_)
  refine wpAny_Slice (thn (hl pins s1 σ H1 _ I1 q1) fun vl s2 ⟨l, H2, I2, pl, q2⟩ => thn (hu pins s2 σ H2 _ I2 q2) fun vu s3 ⟨u, H3, I3, pu, q3⟩ => ?_)
  rw [evalPart_none]
  refine wpAny_pure ?_
  have I4 : Inv X pins σ H3 { s3 with heap := s3.heap.push { cls := .type "slice", data := .fields #[vl, vu, .none] } } := I3.kept (t' := s3.toks) fun b ob q => Heap.get?_push_of_some _ q
  obtain ⟨T, id, hT, ht, hg⟩ := hr pins { s3 with heap := s3.heap.push { cls := .type "slice", data := .fields #[vl, vu, .none] } } σ H3 x v vl vu l u s3.heap.objs.size Q I4 r1 (Heap.IsSliceOf.new ..) pl pu q3
  show wpAny (model X.prog X.w) X.A (subscriptTail e (.Slice lo hi none p2) v (.ref s3.heap.objs.size)) (EP X pins σ Q) X.xe { s3 with heap := s3.heap.push { cls := .type "slice", data := .fields #[vl, vu, .none] } }
  exact tail_any (ops := [.ref s3.heap.objs.size, v]) ht hT hg (by with_unfolding_all rfl)
def cutV (xs : List V) (lo hi : Option Int) : List V := (xs.drop (HT.sIx xs.length 0 lo)).take (HT.sIx xs.length xs.length hi - HT.sIx xs.length 0 lo)
theorem cutV_length (xs : List V) (lo hi : Option Int) : (cutV xs lo hi).length ≤ xs.length := by
  unfold cutV
  rw [List.length_take, List.length_drop]
  omega
def rSlT (K : PySem.W.Frag) : V → Option Int → Option Int → Hp → VK → Prop := fun x lo hi H Q => ∃ a xs, x = .ref a ∧ SqT K H a xs ∧
  ¬ (HT.sIx xs.length 0 lo = 0 ∧ HT.sIx xs.length xs.length hi = xs.length) ∧ ∀ p, H p = none → Q (.ref p) (upd H p (.tup (cutV xs lo hi)))
theorem sl_tup : SlR X (rSlT X.K) := by
  intro pins s σ H x v vl vu lo hi sl Q I rx hs pl pu h
  obtain ⟨a, xs, rfl, hx, hw, q⟩ := h
  cases rx
  obtain ⟨its, r, ht, hz⟩ := I.tuple hx
  have hlen : its.toArray.size = xs.length := by rw [List.size_toArray]; exact r.length.symm
  refine ⟨"tuple", _, PyProof.Rows.slot_tuple_getitem.lookup, ht.typeIs, ?_⟩
  refine HT.getItem_tuple_cut ht hs pl pu (by rw [hlen]; exact hw) ?_ (by rw [hlen]; exact hz)
  rw [hlen]
  refine ⟨.ref s.heap.objs.size, _, I.laid (t' := s.toks) (o := .tup (cutV xs lo hi)) (fun b ob q => Heap.get?_push_of_some _ q) (Nat.le_refl _) ?_, rfl, q _ (I.hok.fresh (Nat.le_refl _))⟩
  exact ⟨Nat.le_trans (cutV_length xs lo hi) hz, _, (r.drop (HT.sIx xs.length 0 lo)).take (HT.sIx xs.length xs.length hi - HT.sIx xs.length 0 lo), IsTup.new _ _⟩
end
end L2
namespace L2
open PySem PySem.Spec PyProof.Rows
def ixN (n : Nat) (i : Int) : Option Nat := if 0 ≤ i then (if i < n then some i.toNat else none) else if -(n : Int) ≤ i then some (i + n).toNat else none
def atI {α : Type} (xs : List α) (i : Int) : Option α := (ixN xs.length i).bind fun j => xs[j]?
theorem ixN_seq {n : Nat} {i : Int} {j : Nat} (h : ixN n i = some j) : seqIndex? i n = some j ∧ j < n ∧ -(n : Int) ≤ i ∧ i < n := by
  unfold ixN at h
  by_cases h0 : 0 ≤ i
  · rw [if_pos h0] at h
    by_cases h1 : i < n
    · rw [if_pos h1] at h
      have e : i.toNat = j := Option.some.inj h
      exact ⟨by rw [seqIndex_of h0 h1, e], by omega, by omega, h1⟩
    · rw [if_neg h1] at h; cases h
  · rw [if_neg h0] at h
    by_cases h1 : -(n : Int) ≤ i
    · rw [if_pos h1] at h
      have e : (i + n).toNat = j := Option.some.inj h
      exact ⟨by rw [seqIndex_neg (by omega) h1, e], by omega, h1, by omega⟩
    · rw [if_neg h1] at h; cases h
theorem atI_get {α : Type} {xs : List α} {i : Int} {v : α} (h : atI xs i = some v) : ∃ j, seqIndex? i xs.length = some j ∧ xs[j]? = some v ∧ j < xs.length ∧ -(xs.length : Int) ≤ i ∧ i < xs.length := by
  unfold atI at h
  cases e : ixN xs.length i with
  | none => rw [e] at h; cases h
  | some j =>
    rw [e] at h
    obtain ⟨h1, h2, h3, h4⟩ := ixN_seq e
    exact ⟨j, h1, h, h2, h3, h4⟩
theorem atI_nat {α : Type} {xs : List α} {j : Nat} {v : α} (h : xs[j]? = some v) : atI xs (j : Int) = some v := by
  have hj : j < xs.length := (List.getElem?_eq_some_iff.mp h).1
  have e : ixN xs.length (j : Int) = some j := by
    unfold ixN
    rw [if_pos (by omega), if_pos (by omega)]; simp
  unfold atI; rw [e]; exact h
def PlainIx (b : Expr) : Prop := ∀ o i, subscripted b false o i = operate [o, i] (getItem o i)
def IxR (X : Cx) (r : R2) : Prop :=
  ∀ (value slice : Expr) (pins : List (Addr × Obj)) (s : Shared) (σ : St) (H : Hp) (x y : V) (v u : Value) (Q : VK), Inv X pins σ H s → RelV x v → RelV y u → r x y H Q →
    subscripted slice false v u = operate [v, u] (getItem v u) → wpAny (model X.prog X.w) X.A (subscriptTail value slice v u) (EP X pins σ Q) X.xe s
def MtR (X : Cx) (id : String) (r : V → List V → Hp → VK → Prop) : Prop :=
  ∀ (pins : List (Addr × Obj)) (s : Shared) (σ : St) (H : Hp) (x : V) (xs : List V) (v : Value) (us : List Value) (Q : VK), Inv X pins σ H s → RelV x v → Vals xs us → r x xs H Q →
    wpAny (model X.prog X.w) X.A (call (.builtin id) (v :: us)) (EP X pins σ Q) X.xe s
section
variable {X : Cx} {a b : Expr} {ta tb : TE} {pos : Pos}
theorem pe_ix {r : R2} (hr : IxR X r) (ha : PE X a ta) (hb : PE X b tb) (hs : PlainIx b) : PE X (.Subscript a b pos) (tOp r ta tb) := by
  intro pins s σ H Q I h
  exact Subscript_ (binT ha hb I h fun v u s2 x y H2 I2 rx ry q => hr a b pins s2 σ H2 x y v u Q I2 rx ry q (hs _ _))
def rIxL (K : PySem.W.Frag) : R2 := fun x y H Q => ∃ p xs i v, x = .ref p ∧ y = .int i ∧ SqL K H p xs ∧ atI xs i = some v ∧ Q v H
def rIxT (K : PySem.W.Frag) : R2 := fun x y H Q => ∃ p xs i v, x = .ref p ∧ y = .int i ∧ SqT K H p xs ∧ atI xs i = some v ∧ Q v H
theorem ix_list : IxR X (rIxL X.K) := by
  intro value slice pins s σ H x y v u Q I rx ry h hs
  obtain ⟨p, xs, i, z, rfl, rfl, hq, he, q⟩ := h
  cases rx
  obtain ⟨t, rfl⟩ := ry
  obtain ⟨its, r, pl, hz⟩ := I.list hq
  obtain ⟨j, h1, h2, h3, h4, h5⟩ := atI_get he
  obtain ⟨w, ew, rw'⟩ := r.get h2
  have hl := r.length
  have hn := line63
  have fin : EP X pins σ Q w s := ⟨z, H, I, rw', q⟩
  by_cases h0 : 0 ≤ i
  · have hj : i.toNat = j := by
      rw [seqIndex_of h0 h5] at h1
      exact Option.some.inj h1
    exact item_listR pl.isList h0 (by omega) (by rw [hj]; simpa using ew) fin hs
  · have hj : (i + (its.toArray.size : Int)).toNat = j := by
      rw [seqIndex_neg (by omega) h4] at h1
      rw [List.size_toArray, ← hl]
      exact Option.some.inj h1
    exact subscriptTail_builtinR (x := w) pl.isList.typeIs slot_list_getitem.lookup
      (wpAny_getItem_list_neg (Q := fun r s' => r = w ∧ EP X pins σ Q r s') pl.isList (by omega) (by rw [List.size_toArray] <;> omega) (by omega) (by rw [hj]; simpa using ew) ⟨rfl, fin⟩) hs
theorem ix_tup : IxR X (rIxT X.K) := by
  intro value slice pins s σ H x y v u Q I rx ry h hs
  obtain ⟨p, xs, i, z, rfl, rfl, hq, he, q⟩ := h
  cases rx
  obtain ⟨t, rfl⟩ := ry
  obtain ⟨its, r, pl, hz⟩ := I.tuple hq
  obtain ⟨j, h1, h2, h3, h4, h5⟩ := atI_get he
  obtain ⟨w, ew, rw'⟩ := r.get h2
  have hl := r.length
  have hn := line63
  have fin : EP X pins σ Q w s := ⟨z, H, I, rw', q⟩
  exact subscriptTail_builtinR (x := w) pl.typeIs slot_tuple_getitem.lookup
    (getItem_tuple (j := j) (Q := fun r s' => r = w ∧ EP X pins σ Q r s') pl (by omega) (by omega) (by rw [List.size_toArray, ← hl]; exact h1) (by simpa using ew) ⟨rfl, fin⟩) hs
theorem Inv.lst {pins : List (Addr × Obj)} {σ : St} {H : Hp} {s : Shared} {p : Addr} {xs : List V} (I : Inv X pins σ H s) (h : H p = some (.lst xs)) :
    ∃ (its : List Value) (n : Nat), Vals xs its ∧ s.heap.get? p = some { cls := .type "list", data := .seq its.toArray n } ∧ xs.length ≤ sizeLine := by
  obtain ⟨z, its, n, r, e⟩ := I.hok p _ h
  exact ⟨its, n, r, e, z⟩
theorem slice_bounds (lo hi : Option Int) (n : Nat) : (sliceBounds lo hi none n).1 = ((HT.sIx n 0 lo : Nat) : Int) ∧ (sliceBounds lo hi none n).2.1 = ((HT.sIx n n hi : Nat) : Int) ∧ (sliceBounds lo hi none n).2.2 = 1 := by
  refine ⟨?_, ?_, rfl⟩
  · cases lo with
    | none => simp [sliceBounds, HT.sIx]
    | some i =>
      simp only [sliceBounds, HT.sIx, Option.getD_none, show (1 : Int) > 0 by decide, if_true]
      by_cases h : i < 0
      · simp only [h, if_true] <;> omega
      · simp only [h, if_false] <;> omega
  · cases hi with
    | none => simp [sliceBounds, HT.sIx]
    | some i =>
      simp only [sliceBounds, HT.sIx, Option.getD_none, show (1 : Int) > 0 by decide, if_true]
      by_cases h : i < 0
      · simp only [h, if_true] <;> omega
      · simp only [h, if_false] <;> omega
theorem slicePick_cut (its : List Value) (lo hi : Option Int) : slicePick its.toArray lo hi none = ((its.drop (HT.sIx its.length 0 lo)).take (HT.sIx its.length its.length hi - HT.sIx its.length 0 lo)).toArray := by
  obtain ⟨h1, h2, h3⟩ := slice_bounds lo hi its.toArray.size
  unfold slicePick
  rw [h1, h2, h3]
  simp only [sliceRange_one, pick_run, List.size_toArray] <;> rfl
def rSlL (K : PySem.W.Frag) : V → Option Int → Option Int → Hp → VK → Prop := fun x lo hi H Q => ∃ a xs, x = .ref a ∧ SqL K H a xs ∧ ∀ p, H p = none → Q (.ref p) (upd H p (.lst (cutV xs lo hi)))
theorem sl_list : SlR X (rSlL X.K) := by
  intro pins s σ H x v vl vu lo hi sl Q I rx hs pl pu h
  obtain ⟨a, xs, rfl, hx, q⟩ := h
  cases rx
  obtain ⟨its, r, ht, hz⟩ := I.list hx
  have hlen := r.length
  refine ⟨"list", _, slot_list_getitem.lookup, ht.isList.typeIs, ?_⟩
  refine wpAny_getItem_list_slice ht.isList hs pl pu .none (by simp) ?_ (by rw [List.size_toArray] <;> omega)
  rw [slicePick_cut, ← hlen]
  refine ⟨.ref s.heap.objs.size, _, I.laid (t' := s.toks) (o := .lst (cutV xs lo hi)) (fun b ob q => Heap.get?_push_of_some _ q) (Nat.le_refl _) ?_, rfl, q _ (I.hok.fresh (Nat.le_refl _))⟩
  exact ⟨Nat.le_trans (cutV_length xs lo hi) hz, _, 0, (r.drop (HT.sIx xs.length 0 lo)).take (HT.sIx xs.length xs.length hi - HT.sIx xs.length 0 lo), Heap.get?_push_size _ rfl⟩
def flatV : V → Bool
  | .non => true
  | .bl _ => true
  | .int _ => true
  | .str _ => true
  | _ => false
def eqV : V → V → Bool
  | .non, .non => true
  | .bl a, .bl b => a == b
  | .bl a, .int b => (if a then 1 else 0) == b
  | .int a, .bl b => a == (if b then 1 else 0)
  | .int a, .int b => a == b
  | .str a, .str b => a == b
  | _, _ => false
theorem eqAt_V {A : Around} {s : Shared} {y x : V} {u v : Value} (ry : RelV y u) (rx : RelV x v) (fy : flatV y = true) (fx : flatV x = true) : SeqAt.EqAt A s u v (eqV y x) := by
  cases y with
  | non =>
    cases ry
    cases x with
    | non => cases rx; exact SeqAt.EqAt.same _
    | bl b => cases rx; exact SeqAt.EqAt.none_bool b
    | int b => obtain ⟨t, rfl⟩ := rx; exact SeqAt.EqAt.none_int b t
    | str b => obtain ⟨t, rfl⟩ := rx; exact SeqAt.EqAt.none_str b t
    | _ => exact absurd (show false = true from fx) Bool.false_ne_true
  | bl a =>
    cases ry
    cases x with
    | non => cases rx; exact SeqAt.EqAt.bool_none a
    | bl b => cases rx; exact SeqAt.EqAt.bool_bool a b
    | int b => obtain ⟨t, rfl⟩ := rx; exact SeqAt.EqAt.bool_int a b t
    | str b => obtain ⟨t, rfl⟩ := rx; exact SeqAt.EqAt.bool_str a b t
    | _ => exact absurd (show false = true from fx) Bool.false_ne_true
  | int a =>
    obtain ⟨t', rfl⟩ := ry
    cases x with
    | non => cases rx; exact SeqAt.EqAt.int_none a t'
    | bl b => cases rx; exact SeqAt.EqAt.int_bool a t' b
    | int b => obtain ⟨t, rfl⟩ := rx; exact SeqAt.EqAt.int_int a t' b t
    | str b => obtain ⟨t, rfl⟩ := rx; exact SeqAt.EqAt.int_str a t' b t
    | _ => exact absurd (show false = true from fx) Bool.false_ne_true
  | str a =>
    obtain ⟨t', rfl⟩ := ry
    cases x with
    | non => cases rx; exact SeqAt.EqAt.str_none a t'
    | bl b => cases rx; exact SeqAt.EqAt.str_bool a t' b
    | int b => obtain ⟨t, rfl⟩ := rx; exact SeqAt.EqAt.str_int a t' b t
    | str b => obtain ⟨t, rfl⟩ := rx; exact SeqAt.EqAt.str_str a t' b t
    | _ => exact absurd (show false = true from fx) Bool.false_ne_true
  | _ => exact absurd (show false = true from fy) Bool.false_ne_true
def eqU (x : V) (u : Value) : Bool := match u with
  | .none => eqV .non x
  | .bool b => eqV (.bl b) x
  | .int i _ => eqV (.int i) x
  | .str z _ => eqV (.str z) x
  | _ => false
theorem eqU_of {x y : V} {u : Value} (r : RelV y u) (f : flatV y = true) : eqU x u = eqV y x := by
  cases y with
  | non => cases r; rfl
  | bl b => cases r; rfl
  | int i => obtain ⟨t, rfl⟩ := r; rfl
  | str z => obtain ⟨t, rfl⟩ := r; rfl
  | _ => exact absurd (show false = true from f) Bool.false_ne_true
theorem any_eqU {x : V} : ∀ {xs : List V} {us : List Value}, Vals xs us → xs.all flatV = true → us.any (eqU x) = xs.any fun y => eqV y x
  | _, _, .nil, _ => rfl
  | y :: xs, u :: us, .cons r t, f => by
    rw [List.all_cons, Bool.and_eq_true] at f
    rw [List.any_cons, List.any_cons, eqU_of r f.1, any_eqU t f.2]
theorem mem_eqAt {A : Around} {s : Shared} {x : V} {v : Value} (rx : RelV x v) (fx : flatV x = true) : ∀ {xs : List V} {us : List Value}, Vals xs us → xs.all flatV = true → ∀ u ∈ us, SeqAt.EqAt A s u v (eqU x u)
  | _, _, .nil, _ => fun u hu => by cases hu
  | y :: xs, u :: us, .cons r t, f => fun u' hu => by
    rw [List.all_cons, Bool.and_eq_true] at f
    rcases List.mem_cons.mp hu with rfl | hu
    · rw [eqU_of r f.1]; exact eqAt_V r rx f.1 fx
    · exact mem_eqAt rx fx t f.2 u' hu
def inV (x : V) (xs : List V) : Bool := xs.any fun y => eqV y x
def rIn (K : PySem.W.Frag) (neg : Bool) : R2 := fun x y H Q => ∃ p xs, y = .ref p ∧ (SqL K H p xs ∨ SqT K H p xs) ∧ flatV x = true ∧ xs.all flatV = true ∧ Q (.bl (if neg then !inV x xs else inV x xs)) H
theorem op_in_seq : OpR X (compareOp .In) (rIn X.K false) := by
  intro pins s σ H x y v u Q I rx ry h
  obtain ⟨p, xs, rfl, hq, fx, fs, q⟩ := h
  cases ry
  rcases hq with hq | hq
  · obtain ⟨its, r, pl, hz⟩ := I.list hq
    refine SeqAt.in_listAt (eqU x) pl.isList (fun w hw => mem_eqAt rx fx r fs w (by simpa using hw)) ⟨.bl _, H, I, rfl, ?_⟩
    rw [show its.toArray.any (eqU x) = its.any (eqU x) by simp, any_eqU r fs]
    exact q
  · obtain ⟨its, r, pl, hz⟩ := I.tuple hq
    refine SeqAt.in_tupleAt (eqU x) pl (fun w hw => mem_eqAt rx fx r fs w (by simpa using hw)) ⟨.bl _, H, I, rfl, ?_⟩
    rw [show its.toArray.any (eqU x) = its.any (eqU x) by simp, any_eqU r fs]
    exact q
theorem call_len_seq : CallR X (.builtin "len") (fun xs H Q => ∃ p ys, xs = [.ref p] ∧ (SqL X.K H p ys ∨ SqT X.K H p ys) ∧ Q (.int ys.length) H) := by
  intro pins s σ H xs us Q I r h
  obtain ⟨p, ys, rfl, hq, q⟩ := h
  obtain ⟨u, rfl, rx⟩ := vals1 r
  cases rx
  have hn := line63
  rcases hq with hq | hq
  · obtain ⟨its, r', pl, hz⟩ := I.list hq
    have hlen := r'.length
    exact Calls.call_len_list pl.isList (by simp only [List.size_toArray] <;> omega) ⟨.int ys.length, H, I.tok _, ⟨s.toks + 1, by rw [List.size_toArray, hlen]⟩, q⟩
  · obtain ⟨its, r', pl, hz⟩ := I.tuple hq
    have hlen := r'.length
    exact len_tuple pl (by simp only [List.size_toArray] <;> omega) ⟨.int ys.length, H, I.tok _, ⟨s.toks + 1, by rw [List.size_toArray, hlen]⟩, q⟩
theorem call_list_of : CallR X (.type "list") (fun xs H Q => ∃ p ys, xs = [.ref p] ∧ (SqL X.K H p ys ∨ SqT X.K H p ys) ∧ ∀ l, H l = none → Q (.ref l) (upd H l (.lst ys))) := by
  intro pins s σ H xs us Q I r h
  obtain ⟨p, ys, rfl, hq, q⟩ := h
  obtain ⟨u, rfl, rx⟩ := vals1 r
  cases rx
  have fin : ∀ (its : List Value), Vals ys its → ys.length ≤ sizeLine → ∀ (h' : Heap) (c' : Nat), (∀ b o', s.heap.get? b = some o' → h'.get? b = some o') →
      h'.get? s.heap.objs.size = some { cls := .type "list", dict := none, data := .seq its.toArray c', slots := #[] } → EP X pins σ Q (.ref s.heap.objs.size) { s with heap := h' } := fun its r' hz h' c' kp e =>
    ⟨.ref s.heap.objs.size, _, I.laid (t' := s.toks) kp (Nat.le_refl _) (show ObjOk X.prog X.w _ h' _ (.lst ys) from ⟨hz, its, c', r', e⟩), rfl, q _ (I.hok.fresh (Nat.le_refl _))⟩
  rcases hq with hq | hq
  · obtain ⟨its, r', pl, hz⟩ := I.list hq
    have hlen := r'.length
    obtain ⟨o, ho, hc, n, hd⟩ := pl.isList
    exact call_list_seq p (.inl rfl) ho hc hd (fun h' c' kp e => fin its r' hz h' c' kp e) (by simp only [List.size_toArray] <;> omega)
  · obtain ⟨its, r', pl, hz⟩ := I.tuple hq
    have hlen := r'.length
    obtain ⟨o, ho, hc, n, hd⟩ := pl
    exact call_list_seq p (.inr rfl) ho hc hd (fun h' c' kp e => fin its r' hz h' c' kp e) (by simp only [List.size_toArray] <;> omega)
def tyV (K : PySem.W.Frag) (T : String) (x : V) (H : Hp) : Prop := match x with
  | .str _ => T = "str"
  | .int _ => T = "int"
  | .ref p => (T = "list" ∧ ∃ xs, SqL K H p xs) ∨ (T = "tuple" ∧ ∃ o, K.lookup p = some o ∧ o.cls = .type "tuple" ∧ o.dict = none) ∨
      (T = "dict" ∧ ((∃ kvs, H p = some (.dK kvs)) ∨ ∃ kvs, H p = some (.dT kvs))) ∨ (T = "set" ∧ ∃ S n, H p = some (.set S n))
  | _ => False
theorem tyV_is {pins : List (Addr × Obj)} {σ : St} {H : Hp} {s : Shared} {T : String} {x : V} {v : Value} (I : Inv X pins σ H s) (r : RelV x v) (ty : tyV X.K T x H) :
    s.TypeIs v T ∧ ∀ a, v = .ref a → ∃ ob, s.heap.get? a = some ob ∧ ob.dict = none := by
  cases x with
  | str z =>
    obtain ⟨t, rfl⟩ := r
    cases (show T = "str" from ty)
    exact ⟨typeIs_str s z t, fun _ e => nomatch e⟩
  | int i =>
    obtain ⟨t, rfl⟩ := r
    cases (show T = "int" from ty)
    exact ⟨typeIs_int s i t, fun _ e => nomatch e⟩
  | ref p =>
    cases r
    rcases ty with ⟨rfl, xs, hq⟩ | ⟨rfl, o, hk, hc, hd⟩ | ⟨rfl, hk⟩ | ⟨rfl, S, n, hk⟩
    · obtain ⟨its, _, pl, _⟩ := I.list hq
      refine ⟨pl.isList.typeIs, fun a e => ?_⟩
      cases e
      obtain ⟨o, n, e, c, hd, _⟩ := pl
      exact ⟨o, e, hd⟩
    · refine ⟨⟨o, I.kIn p o hk, hc⟩, fun a e => ?_⟩
      cases e
      exact ⟨o, I.kIn _ o hk, hd⟩
    · have z : ∃ o, s.heap.get? p = some o ∧ o.ExactDict := by
        rcases hk with ⟨kvs, hk⟩ | ⟨kvs, hk⟩
        · obtain ⟨_, _, _, _, o, _, _, e, ex, _⟩ := I.hok p _ hk
          exact ⟨o, e, ex⟩
        · obtain ⟨_, _, _, _, o, _, _, e, ex, _⟩ := I.hok p _ hk
          exact ⟨o, e, ex⟩
      obtain ⟨o, e, ex⟩ := z
      refine ⟨⟨o, e, ex.1⟩, fun a e2 => ?_⟩
      cases e2
      exact ⟨o, e, ex.2.1⟩
    · obtain ⟨o, _, _, _, e, ex, _⟩ := I.hok p _ hk
      refine ⟨⟨o, e, ex.1⟩, fun a e2 => ?_⟩
      cases e2
      exact ⟨o, e, ex.2.1⟩
  | _ => exact False.elim ty
def tBM (K : PySem.W.Frag) (T : String) (r : V → List V → Hp → VK → Prop) (to : TE) (t : TA) : TE := fun σ H Q => to σ H fun x H1 => tyV K T x H1 ∧ t σ H1 fun xs H2 => r x xs H2 Q
variable {o e : Expr} {es : List Expr} {to : TE} {t : TA} {name : Str} {apos cpos : Pos} {T id : String} {r : V → List V → Hp → VK → Prop}
theorem pe_bm (pa : PlainAttrs T) (slot : Slot T name id) (hty : typeOf (.builtin id) = pure (.type "method_descriptor")) (hm : MtR X id r) (ho : PE X o to) (ha : PA X (e :: es) t)
    (hbase : attributeBase o name X.env (eval o X.env) = eval o X.env := by rfl)
    (hfew : ((backTo cpos (starEach (e :: es) X.env)).all (fun x => !x.1) && (backToKw cpos (keywordEach [] X.env)).all (fun x => x.1.isSome)
      && decide ((e :: es).length + ([] : List Keyword).length + (if ([] : List Keyword).isEmpty then 0 else 1) < 30)) = true := by rfl)
    (hline : (apos.endLine == cpos.line) = true := by rfl) (hs : starEach (e :: es) X.env = (false, eval e X.env) :: starEach es X.env := by rfl) (hplain : (backTo cpos (starEach es X.env)).any (·.1) = false := by rfl) :
    PE X (.Call (.Attribute o name apos) (e :: es) [] cpos) (tBM X.K T r to t) := by
  intro pins s σ H Q I h
  refine wpAny_Call_method_late hbase hfew hline rfl (thn (ho pins s σ H _ I h) fun v s1 ⟨x, H1, I1, r1, ty, q1⟩ => ?_)
  obtain ⟨h1, h2⟩ := tyV_is I1 r1 ty
  refine ⟨T, id, pa, slot, hty, h1, h2, ?_⟩
  have hA := ha cpos pins s1 σ H1 _ I1 q1
  rw [hs] at hA ⊢
  refine Calls.callWith_builtin (by show (false || (backTo cpos (starEach es X.env)).any (·.1)) = false; rw [hplain] <;> rfl) (Calls.evalArgs_plain ?_)
  exact thn hA fun us s2 ⟨vs, H2, I2, r2, q2⟩ => hm pins s2 σ H2 x vs v us Q I2 r1 r2 q2
end
end L2
namespace L2
open PySem PySem.Spec PyProof.Rows
theorem Vals.one : ∀ {x : V} {us : List Value}, Vals [x] us → ∃ u, us = [u] ∧ RelV x u
  | _, _, .cons r .nil => ⟨_, rfl, r⟩
theorem Vals.reverse {xs : List V} {us : List Value} (h : Vals xs us) : Vals xs.reverse us.reverse := by
  induction h with
  | nil => exact .nil
  | cons r t ih => rw [List.reverse_cons, List.reverse_cons]; exact Vals.append ih (.cons r .nil)
section
variable {X : Cx} {pins : List (Addr × Obj)} {σ : St} {H : Hp} {s : Shared} {l b : Addr} {xs ys zs : List V}
end
section
variable {X : Cx}
end
section
variable {prog : Program} {w : World} {A : Around} {E : Value → Shared → Prop} {s : Shared}
end
section
variable {X : Cx}
end
end L2
namespace L2
open PySem PySem.Spec PyProof.Rows
section
variable {κ : Type} [DecidableEq κ]
def valV (kvs : List (κ × V)) (k : κ) : Option V := (kvs.find? fun kv => decide (kv.1 = k)).map (·.2)
def putK (kvs : List (κ × V)) (k : κ) (v : V) : List (κ × V) :=
  if (kvs.any fun kv => decide (kv.1 = k)) = true then kvs.map (fun kv => if kv.1 = k then (kv.1, v) else kv) else kvs ++ [(k, v)]
theorem KV.any {kvs : List (κ × V)} {vs : List (κ × Value)} (r : KV kvs vs) (k : κ) : (kvs.any fun kv => decide (kv.1 = k)) = vs.any fun kv => decide (kv.1 = k) := by
  unfold KV at r
  induction r with
  | nil => rfl
  | cons h t ih => rw [List.any_cons, List.any_cons, ih, h.1]
theorem KV.length {kvs : List (κ × V)} {vs : List (κ × Value)} (r : KV kvs vs) : kvs.length = vs.length := Paired.length r
end
section
variable {P : Program} {w : World} {H : Hp} {h : Heap} {a : Addr}
end
def DGet (H : Hp) (a : Addr) (y : V) (r : Option V) : Prop :=
  (∃ kvs k, Rd H a (.dK kvs) ∧ y = kV k ∧ r = valV kvs k) ∨ ∃ kvs k b, Rd H a (.dT kvs) ∧ y = .ref b ∧ H b = some (.tup (k.map kV)) ∧ r = valV kvs k
def DPut (H : Hp) (a : Addr) (y v : V) (H' : Hp) : Prop :=
  (∃ kvs k, H a = some (.dK kvs) ∧ y = kV k ∧ kvs.length < sizeLine ∧ H' = upd H a (.dK (putK kvs k v))) ∨
  ∃ kvs k b, H a = some (.dT kvs) ∧ y = .ref b ∧ H b = some (.tup (k.map kV)) ∧ kvs.length < sizeLine ∧ H' = upd H a (.dT (putK kvs k v))
theorem DGet.k {H : Hp} {a : Addr} {kvs : List (Key × V)} {k : Key} (e : H a = some (.dK kvs)) : DGet H a (kV k) (valV kvs k) := .inl ⟨kvs, k, .inl e, rfl, rfl⟩
theorem DGet.t {H : Hp} {a b : Addr} {kvs : List (List Key × V)} {k : List Key} (e : H a = some (.dT kvs)) (eb : H b = some (.tup (k.map kV))) : DGet H a (.ref b) (valV kvs k) := .inr ⟨kvs, k, b, .inl e, rfl, eb, rfl⟩
theorem DPut.k {H : Hp} {a : Addr} {kvs : List (Key × V)} {k : Key} {v : V} (e : H a = some (.dK kvs)) (hl : kvs.length < sizeLine) : DPut H a (kV k) v (upd H a (.dK (putK kvs k v))) := .inl ⟨kvs, k, e, rfl, hl, rfl⟩
theorem DPut.t {H : Hp} {a b : Addr} {kvs : List (List Key × V)} {k : List Key} {v : V} (e : H a = some (.dT kvs)) (eb : H b = some (.tup (k.map kV))) (hl : kvs.length < sizeLine) :
    DPut H a (.ref b) v (upd H a (.dT (putK kvs k v))) := .inr ⟨kvs, k, b, e, rfl, eb, hl, rfl⟩
section
variable {X : Cx} {pins : List (Addr × Obj)} {σ : St} {H : Hp} {s : Shared} {a : Addr} {y v : V} {u r : Value} {o : Option V} {A : Around} {E : Value → Shared → Prop}
end
section
variable {X : Cx} {pins : List (Addr × Obj)} {σ : St} {H : Hp} {s : Shared} {a : Addr} {kvs : List (Key × V)} {k : Key} {u : Value} {A : Around} {E : Value → Shared → Prop}
end
section
variable {X : Cx} {o i e value : Expr} {pos pos' tpos : Pos} {td ty tv : TE}
end
section
variable {X : Cx} {pos : Pos}
end
section
variable {X : Cx} {pins : List (Addr × Obj)} {σ : St} {H : Hp} {s : Shared} {a : Addr} {y d : V} {u r : Value} {o : Option V} {A : Around} {E : Value → Shared → Prop}
end
section
variable {X : Cx} {o e f : Expr} {apos cpos : Pos} {td ty tx : TE}
end
section
variable {X : Cx} {pins : List (Addr × Obj)} {σ : St} {H : Hp} {s : Shared} {a : Addr} {kvs : List (Key × V)} {A : Around} {E : Value → Shared → Prop}
end
section
variable {X : Cx} {pins : List (Addr × Obj)} {σ : St} {H : Hp} {s : Shared} {a : Addr} {y : V} {u : Value} {A : Around} {E : Value → Shared → Prop}
end
end L2
namespace Att
open PySem PySem.W PySem.Calls PyProof.Rows
theorem ints_of_wellAll {P : Params} {h : Heap} : ∀ (ns : List Int) (vs : List Value), WellAll P h vs (ns.map WData.int) → IntsAre vs ns := by
  intro ns
  induction ns with
  | nil =>
    intro vs w
    rw [List.map_nil] at w
    cases w
    exact .nil
  | cons n ns ih =>
    intro vs w
    rw [List.map_cons] at w
    cases w with
    | cons a b =>
      cases a
      exact .cons _ _ (ih _ b)
theorem script_of {l : OpenLaw} {n : Nat} (hn : l.most = some n) {P : Params} {h : Heap} {args : List WData} {vals : List Value}
    (hpre : l.row.toRowW.claim.pre args = true) (hwl : WellAll P h vals args) :
    ∃ a vs ns, vals = [Value.ref a] ∧ args = [WData.list (ns.map WData.int)] ∧ h.get? a = some { cls := .type "list", data := .seq vs.toArray } ∧ IntsAre vs ns ∧ ns.length ≤ n := by
  have hsh : WShape.hasAll [] args [.list .int] = true := (pre_splitW hpre).1
  have hc : l.pre.holds [] { args := args } = true := (pre_splitW hpre).2
  obtain ⟨d, r, rfl, h1, h2⟩ := hasAllW_cons hsh
  obtain rfl := hasAllW_nil h2
  obtain ⟨xs, rfl, h3⟩ := hasW_list h1
  obtain ⟨ns, rfl⟩ := items_int h3
  have hlen : ns.length ≤ n := by
    unfold OpenLaw.pre at hc
    have h4 : (WTm.not (.lt (.lit (.int (n : Int))) (.len (.arg 0)))).holds [] { args := [.list (ns.map .int)] } = true := by
      have h4 := (holds_andW hc).1
      rw [hn] at h4
      exact h4
    have h5 := condW_of h4 (w_not (w_lt w_lit (w_len_list (w_arg rfl))))
    rw [List.length_map] at h5
    refine Nat.le_of_not_lt fun q => ?_
    have q' : (n : Int) < ((ns.length : Nat) : Int) := by omega
    first
      | (rw [decide_eq_true q'] at h5; exact absurd h5 (by decide))
      | (simp at h5; omega)
  cases hwl with
  | cons w1 w2 =>
    cases w2
    cases w1 with
    | list ho hall => exact ⟨_, _, ns, rfl, rfl, ho, ints_of_wellAll ns _ hall, hlen⟩
theorem post_true (l : OpenLaw) (args : List WData) : l.row.toRowW.claim.post args (.bool true) args = true :=
  postW_of (r := l.row.toRowW) (X := (true == true))
    (show WShape.has [] (.bool true) .bool = true by first | rfl | decide | simp [WShape.has, WShape.arms, WShape.armsAll])
    (show (WTm.eq .res (.lit (.bool true))).value [] { args := args, res := some (.bool true), after := args } = some (.bool (true == true)) from w_eq_bool (w_res rfl) w_lit) rfl
theorem attach_call {l : OpenLaw} {n : Nat} {q : Program} {loose : List Str} {XP : (Str → Option Value) → Heap → Prop} {YP : World → Heap → Prop} {d : DefRec}
    (hn : l.most = some n) (hdf : d.params.defaults = [])
    (call : ∀ (w : World) (s₀ s₁ : Shared) (mg mb : Str → Option Value) (fa : Addr) (o : Obj) (pm cd doc : Value) (a : Addr) (vs : List Value) (ns : List Int),
      Ground q loose [] XP w s₀ mg mb s₁.heap → YP w s₁.heap →
      s₁.heap.get? fa = some o → o.data = .func (docDef d.name d.params d.body d.scope pm cd doc) → s₁.heap.CodeRec cd d.name → mg d.name = some (.ref fa) →
      s₁.heap.get? a = some { cls := .type "list", data := .seq vs.toArray } → IntsAre vs ns → ns.length ≤ n → s₁.gens = #[] →
      codeAny (model l.prog w) callerA (.call (.ref fa) ⟨[.ref a], []⟩) (fun r s' => r = .ok (.ret (.bool true)) ∧ OldK s₁.heap s'.heap ∧ s'.os = s₁.os ∧ AllBare s'.gens) s₁) :
    WalkO q loose XP YP l.row.toRowW d [] (fun f vs => PySem.call f vs) := by
  intro w s₀ s₁ mg mb G Y fa o pm cd doc dV kV ho hd hcd hD hmg hg args vals as hpre hlay hrd hwl hlo
  obtain rfl : dV = .none := Dflts.none hD hdf
  obtain rfl : kV = .none := Dflts.noKw hD
  obtain ⟨a, vs, ns, rfl, rfl, hobj, hints, hlen⟩ := script_of hn hpre hwl
  refine enter_call (codeAny_mono (call w s₀ s₁ mg mb fa o pm cd doc a vs ns G Y ho (fd_plain hd) hcd hmg hobj hints hlen hg) fun r s' hq => ?_)
  obtain ⟨rfl, h2, h3, h4⟩ := hq
  exact ⟨.inl ⟨.bool true, .bool true, [], rfl, fun _ => rfl, .bool true, post_true l _, fun _ => ⟨List.Pairwise.nil, fun _ hm => (nomatch hm)⟩⟩, h2, h3, h4⟩
section
variable {prog : Program} {w : World} {A : Around} {E : Value → Shared → Prop} {s : Shared} {K : Frag}
end
end Att
namespace L2
open PySem PySem.Spec PyProof.Rows
theorem vals_ints : ∀ {vs : List Value} {ns : List Int}, IntsAre vs ns → Vals (ns.map V.int) vs
  | _, _, .nil => .nil
  | _, _, .cons n t h => .cons ⟨t, rfl⟩ (vals_ints h)
def Only (H : Hp) : Prop := ∀ b, H b = none ∨ ∃ o xs, H b = some (.frz o (.lst xs))
theorem law_call {P : Program} {w : World} {K : PySem.W.Frag} {mg mb : Str → Option Value} {CX : CXT} {k : Nat} {fa a : Addr} {fd : FuncData} {x : Str} {sp : Sp} {s₁ : Shared} {vs : List Value} {ns : List Int}
    (KX : K.In s₁.heap) (hns : s₁.heap.Ns mainGlobals mg) (hb : s₁.heap.Ns builtinsNs mb) (hbb : ∀ x : Str, x ≠ "__name__" → mb x = bootBuiltins x) (hlim : s₁.heap.NoLimit) (hg : s₁.gens = #[])
    (ha : s₁.heap.get? a = some { cls := .type "list", data := .seq vs.toArray }) (hi : IntsAre vs ns) (hl : ns.length ≤ sizeLine) (hr : Room k callerA)
    (F : ∀ base : Heap, K.In base → base.Ns mainGlobals mg → FnOk P w K mg base CX k fa fd [x] sp) (hbind : ∀ (s : Shared) (u : Value), BindsTo s fd ⟨[u], []⟩ [(x, u)])
    (hsp : ∀ H : Hp, Only H → SqL K H a (ns.map V.int) → sp [.ref a] H (fun v _ => v = .bl true) fun _ _ _ => False)
    (hCX : ∀ H e s', CX [] H s₁ (fun _ _ _ => False) e s' → False) :
    codeAny (model P w) callerA (.call (.ref fa) ⟨[.ref a], []⟩) (fun r s' => r = .ok (.ret (.bool true)) ∧ OldK s₁.heap s'.heap ∧ s'.os = s₁.os ∧ AllBare s'.gens) s₁ := by
  have rv := vals_ints hi
  have lenV := hi.length
  have core : ∀ H : Hp, Only H → SqL K H a (ns.map V.int) → HOk P w H s₁.heap → (∀ b, H b ≠ none → b = a) → (H a ≠ none → K.lookup a = none) →
      codeAny (model P w) callerA (.call (.ref fa) ⟨[.ref a], []⟩) (fun r s' => r = .ok (.ret (.bool true)) ∧ OldK s₁.heap s'.heap ∧ s'.os = s₁.os ∧ AllBare s'.gens) s₁ := by
    intro H hO hS hok hA hK
    have base_of : ∀ {b : Addr} {o : Obj}, s₁.heap.get? b = some o → H b = none → (hidT s₁.heap H).get? b = some o := fun e n => hidT_get e n
    have noA : ∀ {b : Addr} {o : Obj} {es : Array DictEntry} {ep : Nat}, s₁.heap.get? b = some o → o.data = .dict es ep → H b = none := fun {b o es ep} e d => by
      cases q : H b with
      | none => rfl
      | some u =>
        have e' : b = a := hA b (by rw [q]; simp)
        subst e'
        rw [ha] at e; cases e
        have d' : Data.seq vs.toArray _ = Data.dict es ep := d
        cases d'
    have nsK : ∀ {b : Addr} {m : Str → Option Value}, s₁.heap.Ns b m → (hidT s₁.heap H).Ns b m := fun {b m} ⟨o, es, ep, e, d, r⟩ => ⟨o, es, ep, base_of e (noA e d), d, r⟩
    have hKb : K.In (hidT s₁.heap H) := fun b o e => base_of (KX b o e) (by
      cases q : H b with
      | none => rfl
      | some u =>
        have e' : b = a := hA b (by rw [q]; simp)
        subst e'
        rw [hK (by rw [q]; simp)] at e; cases e)
    have hM : Mod K mg (hidT s₁.heap H) := ⟨hKb, nsK hns, ⟨mb, nsK hb, hbb⟩, let ⟨mc, h1, h2⟩ := hlim; ⟨mc, nsK h1, h2⟩⟩
    have e0 : Env0 P w K mg (hidT s₁.heap H) callerA [] s₁ H := ⟨rfl, hM, fun b o e => of_hidT e, Nat.le_of_eq (hidT_size _ _), trivial, fun b hb => absurd (show b ∈ ([] : List Addr) from hb) (by simp), hok, .of_eq hg⟩
    refine codeAny_mono ((F _ hKb (nsK hns)).run callerA [] s₁ H ⟨[.ref a], []⟩ [.ref a] [.ref a] _ _ hr e0 (hbind s₁ (.ref a)) (.cons rfl .nil) (hsp H hO hS)) fun r s' h => ?_
    cases r with
    | error e => exact (hCX H e s' h).elim
    | ok fl =>
      cases fl with
      | next => exact False.elim h
      | brk => exact False.elim h
      | cont => exact False.elim h
      | ret u =>
        obtain ⟨v, H', os, bare, un, hok', r', q⟩ := h
        have q' : v = .bl true := q
        subst q'
        obtain rfl : u = Value.bool true := r'
        refine ⟨rfl, OldK.of_keep fun b o e => ?_, os, bare⟩
        cases q : H b with
        | none => exact un.keep b o e q (by intro z; exact absurd (show b ∈ ([] : List Addr) from z) (by simp)) (by simp)
        | some u =>
          rcases hO b with z | ⟨ob, xs, z⟩
          · rw [q] at z; cases z
          · have z2 := un.frzs b ob _ z
            obtain ⟨e1, _⟩ := hok b _ z
            obtain ⟨e2, _⟩ := hok' b _ z2
            rw [e] at e1; cases e1
            exact e2
  cases hk : K.lookup a with
  | some o =>
    have e := KX a o hk
    rw [ha] at e
    cases e
    refine core (fun _ => none) (fun _ => .inl rfl) (.inr ⟨_, vs.toArray, _, hk, rfl, rfl, rfl, by rw [List.size_toArray, lenV]; exact hl, by simpa using rv⟩) (fun b u z => by have z' : (none : Option HO) = some u := z; cases z') (fun b z => absurd rfl z) fun z => absurd rfl z
  | none =>
    refine core (fun b => if b = a then some (.frz { cls := .type "list", data := .seq vs.toArray } (.lst (ns.map V.int))) else none) (fun b => ?_) (.inl (.inr ⟨{ cls := .type "list", data := .seq vs.toArray }, if_pos rfl⟩)) (fun b u z => ?_) (fun b z => ?_) fun _ => hk
    · by_cases hb : b = a
      · exact .inr ⟨_, _, if_pos hb⟩
      · exact .inl (if_neg hb)
    · by_cases hb : b = a
      · have z' := (if_pos hb).symm.trans z
        cases z'
        subst hb
        exact ⟨ha, by rw [List.length_map]; exact hl, vs, _, rv, ha⟩
      · have z' := (if_neg hb).symm.trans z
        cases z'
    · by_cases hb : b = a
      · exact hb
      · exact absurd (if_neg hb) z
end L2
namespace L2
open PySem PySem.Spec PyProof.Rows
theorem walk_of {l : PySem.W.OpenLaw} {n k : Nat} {q : Program} {loose : List Str} {XP : (Str → Option Value) → Heap → Prop} {YP : World → Heap → Prop} {d : DefRec} {K : Params → PySem.W.Frag} {CX : World → CXT} {sp : World → Sp} {x : Str}
    (hn : l.most = some n) (hn2 : n ≤ sizeLine) (hdf : d.params.defaults = []) (hr : Room k callerA)
    (hY : ∀ (w : World) (h : Heap), YP w h → (K w.params).In h)
    (F : ∀ (w : World) (mg : Str → Option Value) (fa : Addr) (h : Heap), (K w.params).In h → h.Ns mainGlobals mg → mg d.name = some (.ref fa) →
      ∃ fd : FuncData, (∀ (s : Shared) (u : Value), BindsTo s fd ⟨[u], []⟩ [(x, u)]) ∧
        ∀ base : Heap, (K w.params).In base → base.Ns mainGlobals mg → FnOk l.prog w (K w.params) mg base (CX w) k fa fd [x] (sp w))
    (hsp : ∀ (w : World) (H : Hp) (a : Addr) (ns : List Int), ns.length ≤ n → Only H → SqL (K w.params) H a (ns.map V.int) → sp w [.ref a] H (fun v _ => v = .bl true) fun _ _ _ => False)
    (hCX : ∀ (w : World) (H : Hp) (s : Shared) (e : Value) (s' : Shared), CX w [] H s (fun _ _ _ => False) e s' → False) :
    PySem.W.WalkO q loose XP YP l.row.toRowW d [] (fun f vs => PySem.call f vs) := by
  refine Att.attach_call hn hdf fun w s₀ s₁ mg mb fa o pm cd doc a vs ns G Y ho hd hcd hmg hobj hints hlen hg => ?_
  have KX := hY w _ Y
  obtain ⟨fd, hb, hF⟩ := F w mg fa _ KX G.T.g hmg
  exact law_call KX G.T.g G.T.b G.T.builtins G.T.nolimit hg hobj hints (Nat.le_trans hlen hn2) hr hF hb (fun H hO hS => hsp w H a ns hlen hO hS) fun H e s' => hCX w H s₁ e s'
end L2
namespace L2
open PySem PySem.Spec PyProof.Rows
def defArgs (s : Stmt) : Arguments := match s with
  | .FunctionDef _ a _ _ _ _ _ _ _ _ => a
  | _ => { posonlyargs := [], args := [], vararg := none, kwonlyargs := [], kw_defaults := [], kwarg := none, defaults := [] }
def defBody (s : Stmt) : List Stmt := match s with
  | .FunctionDef _ _ b _ _ _ _ _ _ _ => b
  | _ => []
def defScope (s : Stmt) : Scope := match s with
  | .FunctionDef _ _ _ _ _ _ sc _ _ _ => sc
  | _ => { kind := .function, names := [], isGenerator := false, isCoroutine := false }
abbrev CX0 : CXT := fun _ _ _ _ _ _ => False
abbrev E0 : XK := fun _ _ _ => False
theorem pass0 {X : Cx} : Passes CX0 X E0 := fun _ _ _ _ _ _ _ h => h.elim
structure Fun (K : PySem.W.Frag) (x qual : Str) (st : Stmt) (f : Addr) (fd : FuncData) : Prop where
  ex : ∃ (oc : Value) (od : Option Addr) (kV doc pm : Value) (an : Option Addr) (cdv ct : Value) (osl : Array (Option Value)),
    fd = PySem.W.fnOf x qual (defArgs st) (defBody st) (defScope st) .none kV doc pm an cdv ct ∧ K.lookup f = some ⟨oc, od, .func fd, osl⟩ ∧ PySem.W.codeIn K cdv qual = true
  kp : PySem.W.keepIn K (.ref f) = true
section
variable {P : Program} {w : World} {K : PySem.W.Frag} {mg : Str → Option Value} {base : Heap}
theorem Fun.ok {x qual : Str} {st : Stmt} {f : Addr} {fd : FuncData} {N ps : List Str} {k : Nat} {sp : Sp} (F : Fun K x qual st f fd) (S : FnScope N ps (defScope st)) (len : ∀ vs H Q E, sp vs H Q E → vs.length = ps.length)
    (hbody : ∀ (cdv : Value) (A : Around) (outer : List Env) (s : Shared) (H : Hp) (vs : List V) (Q : VK) (E : XK), Room k (A.deeper (envOfC qual (defScope st) s.heap.objs.size f cdv)) → sp vs H Q E →
      ∃ t, PSs (cxOf CX0 P w K mg base N qual (defScope st) f cdv A outer s H E).nox (defBody st) t ∧ t { nx := fun _ H' => Q .non H', rt := Q } (start N vs) H) : FnOk P w K mg base CX0 (k + 1) f fd ps sp := by
  obtain ⟨oc, od, kV, doc, pm, an, cdv, ct, osl, rfl, lk, hcd⟩ := F.ex
  refine fn_of lk hcd S len fun A outer s H vs Q E hr hsp => ?_
  obtain ⟨t, h, q⟩ := hbody cdv A outer s H vs Q E hr hsp
  exact ⟨t, h.nox, q⟩
theorem Fun.binds {x qual : Str} {st : Stmt} {f : Addr} {fd : FuncData} {ps : List Str} (F : Fun K x qual st f fd)
    (h : ∀ (kV doc pm : Value) (an : Option Addr) (cdv ct : Value) (us : List Value), us.length = ps.length → bindArgs (PySem.W.fnOf x qual (defArgs st) (defBody st) (defScope st) .none kV doc pm an cdv ct) ⟨us, []⟩ = pure (ps.zip us)) : Binds K fd ps [] := by
  obtain ⟨oc, od, kV, doc, pm, an, cdv, ct, osl, rfl, lk, hcd⟩ := F.ex
  exact .all (h kV doc pm an cdv ct)
theorem fun_mk {x qual : Str} {st : Stmt} {f : Addr} {oc : Value} {od an : Option Addr} {osl : Array (Option Value)} {kV doc pm cdv ct : Value} (l : K.lookup f = some ⟨oc, od, .func (PySem.W.fnOf x qual (defArgs st) (defBody st) (defScope st) .none kV doc pm an cdv ct), osl⟩)
    (c : PySem.W.codeIn K cdv qual = true) (k : PySem.W.keepIn K (.ref f) = true) : Fun K x qual st f (PySem.W.fnOf x qual (defArgs st) (defBody st) (defScope st) .none kV doc pm an cdv ct) := ⟨⟨oc, od, kV, doc, pm, an, cdv, ct, osl, rfl, l, c⟩, k⟩
end
section
variable {X : Cx}
theorem pv (i : Nat) {x : Str} {pos : Pos} (hN : X.N[i]? = some x := by rfl) (hv : Vis X.env.scope x := by first | exact Or.inl rfl | exact Or.inr (Or.inl rfl) | exact Or.inr (Or.inr rfl)) (hd : (x == ("__debug__" : Str)) = false := by decide)
    (hcd : (x == ("__classdict__" : Str)) = false := by decide) : PE X (.Name x pos) (tVar i) := pe_var hN hv hd hcd
end
def Same (H H' : Hp) : Prop := ∀ b o, H b = some o → H' b = some o
theorem Same.free {H H' : Hp} (e : Same H H') {l : Addr} (h : H' l = Option.none) : H l = Option.none := by
  cases q : H l with
  | none => rfl
  | some o =>
    rw [e l o q] at h
    cases h
theorem Same.seq {K : PySem.W.Frag} {H H' : Hp} {a : Addr} {xs : List V} (e : Same H H') (h : SqL K H a xs) : SqL K H' a xs := by
  rcases h with (h | ⟨o, h⟩) | h
  · exact .inl (.inl (e _ _ h))
  · exact .inl (.inr ⟨o, e _ _ h⟩)
  · exact .inr h
section
variable {κ : Type} [DecidableEq κ]
end
end L2
set_option maxHeartbeats 4000000
namespace L2
open PySem PySem.Spec PyProof.Rows
def drawnIn (cells : List (Str × Addr)) : List (Str × NameKind) → List (Str × Addr) → List (Str × Addr)
  | [], cs => cs
  | (n, k) :: r, cs => drawnIn cells r (if (k == NameKind.free) = true then (n, (cells.lookup n).getD 0) :: cs else cs)
theorem closure_drawn {env : Env} {scope : Scope} (h : ∀ x ∈ scope.names, x.2 = NameKind.free → (env.cells.lookup x.1).isSome = true) :
    closureFor scope env = pure (drawnIn env.cells scope.names []) := by
  have gen : ∀ (l : List (Str × NameKind)) (cs : List (Str × Addr)), (∀ x ∈ l, x.2 = NameKind.free → (env.cells.lookup x.1).isSome = true) →
      (forIn l cs fun (x : Str × NameKind) (r : List (Str × Addr)) => if (x.2 == NameKind.free) = true then (do let c ← cellOf env x.1; pure (ForInStep.yield ((x.1, c) :: r))) else pure (ForInStep.yield r)) = (pure (drawnIn env.cells l cs) : Sem _) := by
    intro l
    induction l with
    | nil => intro cs _; rfl
    | cons x r ih =>
      intro cs hx
      obtain ⟨n, k⟩ := x
      rw [List.forIn_cons]
      by_cases hk : (k == NameKind.free) = true
      · have hs := hx (n, k) List.mem_cons_self (by simpa using hk)
        obtain ⟨c, hc⟩ := Option.isSome_iff_exists.mp hs
        have e1 : cellOf env n = pure c := by unfold cellOf; rw [show env.cells.lookup n = some c from hc]
        simp only [hk, if_true, e1, pure_bind]
        rw [ih _ fun y hy => hx y (List.mem_cons_of_mem _ hy)]
        simp only [drawnIn, hk, if_true]
        rw [show env.cells.lookup n = some c from hc]
        rfl
      · simp only [hk, if_false, pure_bind, Bool.false_eq_true]
        rw [ih _ fun y hy => hx y (List.mem_cons_of_mem _ hy)]
        simp only [drawnIn, hk, if_false, Bool.false_eq_true]
  have := gen scope.names [] h
  unfold closureFor
  refine Eq.trans ?_ (Eq.trans (congrArg (fun m => m >>= fun cs => pure cs) this) (by simp))
  simp
theorem drawnIn_some (cells : List (Str × Addr)) (x : Str) (c : Addr) : ∀ (l : List (Str × NameKind)) (cs : List (Str × Addr)), (∀ y ∈ l, y.2 = NameKind.free → (cells.lookup y.1).isSome = true) →
    (∀ c, cs.lookup x = some c → cells.lookup x = some c) → (drawnIn cells l cs).lookup x = some c → cells.lookup x = some c
  | [], cs, _, h, e => h c e
  | (n, k) :: r, cs, hf, h, e => by
    refine drawnIn_some cells x c r _ (fun y hy => hf y (List.mem_cons_of_mem _ hy)) (fun c' e' => ?_) e
    by_cases hk : (k == NameKind.free) = true
    · rw [if_pos hk, List.lookup_cons] at e'
      by_cases hx : (x == n) = true
      · rw [hx] at e'
        have hn : x = n := by simpa using hx
        subst hn
        obtain ⟨c2, hc2⟩ := Option.isSome_iff_exists.mp (hf (x, k) List.mem_cons_self (by simpa using hk))
        have hc2' : cells.lookup x = some c2 := hc2
        rw [hc2'] at e' ⊢
        simpa using e'
      · simp only [hx] at e'
        exact h c' e'
    · rw [if_neg hk] at e'
      exact h c' e'
theorem drawnIn_keep (cells : List (Str × Addr)) (x : Str) : ∀ (l : List (Str × NameKind)) (cs : List (Str × Addr)), (cs.lookup x).isSome = true → ((drawnIn cells l cs).lookup x).isSome = true
  | [], _, h => h
  | (n, k) :: r, cs, h => by
    refine drawnIn_keep cells x r _ ?_
    by_cases hk : (k == NameKind.free) = true
    · rw [if_pos hk, List.lookup_cons]
      by_cases hx : (x == n) = true
      · rw [hx]; rfl
      · simp only [hx]; exact h
    · rw [if_neg hk]; exact h
theorem drawnIn_has (cells : List (Str × Addr)) (x : Str) : ∀ (l : List (Str × NameKind)) (cs : List (Str × Addr)), (x, NameKind.free) ∈ l → ((drawnIn cells l cs).lookup x).isSome = true
  | (n, k) :: r, cs, h => by
    rcases List.mem_cons.mp h with e | h
    · cases e
      refine drawnIn_keep cells x r _ ?_
      rw [if_pos (by rfl), List.lookup_cons]
      simp
    · exact drawnIn_has cells x r _ h
def cxComp (X : Cx) (scope : Scope) (N' : List Str) (C : Addr) (s : Shared) (H : Hp) (fp : List Addr) : Cx where
  prog := X.prog
  w := X.w
  K := X.K
  mg := X.mg
  base := X.base
  A := X.A
  N := N'
  s₀ := s
  H₀ := H
  env := compEnvC scope (drawnIn X.env.cells scope.names []) C X.env
  outer := X.stack
  stack := X.stack
  ex := fp
  fn := fun _ => false
  calm := X.calm
  pn := []
  xe := fun _ _ => False
def startC (src : List (Option Nat)) (σ : St) : St := src.map fun o => match o with
  | some j => (σ[j]?).join
  | none => none
structure CompScope (X : Cx) (scope : Scope) (N' : List Str) (src : List (Option Nat)) : Prop where
  kind : scope.kind = .function
  nocell : ∀ y ∈ scope.names, y.2 ≠ .cell
  names : ∀ y ∈ scope.names, y.2 = .local → scope.names.lookup y.1 = some .local
  free : ∀ y ∈ scope.names, y.2 = .free → X.env.kindOf y.1 = some .cell ∨ X.env.kindOf y.1 = some .free
  len : src.length = N'.length
  src : ∀ (i j : Nat) (x : Str), src[i]? = some (some j) → N'[i]? = some x → X.N[j]? = some x ∧ (X.env.kindOf x = some .cell ∨ X.env.kindOf x = some .free) ∧ scope.names.lookup x = some .free
theorem relabel_free {env : Env} {x : Str} : ∀ {names : List (Str × NameKind)}, names.lookup x = some .free →
    (names.map fun (n, k) => if (k == NameKind.free && env.scope.kind == .function && env.kindOf n == some .cell) then (n, NameKind.cell) else (n, k)).lookup x = some .cell ∨
    (names.map fun (n, k) => if (k == NameKind.free && env.scope.kind == .function && env.kindOf n == some .cell) then (n, NameKind.cell) else (n, k)).lookup x = some .free
  | [], h => by simp at h
  | (n, k) :: r, h => by
    have ih := @relabel_free env x r
    rw [List.map_cons]
    by_cases hx : (x == n) = true
    · simp only [List.lookup_cons, hx] at h
      have hk : k = .free := by simpa using h
      subst hk
      by_cases hc : (NameKind.free == NameKind.free && env.scope.kind == .function && env.kindOf n == some .cell) = true
      · left; simp only [hc, if_true, List.lookup_cons, hx]
      · right; simp only [hc, if_false, List.lookup_cons, hx, Bool.false_eq_true]
    · simp only [List.lookup_cons, hx] at h
      by_cases hc : (k == NameKind.free && env.scope.kind == .function && env.kindOf n == some .cell) = true
      · simp only [hc, if_true, List.lookup_cons, hx]; exact ih h
      · simp only [hc, if_false, List.lookup_cons, hx, Bool.false_eq_true]; exact ih h
theorem mem_of_relabel {env : Env} {x : Str} {k : NameKind} : ∀ {names : List (Str × NameKind)}, (names.map fun (n, k) => if (k == NameKind.free && env.scope.kind == .function && env.kindOf n == some .cell) then (n, NameKind.cell) else (n, k)).lookup x = some k →
    (k = .cell → (∀ y ∈ names, y.2 ≠ .cell) → (x, NameKind.free) ∈ names) ∧ (k = .free → (x, NameKind.free) ∈ names)
  | [], h => by simp at h
  | (n, k0) :: r, h => by
    have ih := @mem_of_relabel env x k r
    rw [List.map_cons] at h
    by_cases hc : (k0 == NameKind.free && env.scope.kind == .function && env.kindOf n == some .cell) = true
    · simp only [hc, if_true, List.lookup_cons] at h
      have hk0 : k0 = .free := by
        simp only [Bool.and_eq_true] at hc
        simpa using hc.1.1
      subst hk0
      by_cases hx : (x == n) = true
      · have : x = n := by simpa using hx
        subst this
        exact ⟨fun _ _ => List.mem_cons_self, fun _ => List.mem_cons_self⟩
      · simp only [hx] at h
        obtain ⟨a, b⟩ := ih h
        exact ⟨fun e z => List.mem_cons_of_mem _ (a e fun y hy => z y (List.mem_cons_of_mem _ hy)), fun e => List.mem_cons_of_mem _ (b e)⟩
    · simp only [hc, if_false, List.lookup_cons, Bool.false_eq_true] at h
      by_cases hx : (x == n) = true
      · have : x = n := by simpa using hx
        subst this
        simp only [hx] at h
        have hk : k0 = k := by simpa using h
        subst hk
        exact ⟨fun e z => absurd e (z (x, k0) List.mem_cons_self), fun e => by rw [e]; exact List.mem_cons_self⟩
      · simp only [hx] at h
        obtain ⟨a, b⟩ := ih h
        exact ⟨fun e z => List.mem_cons_of_mem _ (a e fun y hy => z y (List.mem_cons_of_mem _ hy)), fun e => List.mem_cons_of_mem _ (b e)⟩
section
variable {X : Cx} {scope : Scope} {N' : List Str} {src : List (Option Nat)} {pins : List (Addr × Obj)} {σ : St} {H : Hp} {s : Shared} {fp : List Addr} {C : Addr}
theorem CompScope.isFree (S : CompScope X scope N' src) (ok : X.Ok) : ∀ y ∈ scope.names, y.2 = NameKind.free → (X.env.cells.lookup y.1).isSome = true := fun y hy e => by
  obtain ⟨c, hc⟩ := ok.has y.1 (S.free y hy e)
  rw [hc]; rfl
theorem CompScope.cell (S : CompScope X scope N' src) (ok : X.Ok) {x : Str} {c : Addr} (h : (drawnIn X.env.cells scope.names []).lookup x = some c) : X.env.cells.lookup x = some c :=
  drawnIn_some X.env.cells x c scope.names [] (S.isFree ok) (fun _ e => by simp at e) h
theorem inv_comp (S : CompScope X scope N' src) (I : Inv X pins σ H s) (hfp : ∀ b ∈ fp, FpOk X pins H b) (hob : ∀ b ∈ fp, ∃ o, s.heap.get? b = some o) (hC : s.heap.objs.size ≤ C) {h1 : Heap} {tk : Nat} {m : Str → Option Value}
    (hk : ∀ b o, s.heap.get? b = some o → h1.get? b = some o) (hns : h1.Ns C m) : Inv (cxComp X scope N' C s H fp) [] (startC src σ) H { s with heap := h1, toks := tk } := by
  have cellOk : ∀ x c, (drawnIn X.env.cells scope.names []).lookup x = some c → X.env.cells.lookup x = some c := fun x c h => S.cell I.ok h
  refine ⟨⟨I.ok.mod, ?_, I.ok.glob, I.ok.blt, hC, ?_, ?_, ?_, I.ok.hd, I.ok.frames, .inl rfl, ?_, ?_, ?_, ?_, ?_, I.stack, I.stkFree⟩, rfl, I.bare, Un.kept hk, ?_, ?_, ?_, ?_, ?_, I.hok.kept hk, ?_⟩
  · exact S.kind
  · intro x y c hx hy
    exact I.ok.inj x y c (cellOk x c hx) (cellOk y c hy)
  · intro x hx
    have hm : (x, NameKind.free) ∈ scope.names := by
      rcases hx with hx | hx
      · exact (mem_of_relabel (env := X.env) (names := scope.names) hx).1 rfl S.nocell
      · exact (mem_of_relabel (env := X.env) (names := scope.names) hx).2 rfl
    exact Option.isSome_iff_exists.mp (drawnIn_has X.env.cells x scope.names [] hm)
  · intro x c hf _
    exact nomatch hf
  · intro b hb
    obtain ⟨o, ho⟩ := hob b hb
    refine ⟨Nat.ne_of_lt (Nat.lt_of_lt_of_le (Heap.lt_size ho) hC), fun x c hc => ?_⟩
    exact (hfp b hb).2.2.2.2.1 x c (cellOk x c hc)
  · exact I.bs
  · exact Nat.le_trans I.ok.bsz I.sz
  · intro b o e hb
    rcases (hfp b hb).2.2.2.1 with z | z
    · exact I.ok.noex b o e z
    · exact absurd (Nat.lt_of_lt_of_le (Heap.lt_size e) (Nat.le_trans I.ok.bsz z)) (Nat.lt_irrefl _)
  · intro b hb hf
    rcases List.mem_cons.mp (I.stkSub b hf) with z | z
    · exact (hfp b hb).2.1 z
    · exact (hfp b hb).2.2.1 z
  · refine ⟨m, hns, fun i x v e1 e2 e3 => ?_⟩
    have e2' : ((src.map fun o => match o with | some j => (σ[j]?).join | none => none) : St)[i]? = some (some v) := e2
    rw [List.getElem?_map] at e2'
    cases hs : src[i]? with
    | none => rw [hs] at e2'; cases e2'
    | some o =>
      rw [hs] at e2'
      cases o with
      | none => simp at e2'
      | some j =>
        have ej : (σ[j]?).join = some v := by simpa using e2'
        have ej' : σ[j]? = some (some v) := by
          cases q : σ[j]? with
          | none => rw [q] at ej; cases ej
          | some z => rw [q] at ej; simp at ej; rw [ej]
        obtain ⟨hN, hkk, hlk⟩ := S.src i j x hs e1
        have hmem : (x, NameKind.free) ∈ scope.names := PySem.mem_of_lookup hlk
        obtain ⟨m0, _, hl⟩ := I.loc
        have vis : Vis X.env.scope x := by rcases hkk with k | k; exact .inr (.inl k); exact .inr (.inr k)
        obtain ⟨u, r, l⟩ := hl j x v hN ej' vis
        refine ⟨u, r, .inr ?_⟩
        rcases l with ⟨hk', _⟩ | ⟨_, c, hc, z⟩
        · rcases hkk with k | k <;> (rw [k] at hk'; cases hk')
        · obtain ⟨c', hc'⟩ := Option.isSome_iff_exists.mp (drawnIn_has X.env.cells x scope.names [] hmem)
          have hcc := cellOk x c' hc'
          rw [hc] at hcc; cases hcc
          obtain ⟨oc, ho, hd⟩ := z
          refine ⟨?_, c, hc', ⟨oc, hk _ _ ho, hd⟩⟩
          exact relabel_free (env := X.env) hlk
  · intro x c hc
    obtain ⟨v, o, ho, hd⟩ := I.cell x c (cellOk x c hc)
    exact ⟨v, o, hk _ _ ho, hd⟩
  · exact I.hok.fresh hC
  · intro x c hc
    exact I.freeC x c (cellOk x c hc)
  · intro p hp
    exact absurd (show p ∈ ([] : List (Addr × Obj)) from hp) (by simp)
  · show (src.map _).length = N'.length
    rw [List.length_map]; exact S.len
end
end L2
namespace L2
open PySem PySem.Spec PyProof.Rows
theorem codeAny_compLoop_gen {prog : Program} {w : World} {A : Around} {R : Result → Shared → Prop} {s : Shared} {elt target iter : Expr} {ifs : List Expr} {scope : Scope} {pos : Pos} {it acc : Value} {env : Env} (I : Nat → Shared → Prop)
    (turn : ∀ n s, I n s → wpAny (model prog w) A (pyNext it) (fun r s₁ => match r with
      | none => R (.ok .next) s₁
      | some v => wpAny (model prog w) A (letOwnedTupleGo target it v) (fun _ s₁' => wpAny (model prog w) A (assign target env v) (fun _ s₂ =>
          wpAny (model prog w) A (forIn ifs true fun c r => if r = true then do let ok ← isTrue c env (eval c env); pure (ForInStep.yield ok) else pure (ForInStep.yield r)) (fun ok s₃ =>
            if ok = true then wpAny (model prog w) A (eval elt env) (fun x s₄ =>
              wpAny (model prog w) A (call (.builtin "list.append") [acc, x]) (fun _ s₅ => ∃ m, m < n ∧ I m s₅) (fun _ _ => False) s₄) (fun _ _ => False) s₃
            else ∃ m, m < n ∧ I m s₃) (fun _ _ => False) s₂) (fun _ _ => False) s₁') (fun _ _ => False) s₁) (fun _ _ => False) s)
    (n : Nat) (h : I n s) : codeAny (model prog w) A (.compLoop (.ListComp elt [⟨target, iter, ifs, 0⟩] scope pos) 0 it acc env) R s := by
  refine codeAny_loop rfl I (fun n s hI => ?_) n h
  show wpAny _ A ((compTurn (.ListComp elt [⟨target, iter, ifs, 0⟩] scope pos) 0 it acc env).onRaise (fun x => do noteFrame x env; theTreesLotGoes x)) _ _ s
  refine wpAny_noted ?_
  rw [compTurn_list]
  refine wpAny_bind (wpAny_standAt (wpAny_bind (wpAny_mono (turn n s hI) (fun r s₁ h₁ => ?_) fun _ _ h' => h'.elim)))
  cases r with
  | none => exact wpAny_pure h₁
  | some v =>
    refine wpAny_bind (wpAny_mono h₁ (fun _ s₁' h₁' => ?_) fun _ _ h' => h'.elim)
    refine wpAny_bind (wpAny_mono h₁' (fun _ s₂ h₂ => wpAny_bind (wpAny_mono h₂ (fun ok s₃ h₃ => ?_) fun _ _ h' => h'.elim)) fun _ _ h' => h'.elim)
    cases ok with
    | false => exact wpAny_pure ⟨rfl, h₃⟩
    | true =>
      exact wpAny_bind (wpAny_bind (wpAny_mono h₃ (fun x s₄ h₄ => wpAny_bind (wpAny_mono h₄ (fun _ s₅ h₅ => wpAny_pure (wpAny_pure ⟨rfl, h₅⟩)) fun _ _ h' => h'.elim)) fun _ _ h' => h'.elim))
def PIfs (X : Cx) (ifs : List Expr) (t : TT) : Prop :=
  ∀ (pins : List (Addr × Obj)) (s : Shared) (σ : St) (H : Hp) (Q : Bool → Hp → Prop), Inv X pins σ H s → t σ H Q →
    wpAny (model X.prog X.w) X.A (forIn ifs true fun c r => if r = true then do let ok ← isTrue c X.env (eval c X.env); pure (ForInStep.yield ok) else pure (ForInStep.yield r)) (TP X pins σ Q) X.xe s
def tAll : TT := fun _ H Q => Q true H
theorem pifs_nil {X : Cx} : PIfs X [] tAll := fun _ _ _ H _ I h => wpAny_tests_nil ⟨H, I, h⟩
def CompW (J : It) (g : TG) (tif : TT) (te : TE) (Fin : List V → Hp → Prop) (W : Nat → Nat → List V → St → Hp → Prop) : Prop := ∀ i m ys τ H, W i m ys τ H →
  (J.stop i H ∧ ys.length ≤ sizeLine ∧ Fin ys H) ∨
  (J.go i H ∧ ys.length < sizeLine ∧ ∀ x H', J.yld i H x H' → g x τ H' fun τ2 H2 => tif τ2 H2 fun b H3 => if b = true then te τ2 H3 fun v H4 => ∃ m', m' < m ∧ W (i + 1) m' (ys ++ [v]) τ2 H4 else ∃ m', m' < m ∧ W (i + 1) m' ys τ2 H3)
theorem HOk.track {P : Program} {w : World} {H : Hp} {h : Heap} {a : Addr} {o : HO} (x : HOk P w H h) (hn : H a = none) (new : ObjOk P w (upd H a o) h a o) : HOk P w (upd H a o) h := fun b u e => by
  by_cases hb : b = a
  · subst hb; rw [upd_same] at e; cases e; exact new
  · rw [upd_ne hb] at e
    exact (x b u e).stay (fun c v _ q => q) (fun c q => by rw [upd_ne (ne_of_none q hn)]; exact q) fun c xs q => by rw [upd_ne (ne_of_none q hn)]; exact q
section
variable {X : Cx} {scope : Scope} {N' : List Str} {src : List (Option Nat)} {pins : List (Addr × Obj)} {σ τ : St} {H H' : Hp} {s s' : Shared} {fp : List Addr} {C D : Addr}
theorem comp_left {ys : List V} {its : List Value} {cap : Nat} (I : Inv X pins σ H s) (hfp : ∀ b ∈ fp, FpOk X pins H b) (J : Inv (cxComp X scope N' C s H fp) [] τ H' s') (hD : s.heap.objs.size ≤ D) (hn : H' D = none)
    (hv : Vals ys its) (hz : ys.length ≤ sizeLine) (e : s'.heap.get? D = some { cls := .type "list", data := .seq its.toArray cap }) : Inv X pins σ (upd H' D (.lst ys)) s' := by
  have nD : ∀ b o, s.heap.get? b = some o → b ≠ D := fun b o q => Nat.ne_of_lt (Nat.lt_of_lt_of_le (Heap.lt_size q) hD)
  have nH : ∀ b o, H b = some o → b ≠ D := fun b o q => Nat.ne_of_lt (Nat.lt_of_lt_of_le (I.hok.lt q) hD)
  have u := J.base
  have u' : Un (frs X.stack) fp H (upd H' D (.lst ys)) s.heap s'.heap := by
    refine ⟨u.keep, u.slot, fun b o q n hx => ?_, u.there, fun b xs q => ?_, fun b o z q => ?_, fun b ps q => ?_⟩
    · rw [upd_ne (nD b o q)]; exact u.free b o q n hx
    · rw [upd_ne (nH b _ q)]; exact u.tups b xs q
    · rw [upd_ne (nH b _ q)]; exact u.frzs b o z q
    · rw [upd_ne (nH b _ q)]; exact u.tbls b ps q
  refine I.call' (ch := fp) J.os u' (J.hok.track hn ⟨hz, its, cap, hv, e⟩) J.bare fun b hb => ?_
  obtain ⟨_, h2, _, h4, h5, h6⟩ := hfp b hb
  exact ⟨h4, h2, h5, h6⟩
theorem comp_letgo {H1 : Hp} {h' : Heap} (I : Inv X pins σ H s) (J : Inv X pins τ H1 s') (hC : s.heap.objs.size ≤ C) (hn : H1 C = none) (hs : Heap.SameBut C s'.heap h') : Inv X pins τ H1 { s' with heap := h' } := by
  have f : FpOk X pins H1 C := I.fpOk hC hn
  exact J.turned (t' := s'.toks) (fun b o hb q => (hs.2 b hb).trans q) hn f.2.1 f.2.2.2.1 f.2.2.2.2.1 f.2.2.2.2.2
end
section
variable {X : Cx} {scope : Scope} {N' : List Str} {src : List (Option Nat)} {elt target iter : Expr} {ifs : List Expr} {pos : Pos} {g : TG} {tif : TT} {te : TE}
theorem comp_block {pins : List (Addr × Obj)} {σ : St} {H2 : Hp} {s₂ : Shared} {it : Addr} {fp : List Addr} {tn : Nat → Heap → Prop} {J : It} {Fin : List V → Hp → Prop} {W : Nat → Nat → List V → St → Hp → Prop} {RR : Value → Addr → Result → Shared → Prop} {E : Value → Shared → Prop}
    (S : CompScope X scope N' src) (hc : X.calm = true) (hg : ∀ C s H fp, PG (cxComp X scope N' C s H fp) target g) (hif : ∀ C s H fp, PIfs (cxComp X scope N' C s H fp) ifs tif) (he : ∀ C s H fp, PE (cxComp X scope N' C s H fp) elt te)
    (I2 : Inv X pins σ H2 s₂) (T : Turn X.prog X.w X.K target J fp it tn) (st : tn 0 s₂.heap) (hfp : ∀ b ∈ fp, FpOk X pins H2 b) (w0 : ∃ m, W 0 m [] (startC src σ) H2) (hW : CompW J g tif te Fin W)
    (hRR : ∀ D C τ H ys its cap s', Inv (cxComp X scope N' C s₂ H2 fp) [] τ H s' → s₂.heap.objs.size ≤ D → s₂.heap.objs.size ≤ C → D ≠ C → H D = none → Vals ys its → ys.length ≤ sizeLine →
      s'.heap.get? D = some { cls := .type "list", data := .seq its.toArray cap } → Fin ys H → RR (.ref D) C (.ok .next) s') :
    wpAny (model X.prog X.w) X.A (newList []) (fun acc s₃ => wpAny (model X.prog X.w) X.A (newFunctionEnv scope X.env.globals (drawnIn X.env.cells scope.names []) [] X.env.qual none .none (some X.env)) (fun cenv s₄ =>
      codeAny (model X.prog X.w) X.A (.compStart (.ListComp elt [⟨target, iter, ifs, 0⟩] scope pos) 0 (.ref it) acc { cenv with scope := relabel scope X.env }) (RR acc cenv.locals) s₄) E s₃) E s₂ := by
  refine wpAny_newObj_type (wpAny_newFunctionEnv S.nocell (by intro y hy; simp at hy) (fun h₁ hns₁ hsb₁ => ?_) S.kind)
  dsimp only at hns₁ hsb₁ ⊢
  generalize hH2 : s₂.heap.push { cls := .type "list", dict := none, data := .seq ([] : List Value).toArray } = G at hns₁ hsb₁ ⊢
  have hC : G.objs.size = s₂.heap.objs.size + 1 := by rw [← hH2, Heap.size_push]
  have hDC : s₂.heap.objs.size ≠ G.objs.size := by rw [hC]; exact Nat.ne_of_lt (Nat.lt_succ_self _)
  have hCle : s₂.heap.objs.size ≤ G.objs.size := by rw [hC]; exact Nat.le_succ _
  have below : ∀ b, b < s₂.heap.objs.size → b ≠ G.objs.size ∧ b ≠ s₂.heap.objs.size := fun b hb => ⟨by rw [hC]; exact Nat.ne_of_lt (Nat.lt_succ_of_lt hb), Nat.ne_of_lt hb⟩
  have old : ∀ b o, s₂.heap.get? b = some o → h₁.get? b = some o := fun b o e => hsb₁.extBut b o (below b (Heap.lt_size e)).1 (Heap.get?_push_of_some _ (hH2 ▸ Heap.get?_push_of_some _ e))
  have hacc : h₁.get? s₂.heap.objs.size = some { cls := .type "list", data := .seq ([] : List Value).toArray 0 } := hsb₁.extBut _ _ hDC (Heap.get?_push_of_some _ (hH2 ▸ Heap.get?_push_size _ rfl))
  have hob : ∀ b ∈ fp, ∃ o, s₂.heap.get? b = some o := fun b hb => let ⟨o, e, _⟩ := T.obj 0 _ st b hb; ⟨o, e⟩
  have hst₁ : tn 0 h₁ := T.keep _ _ _ st fun b _ o e => old b o e
  generalize hCe : G.objs.size = C at *
  generalize hDe : s₂.heap.objs.size = D at *
  have I0 : Inv (cxComp X scope N' C s₂ H2 fp) [] (startC src σ) H2 { s₂ with heap := h₁, toks := s₂.toks + ([] : List (Str × Value)).length } := inv_comp S I2 hfp hob (by rw [hDe]; exact hCle) old hns₁
  have hDfs : D ∉ frs X.stack := fun hb => by
    rcases List.mem_cons.mp (I2.stkSub D hb) with z | z
    · exact absurd I2.lt (by rw [← z, hDe]; exact Nat.lt_irrefl _)
    · exact I2.nofs (Nat.le_of_eq hDe) z
  obtain ⟨m0, w0⟩ := w0
  have loop : ∀ s₃ : Shared, s₃ = { s₂ with heap := h₁, toks := s₂.toks + ([] : List (Str × Value)).length } →
      codeAny (model X.prog X.w) X.A (.compLoop (.ListComp elt [⟨target, iter, ifs, 0⟩] scope pos) 0 (.ref it) (.ref D) (compEnvC scope (drawnIn X.env.cells scope.names []) C X.env)) (RR (.ref D) C) s₃ := by
    rintro s₃ rfl
    refine codeAny_compLoop_gen (fun n s' => ∃ i τ H ys its cap, Inv (cxComp X scope N' C s₂ H2 fp) [] τ H s' ∧ tn i s'.heap ∧ (∀ b ∈ fp, H b = none) ∧ H D = none ∧ Vals ys its ∧
      s'.heap.get? D = some { cls := .type "list", data := .seq its.toArray cap } ∧ W i n ys τ H) ?_ m0 ⟨0, _, H2, [], [], 0, I0, hst₁, fun b hb => (hfp b hb).1, I2.hok.fresh (Nat.le_of_eq hDe), .nil, hacc, w0⟩
    rintro n s3 ⟨i, τ, H, ys, its, cap, I3, st3, fr3, hD3, rv, hl, w3⟩
    have stat : ∀ {H' : Hp} (ob : Obj), (∀ b ∈ fp, H' b = none) → ∀ b ∈ fp, FpOk (cxComp X scope N' C s₂ H2 fp) [(D, ob)] H' b := fun {H'} ob hn b hb => by
      obtain ⟨e1, e2⟩ := I3.ok.exf b hb
      refine ⟨hn b hb, e1, I3.ok.exfs b hb, .inl hb, e2, fun p hp => ?_⟩
      have hp' : p = (D, ob) := by simpa [cxComp] using hp
      subst hp'
      obtain ⟨o, ho⟩ := hob b hb
      exact fun z => absurd (Heap.lt_size ho) (by rw [← z, hDe]; exact Nat.lt_irrefl _)
    have I3' : Inv (cxComp X scope N' C s₂ H2 fp) [(D, { cls := .type "list", data := .seq its.toArray cap })] τ H s3 := I3.pins_of fun p hp => by
      have hp' : p = (D, { cls := .type "list", data := .seq its.toArray cap }) := by simpa using hp
      subst hp'
      exact ⟨hl, hD3, hDC, hDfs, fun v z => nomatch z⟩
    rcases hW i n ys τ H w3 with ⟨stop, hz, fin⟩ | ⟨go, hlt, step⟩
    · refine thn (T.done (cxComp X scope N' C s₂ H2 fp) rfl rfl rfl hc i _ s3 τ H (fun _ _ => False) I3' (stat _ fr3) st3 stop) fun r s4 ⟨hr, I4⟩ => ?_
      subst hr
      have pD := I4.pin (D, { cls := .type "list", data := .seq its.toArray cap }) (by simp [cxComp])
      exact hRR D C τ H ys its cap s4 (I4.pins_of fun p hp => absurd hp (by simp)) (Nat.le_refl _) hCle hDC pD.2.1 rv hz pD.1 fin
    · refine thn (T.item (cxComp X scope N' C s₂ H2 fp) rfl rfl rfl hc i _ s3 τ H (fun _ _ => False) I3' (stat _ fr3) st3 go) fun r s4 ⟨u, hr, h4⟩ => ?_
      subst hr
      refine thn h4 fun _ s5 ⟨x, H5, I5, r5, y5, st5, fr5⟩ => ?_
      have I5' := I5.pinned (stat _ fr5) (T.obj _ _ st5)
      refine thn (hg C s₂ H2 fp _ s5 τ H5 x u _ I5' r5 (step x H5 y5)) fun _ s6 ⟨τ6, H6, I6, q6⟩ => ?_
      refine thn (hif C s₂ H2 fp _ s6 τ6 H6 _ I6 q6) fun ok s7 ⟨H7, I7, q7⟩ => ?_
      have again : ∀ {τ' : St} {H' : Hp} {s' : Shared}, Inv (cxComp X scope N' C s₂ H2 fp) ([(D, { cls := .type "list", data := .seq its.toArray cap })] ++ pinsAt fp s5.heap) τ' H' s' →
          Inv (cxComp X scope N' C s₂ H2 fp) [] τ' H' s' ∧ tn (i + 1) s'.heap ∧ (∀ b ∈ fp, H' b = none) ∧ H' D = none ∧ s'.heap.get? D = some { cls := .type "list", data := .seq its.toArray cap } := fun {τ' H' s'} K => by
        have pD := K.pin (D, { cls := .type "list", data := .seq its.toArray cap }) (by simp [cxComp])
        refine ⟨K.pins_of fun p hp => absurd hp (by simp), T.keep _ _ _ st5 fun b hb o e => (K.pin (b, o) (List.mem_append_right _ (List.mem_append_right _ (mem_pinsAt hb e)))).1, fun b hb => ?_, pD.2.1, pD.1⟩
        obtain ⟨o, e, d⟩ := T.obj _ _ st5 b hb
        exact (K.pin (b, o) (List.mem_append_right _ (List.mem_append_right _ (mem_pinsAt hb e)))).2.1
      cases ok with
      | false =>
        obtain ⟨m', hm, w'⟩ := q7
        obtain ⟨K, k2, k3, k4, k5⟩ := again I7
        exact ⟨m', hm, i + 1, τ6, H7, ys, its, cap, K, k2, k3, k4, rv, k5, w'⟩
      | true =>
        refine thn (he C s₂ H2 fp _ s7 τ6 H7 _ I7 q7) fun z s8 ⟨v, H8, I8, r8, m', hm, w'⟩ => ?_
        obtain ⟨K, k2, k3, k4, k5⟩ := again I8
        have hlen := rv.length
        refine call_meets F.slot_list_append ⟨_, k5, rfl⟩ F.entry_list_append (F.args_list_append_2 _ _) (PySem.list_append D its.toArray cap z (by rw [List.size_toArray]; omega)) ⟨k5, ?_⟩
        obtain ⟨cap', q⟩ : ∃ cap', (s8.heap.update D (Obj.mapSeq fun a => a.push z)).get? D = some { cls := .type "list", data := .seq (its ++ [z]).toArray cap' } := by
          have q := PySem.IsL.update k5 (fun a => a.push z)
          have e2 : its.toArray.push z = (its ++ [z]).toArray := by simp
          rw [e2] at q
          exact ⟨_, q⟩
        have keep : ∀ b o, b ≠ D → s8.heap.get? b = some o → (s8.heap.update D (Obj.mapSeq fun a => a.push z)).get? b = some o := fun b o hb hu => (Heap.get?_update_other s8.heap _ (Ne.symm hb)).trans hu
        have fD : ∀ x c, (cxComp X scope N' C s₂ H2 fp).env.cells.lookup x = some c → c ≠ D := fun x c hcc zz => by
          obtain ⟨v, o, ho, _⟩ := I2.cell x c (S.cell I2.ok hcc)
          exact absurd (Heap.lt_size ho) (by rw [zz, hDe]; exact Nat.lt_irrefl _)
        refine ⟨m', hm, i + 1, τ6, H8, ys ++ [v], its ++ [z], cap', K.turned (t' := s8.toks) keep k4 hDC (.inr (Nat.le_of_eq hDe)) fD (fun p hp => absurd (show p ∈ ([] : List (Addr × Obj)) from hp) (by simp)), T.keep _ _ _ k2 fun b hb o e => keep b o (fun zz => ?_) e, k3, k4, rv.append (.cons r8 .nil), q, w'⟩
        obtain ⟨o', ho'⟩ := hob b hb
        exact absurd (Heap.lt_size ho') (by rw [zz, hDe]; exact Nat.lt_irrefl _)
  exact codeAny_compStart_list (loop _ rfl) (T.self _ 0 _ _ _ hst₁ (loop _ rfl))
def tComp (src : List (Option Nat)) (wi : TI) (g : TG) (tif : TT) (te : TE) : TE := fun σ H Q => wi σ H fun J H1 => ∃ W : Nat → Nat → List V → St → Hp → Prop, (∃ m, W 0 m [] (startC src σ) H1) ∧
  CompW J g tif te (fun ys H' => ∀ D, H' D = none → Q (.ref D) (upd H' D (.lst ys))) W
theorem pe_comp {wi : TI} (S : CompScope X scope N' src) (hc : X.calm = true) (hi : PI X target iter wi) (hg : ∀ C s H fp, PG (cxComp X scope N' C s H fp) target g) (hif : ∀ C s H fp, PIfs (cxComp X scope N' C s H fp) ifs tif)
    (he : ∀ C s H fp, PE (cxComp X scope N' C s H fp) elt te) (hs : ∀ x, foldedSetIterable iter X.env x = pure x := by intro _; rfl) : PE X (.ListComp elt [⟨target, iter, ifs, 0⟩] scope pos) (tComp src wi g tif te) := by
  intro pins s σ H Q I h
  rw [eval_ListComp]
  refine wpAny_comprehension_free (use := none) rfl hs (closure_drawn (S.isFree I.ok)) S.kind S.names (thn (hi pins s σ H _ I h) fun v s1 h1 => thn h1 fun itv s2 h2 => ?_)
  obtain ⟨it, fp, tn, J, H2, rfl, I2, T, st2, f2, W, w0, hW⟩ := h2
  refine comp_block (RR := fun acc C => compPost (model X.prog X.w) X.A X.xe none (EP X pins σ Q) acc C) S hc hg hif he I2 T st2 f2 w0 hW ?_
  intro D C τ H' ys its cap s' K hD hC hDC hn rv hz e fin
  obtain ⟨m, hns, _⟩ := K.loc
  refine ⟨m, hns, fun h' hsb => ⟨.ref D, upd H' D (.lst ys), ?_, rfl, fin D hn⟩⟩
  exact comp_letgo I2 (comp_left I2 f2 K hD hn rv hz e) hC (by rw [upd_ne (Ne.symm hDC)]; exact K.free) hsb
def tSetComp (j : Nat) (src : List (Option Nat)) (wi : TI) (g : TG) (tif : TT) (te : TE) : TS := fun D σ H => tComp src wi g tif te σ H fun v H1 => D.nx (σ.set j (some v)) H1
theorem ps_setcomp {wi : TI} {j : Nat} {y : Str} {py spos : Pos} (hN : X.N.Nodup) (hj : X.N[j]? = some y) (hy : X.env.scope.names.lookup y = some .local) (S : CompScope X scope N' src) (hc : X.calm = true) (hi : PI X target iter wi) (hg : ∀ C s H fp, PG (cxComp X scope N' C s H fp) target g)
    (hif : ∀ C s H fp, PIfs (cxComp X scope N' C s H fp) ifs tif) (he : ∀ C s H fp, PE (cxComp X scope N' C s H fp) elt te) (hsw : swapsWith (.ListComp elt [⟨target, iter, ifs, 0⟩] scope pos) (some (.Name y py)) spos.line X.env = pure true := by rfl)
    (hs : ∀ x, foldedSetIterable iter X.env x = pure x := by intro _; rfl) : PS X (.Assign [.Name y py] (.ListComp elt [⟨target, iter, ifs, 0⟩] scope pos) spos) (tSetComp j src wi g tif te) := by
  intro pins s σ H Q I h
  rw [exec_Assign_Name_used _ _ _ _ hsw]
  refine wpAny_bind (wpAny_standAt (wpAny_bind ?_))
  show wpAny _ X.A (do let _ ← comprehension (.ListComp elt [⟨target, iter, ifs, 0⟩] scope pos) scope X.env _ (newList []) false (eval iter X.env) (some (assign (.Name y py) X.env))) _ _ s
  refine wpAny_bind (wpAny_mono (wpAny_comprehension_free (use := some (assign (.Name y py) X.env)) (Q := fun _ s' => SP X pins Q .next s') rfl hs (closure_drawn (S.isFree I.ok)) S.kind S.names
    (thn (hi pins s σ H _ I h) fun v s1 h1 => thn h1 fun itv s2 h2 => ?_)) (fun _ s' hq => wpAny_pure (wpAny_pure hq)) fun _ _ e => e)
  obtain ⟨it, fp, tn, J, H2, rfl, I2, T, st2, f2, W, w0, hW⟩ := h2
  refine comp_block (RR := fun acc C => compPost (model X.prog X.w) X.A X.xe (some (assign (.Name y py) X.env)) (fun _ s' => SP X pins Q .next s') acc C) S hc hg hif he I2 T st2 f2 w0 hW ?_
  intro D C τ H' ys its cap s' K hD hC hDC hn rv hz e fin
  obtain ⟨m, hns, _⟩ := K.loc
  have J0 := comp_left I2 f2 K hD hn rv hz e
  show wpAny _ X.A (assign (.Name y py) X.env (.ref D)) _ _ _
  refine wpAny_assign_Name (store_ok2 J0 hN hj (.inl hy) (v := .ref D) rfl (fun s'' J1 ⟨a, hsa, ha⟩ => ?_) (.inr hy))
  have hCa : C ≠ a := by
    have f := I2.fpOk (pins := pins) hC (H' := fun _ => none) rfl
    rcases ha with ha | ha
    · rw [ha]; exact f.2.1
    · exact fun z => f.2.2.2.2.1 y a ha z.symm
  refine ⟨m, hns.sameBut hsa hCa, fun h' hsb => ⟨_, _, ?_, fin D hn⟩⟩
  exact comp_letgo I2 J1 hC (by rw [upd_ne (Ne.symm hDC)]; exact K.free) hsb
end
end L2
namespace L2
open PySem PySem.Spec PyProof.Rows
section
variable {X : Cx} {tg : Expr}
end
section
variable {X : Cx}
end
end L2
namespace L2
open PySem PySem.Spec PyProof.Rows
section
variable {X : Cx} {pins : List (Addr × Obj)} {σ : St} {H : Hp} {s : Shared} {d : Addr} {u v : HO}
end
section
variable {X : Cx}
end
theorem KV.len : ∀ {kvs : List (Key × V)} {vs : List (Key × Value)}, KV kvs vs → kvs.length = vs.length := fun h => Paired.length h
theorem KV.at : ∀ {kvs : List (Key × V)} {vs : List (Key × Value)} {i : Nat} {k : Key} {v : V}, KV kvs vs → kvs[i]? = some (k, v) → ∃ u, vs[i]? = some (k, u) ∧ RelV v u
  | _, _, _, _, _, .nil, e => by simp at e
  | _, _, 0, k, v, .cons (b := b) r _, e => by
    simp at e; subst e
    obtain ⟨b1, b2⟩ := b
    obtain ⟨r1, r2⟩ := r
    simp at r1 r2
    subst r1
    exact ⟨b2, rfl, r2⟩
  | _, _, i + 1, k, v, .cons _ t, e => by
    obtain ⟨u, h1, h2⟩ := KV.at (i := i) t (by simpa using e)
    exact ⟨u, by simpa using h1, h2⟩
end L2
namespace L2
open PySem PySem.Spec PyProof.Rows
section
variable {X : Cx}
end
end L2
namespace L2
open PySem PySem.Spec PyProof.Rows
def EqR (X : Cx) (n : Nat) (H : Hp) (x y : V) (b : Bool) : Prop :=
  (∀ (pins : List (Addr × Obj)) (σ : St) (s : Shared) (u v : Value), Inv X pins σ H s → RelV x u → RelV y v → ∀ A : Around, A.units + n < cLine → SeqAt.EqAt A s u v b) ∧ (x = y → b = true)
section
variable {X : Cx} {H : Hp} {n : Nat}
theorem eqR_str (a b : Str) : EqR X n H (.str a) (.str b) (decide (a = b)) := by
  refine ⟨fun pins σ s u v I ru rv A _ => ?_, fun e => by cases e; simp⟩
  obtain ⟨t, rfl⟩ := ru
  obtain ⟨t', rfl⟩ := rv
  have e : decide (a = b) = (a == b) := by rw [Bool.eq_iff_iff]; simp
  rw [e]
  exact SeqAt.EqAt.str_str a t b t'
theorem eqR_int (a b : Int) : EqR X n H (.int a) (.int b) (decide (a = b)) := by
  refine ⟨fun pins σ s u v I ru rv A _ => ?_, fun e => by cases e; simp⟩
  obtain ⟨t, rfl⟩ := ru
  obtain ⟨t', rfl⟩ := rv
  have e : decide (a = b) = (a == b) := by rw [Bool.eq_iff_iff]; simp
  rw [e]
  exact SeqAt.EqAt.int_int a t b t'
theorem all_range {e : Nat → Bool} {m : Nat} (h : ∀ j, j < m → e j = true) : (List.range m).all e = true := List.all_eq_true.mpr fun j hj => h j (List.mem_range.mp hj)
theorem rc_list {a b : Addr} {xs ys : List V} {e : Nat → Bool} {pins : List (Addr × Obj)} {σ : St} {s : Shared} {A : Around} (I : Inv X pins σ H s) (ha : SqL X.K H a xs) (hb : SqL X.K H b ys)
    (he : xs.length = ys.length → ∀ j x y, xs[j]? = some x → ys[j]? = some y → EqR X n H x y (e j)) (hA : A.units + (n + 1) < cLine) : SeqAt.RcAt A s (.ref a) (.ref b) (decide (xs.length = ys.length) && (List.range xs.length).all e) := by
  obtain ⟨its, rx, px, _⟩ := I.list ha
  obtain ⟨jts, ry, py, _⟩ := I.list hb
  have lx := rx.length
  have ly := ry.length
  by_cases hl : xs.length = ys.length
  · rw [decide_eq_true hl, Bool.true_and]
    have q := SeqAt.RcAt.lists (A := A) (s := s) (e := e) px.isList py.isList (by rw [List.size_toArray, List.size_toArray]; omega) (by omega) (fun j h1 h2 => ?_)
    · rw [List.size_toArray, ← lx] at q
      exact q
    · have h1' : j < its.length := by simpa using h1
      have h2' : j < jts.length := by simpa using h2
      obtain ⟨u, hu, ru⟩ := rx.get (i := j) (x := xs[j]'(by omega)) (List.getElem?_eq_getElem (by omega))
      obtain ⟨v, hv, rv⟩ := ry.get (i := j) (x := ys[j]'(by omega)) (List.getElem?_eq_getElem (by omega))
      have eu : its.toArray[j] = u := by
        have := List.getElem?_eq_getElem h1'
        rw [hu] at this
        simpa using (Option.some.inj this).symm
      have ev : jts.toArray[j] = v := by
        have := List.getElem?_eq_getElem h2'
        rw [hv] at this
        simpa using (Option.some.inj this).symm
      rw [eu, ev]
      exact (he hl j _ _ (List.getElem?_eq_getElem (by omega)) (List.getElem?_eq_getElem (by omega))).1 pins σ s u v I ru rv A.in1 (by show A.units + 1 + n < cLine; omega)
  · rw [decide_eq_false hl, Bool.false_and]
    exact SeqAt.RcAt.lists_lengths px.isList py.isList (by simp; omega) (by omega)
theorem eqR_list {a b : Addr} {xs ys : List V} {e : Nat → Bool} (ha : SqL X.K H a xs) (hb : SqL X.K H b ys)
    (he : xs.length = ys.length → ∀ j x y, xs[j]? = some x → ys[j]? = some y → EqR X n H x y (e j)) (hsame : a = b → xs = ys) : EqR X (n + 1) H (.ref a) (.ref b) (decide (xs.length = ys.length) && (List.range xs.length).all e) := by
  have same : a = b → (decide (xs.length = ys.length) && (List.range xs.length).all e) = true := fun z => by
    have ex := hsame z
    subst ex
    rw [decide_eq_true rfl, Bool.true_and]
    exact all_range fun j hj => (he rfl j _ _ (List.getElem?_eq_getElem hj) (List.getElem?_eq_getElem hj)).2 rfl
  refine ⟨fun pins σ s u v I ru rv A hA => ?_, fun z => same (by cases z; rfl)⟩
  cases ru; cases rv
  by_cases hab : a = b
  · rw [same hab, hab]; exact SeqAt.EqAt.same _
  · exact SeqAt.EqAt.of_refs hab (rc_list I ha hb he hA)
end
section
variable {X : Cx} {H : Hp}
end
end L2
namespace L2
open PySem PySem.Spec PyProof.Rows
def compOk (names outer : List (Str × NameKind)) (N N' : List Str) (src : List (Option Nat)) : Bool :=
  (names.all fun y => !(y.2 == .cell)) && (names.all fun y => !(y.2 == .local) || names.lookup y.1 == some .local) && (names.all fun y => !(y.2 == .free) || (outer.lookup y.1 == some .cell || outer.lookup y.1 == some .free)) &&
  (src.length == N'.length) && ((List.range src.length).all fun i => match src[i]?, N'[i]? with
    | some (some j), some x => N[j]? == some x && (outer.lookup x == some .cell || outer.lookup x == some .free) && names.lookup x == some .free
    | _, _ => true)
theorem CompScope.of {X : Cx} {scope : Scope} {N' : List Str} {src : List (Option Nat)} (outer : List (Str × NameKind)) (N : List Str) (hk : scope.kind = .function) (ho : ∀ x, X.env.kindOf x = outer.lookup x) (hN : X.N = N)
    (h : compOk scope.names outer N N' src = true) : CompScope X scope N' src := by
  unfold compOk at h
  simp only [Bool.and_eq_true, List.all_eq_true, List.mem_range] at h
  obtain ⟨⟨⟨⟨h1, h2⟩, h3⟩, h4⟩, h5⟩ := h
  refine ⟨hk, fun y hy e => ?_, fun y hy e => ?_, fun y hy e => ?_, by simpa using h4, fun i j x e1 e2 => ?_⟩
  · have := h1 y hy; rw [e] at this; exact absurd this (by decide)
  · have := h2 y hy; rw [e] at this; simpa using this
  · have := h3 y hy; rw [e] at this; rw [ho]; simpa using this
  · have hi : i < src.length := (List.getElem?_eq_some_iff.mp e1).1
    have := h5 i hi
    rw [e1, e2] at this
    simp only [Bool.and_eq_true, Bool.or_eq_true] at this
    obtain ⟨⟨a, b⟩, c⟩ := this
    rw [hN, ho]
    exact ⟨by simpa using a, by simpa using b, by simpa using c⟩
def rIsi (K : PySem.W.Frag) : List V → Hp → VK → Prop := fun xs H Q => ∃ x T t b, xs = [x, .ty T] ∧ TyOf K H x t ∧ PySem.W.kitOne K t (.type T) = some b ∧ Q (.bl b) H
theorem call_isi {X : Cx} : CallR X (.builtin "isinstance") (rIsi X.K) := by
  intro pins s σ H xs us Q I r h
  obtain ⟨x, T, t, b, rfl, ht, hb, q⟩ := h
  obtain ⟨u, v, rfl, ru, rv⟩ := vals2 r
  cases rv
  exact isinst_ok I ru ht hb fun tk => ⟨.bl b, H, I.tok tk, rfl, q⟩
def rLenL (K : PySem.W.Frag) : List V → Hp → VK → Prop := fun xs H Q => ∃ p ys, xs = [.ref p] ∧ (SqL K H p ys ∨ SqT K H p ys) ∧ Q (.int ys.length) H
theorem cl_len_seq {X : Cx} : CallR X (.builtin "len") (rLenL X.K) := call_len_seq
def rListOf (K : PySem.W.Frag) : List V → Hp → VK → Prop := fun xs H Q => ∃ p ys, xs = [.ref p] ∧ (SqL K H p ys ∨ SqT K H p ys) ∧ ∀ l, H l = none → Q (.ref l) (upd H l (.lst ys))
theorem cl_list_of {X : Cx} : CallR X (.type "list") (rListOf X.K) := call_list_of
section
variable {X : Cx} {K : PySem.W.Frag}
theorem ix_listK (hK : X.K = K) : IxR X (rIxL K) := hK ▸ ix_list
theorem ix_tupK (hK : X.K = K) : IxR X (rIxT K) := hK ▸ ix_tup
theorem cl_len_seqK (hK : X.K = K) : CallR X (.builtin "len") (rLenL K) := hK ▸ cl_len_seq
theorem cl_list_ofK (hK : X.K = K) : CallR X (.type "list") (rListOf K) := hK ▸ cl_list_of
theorem call_isiK (hK : X.K = K) : CallR X (.builtin "isinstance") (rIsi K) := hK ▸ call_isi
theorem pi_listK {tg l : Expr} {tl : TE} (hK : X.K = K) (hl : PE X l tl) : PI X tg l (iList K tl) := hK ▸ pi_list hl
theorem pi_tupK {tg l : Expr} {tl : TE} (hK : X.K = K) (hl : PE X l tl) : PI X tg l (iTup K tl) := hK ▸ pi_tup hl
theorem sl_listK (hK : X.K = K) : SlR X (rSlL K) := hK ▸ sl_list
theorem op_in_seqK (hK : X.K = K) : OpR X (compareOp .In) (rIn K false) := hK ▸ op_in_seq
theorem pe_bmK {o e : Expr} {es : List Expr} {to : TE} {t : TA} {name : Str} {apos cpos : Pos} {T id : String} {r : V → List V → Hp → VK → Prop} (hK : X.K = K) (pa : PlainAttrs T) (slot : Slot T name id) (hty : typeOf (.builtin id) = pure (.type "method_descriptor")) (hm : MtR X id r) (ho : PE X o to) (ha : PA X (e :: es) t)
    (hbase : attributeBase o name X.env (eval o X.env) = eval o X.env := by rfl)
    (hfew : ((backTo cpos (starEach (e :: es) X.env)).all (fun x => !x.1) && (backToKw cpos (keywordEach [] X.env)).all (fun x => x.1.isSome)
      && decide ((e :: es).length + ([] : List Keyword).length + (if ([] : List Keyword).isEmpty then 0 else 1) < 30)) = true := by rfl)
    (hline : (apos.endLine == cpos.line) = true := by rfl) (hs : starEach (e :: es) X.env = (false, eval e X.env) :: starEach es X.env := by rfl) (hplain : (backTo cpos (starEach es X.env)).any (·.1) = false := by rfl) :
    PE X (.Call (.Attribute o name apos) (e :: es) [] cpos) (tBM K T r to t) := hK ▸ pe_bm pa slot hty hm ho ha hbase hfew hline hs hplain
end
def constV : Expr → Option V
  | .Constant (.int i) _ _ => some (.int i)
  | .Constant (.str x) _ _ => some (.str x)
  | .Constant (.bool b) _ _ => some (.bl b)
  | .Constant .none _ _ => some .non
  | _ => none
def constVs : List Expr → Option (List V)
  | [] => some []
  | e :: es => match constV e, constVs es with
    | some v, some vs => some (v :: vs)
    | _, _ => none
def tKs (vs : List V) : TA := fun _ H Q => Q vs H
theorem pe_const {X : Cx} {e : Expr} {v : V} (h : constV e = some v) : PE X e (tC v) ∧ ∀ es, starEach (e :: es) X.env = (false, eval e X.env) :: starEach es X.env := by
  cases e
  case Constant c k p =>
    cases c
    case int i => cases h; exact ⟨pe_int, fun _ => rfl⟩
    case str i => cases h; exact ⟨pe_str, fun _ => rfl⟩
    case bool i => cases h; exact ⟨pe_bl, fun _ => rfl⟩
    case none => cases h; exact ⟨pe_non, fun _ => rfl⟩
    all_goals cases h
  all_goals cases h
theorem pa_consts {X : Cx} : ∀ {es : List Expr} {vs : List V}, constVs es = some vs → PA X es (tKs vs)
  | [], vs, h => by cases h; exact pa_nil
  | e :: es, vs, h => by
    unfold constVs at h
    cases e1 : constV e with
    | none => rw [e1] at h; cases h
    | some v =>
      cases e2 : constVs es with
      | none => rw [e1, e2] at h; cases h
      | some r =>
        rw [e1, e2] at h
        cases h
        obtain ⟨p, q⟩ := pe_const (X := X) e1
        exact pa_cons p (pa_consts e2) (q es)
end L2
namespace L2
open PySem PySem.Spec PyProof.Rows
section
variable {X : Cx} {K : PySem.W.Frag}
end
end L2
namespace L2
open PySem PySem.Spec PyProof.Rows
section
variable {X : Cx} {tg : Expr}
end
end L2
namespace L2
open PySem PySem.Spec PyProof.Rows
section
variable {X : Cx} {K : PySem.W.Frag} {e st : Expr} {te ts : TE} {p2 pos : Pos}
end
end L2
namespace L2
open PySem PySem.Spec PyProof.Rows
theorem argBest_le (f : Nat → Int) : ∀ k, argBest (fun i j => decide (f i > f j)) k ≤ k ∧ ∀ j, j ≤ k → f j ≤ f (argBest (fun i j => decide (f i > f j)) k)
  | 0 => ⟨Nat.le_refl _, fun j hj => by
      have e : j = 0 := by omega
      subst e
      exact Int.le_refl _⟩
  | k + 1 => by
    obtain ⟨h1, h2⟩ := argBest_le f k
    unfold argBest
    by_cases h : f (k + 1) > f (argBest (fun i j => decide (f i > f j)) k)
    · rw [if_pos (by simpa using h)]
      refine ⟨Nat.le_refl _, fun j hj => ?_⟩
      by_cases e : j = k + 1
      · rw [e]; exact Int.le_refl _
      · have := h2 j (by omega); omega
    · rw [if_neg (by simpa using h)]
      refine ⟨by omega, fun j hj => ?_⟩
      by_cases e : j = k + 1
      · rw [e]; omega
      · exact h2 j (by omega)
def rMaxL (K : PySem.W.Frag) : List V → Hp → VK → Prop := fun xs H Q => ∃ (p : Addr) (ns : List Int), xs = [.ref p] ∧ SqL K H p (ns.map V.int) ∧ ns ≠ [] ∧ ∀ z, z ∈ ns → (∀ y ∈ ns, y ≤ z) → Q (.int z) H
theorem call_maxL {X : Cx} {K : PySem.W.Frag} (hK : X.K = K) (hc : X.calm = true) : CallR X (.builtin "max") (rMaxL K) := by
  subst hK
  intro pins s σ H xs us Q I r h
  obtain ⟨p, ns, rfl, hq, hne, q⟩ := h
  obtain ⟨u, rfl, rx⟩ := vals1 r
  cases rx
  obtain ⟨its, r', pl, hz⟩ := I.list hq
  have hl := pl.isList
  have hlen : its.length = ns.length := by have := r'.length; rw [List.length_map] at this; exact this.symm
  have hlt : p < s.heap.objs.size := by obtain ⟨_, e, _⟩ := hl; exact Heap.lt_size e
  have hpos : 0 < ns.length := List.length_pos_iff.mpr hne
  have at' : ∀ (i : Nat) (v : Value), its.toArray[i]? = some v → ∃ t, v = Value.int (ns.getD i 0) t := fun i v hv => by
    have hv' : its[i]? = some v := by simpa using hv
    have hi : i < ns.length := by rw [← hlen]; exact (List.getElem?_eq_some_iff.mp hv').1
    obtain ⟨u, hu, ru⟩ := r'.get (i := i) (x := V.int ns[i]) (by rw [List.getElem?_map, List.getElem?_eq_getElem hi]; rfl)
    rw [hv'] at hu
    cases hu
    obtain ⟨t, e⟩ := ru
    exact ⟨t, by rw [e, List.getD_eq_getElem?_getD, List.getElem?_eq_getElem hi]; rfl⟩
  refine call_max_walk (wpAny_pyIter_list hl ?_)
  refine ⟨s.heap.objs.size, [s.heap.objs.size, p], [s.heap.objs.size], its.toArray.size, _, _, fun i j => decide (ns.getD i 0 > ns.getD j 0), rfl, Walks.list (A := X.A.in1) (I.ok.hd hc) _ p (Nat.ne_of_lt hlt) its.toArray,
    ⟨⟨_, Heap.get?_push_size _ rfl, rfl, rfl⟩, hl.push _⟩, fun b hb => ?_, by rw [List.size_toArray, hlen]; exact hpos, fun i j vi vj s' Q' E' hi hj hQ => ?_, fun v h' tk hv hk => ?_⟩
  · rcases List.mem_cons.mp hb with z | hb
    · rw [z, Heap.size_push]; exact Nat.lt_succ_self _
    · rw [List.mem_singleton.mp hb, Heap.size_push]; exact Nat.lt_succ_of_lt hlt
  · obtain ⟨t, rfl⟩ := at' i vi hi
    obtain ⟨t', rfl⟩ := at' j vj hj
    exact (gt_int hQ : wpAny _ _ (compareOp .Gt _ _) _ _ _)
  · obtain ⟨t, rfl⟩ := at' _ v hv
    obtain ⟨b1, b2⟩ := argBest_le (fun i => ns.getD i 0) (its.toArray.size - 1)
    have hb : argBest (fun i j => decide (ns.getD i 0 > ns.getD j 0)) (its.toArray.size - 1) < ns.length := by rw [List.size_toArray, hlen] at b1 ⊢; omega
    refine ⟨.int _, H, I.kept (t' := tk) (LSm.kept_iter hk), ⟨t, rfl⟩, q _ ?_ fun y hy => ?_⟩
    · rw [List.getD_eq_getElem?_getD, List.getElem?_eq_getElem hb]; exact List.getElem_mem hb
    · obtain ⟨j, hj, e⟩ := List.getElem_of_mem hy
      have := b2 j (by rw [List.size_toArray, hlen]; omega)
      have e2 : ns.getD j 0 = y := by rw [List.getD_eq_getElem?_getD, List.getElem?_eq_getElem hj]; exact e
      rw [← e2]; exact this
end L2
namespace L2
open PySem PySem.Spec PyProof.Rows
section
variable {X : Cx} {H : Hp} {n : Nat}
theorem eq_items {xs ys : List V} {its jts : List Value} {pins : List (Addr × Obj)} {σ : St} {s : Shared} {A : Around} {e : Nat → Bool} (I : Inv X pins σ H s) (rx : Vals xs its) (ry : Vals ys jts)
    (he : ∀ j x y, xs[j]? = some x → ys[j]? = some y → EqR X n H x y (e j)) (hA : A.units + n < cLine) (j : Nat) (h1 : j < its.toArray.size) (h2 : j < jts.toArray.size) : SeqAt.EqAt A s its.toArray[j] jts.toArray[j] (e j) := by
  have lx := rx.length
  have ly := ry.length
  have h1' : j < its.length := by simpa using h1
  have h2' : j < jts.length := by simpa using h2
  obtain ⟨u, hu, ru⟩ := rx.get (i := j) (x := xs[j]'(by omega)) (List.getElem?_eq_getElem (by omega))
  obtain ⟨v, hv, rv⟩ := ry.get (i := j) (x := ys[j]'(by omega)) (List.getElem?_eq_getElem (by omega))
  have eu : its.toArray[j] = u := by
    have := List.getElem?_eq_getElem h1'
    rw [hu] at this
    simpa using (Option.some.inj this).symm
  have ev : jts.toArray[j] = v := by
    have := List.getElem?_eq_getElem h2'
    rw [hv] at this
    simpa using (Option.some.inj this).symm
  rw [eu, ev]
  exact (he j _ _ (List.getElem?_eq_getElem (by omega)) (List.getElem?_eq_getElem (by omega))).1 pins σ s u v I ru rv A hA
theorem eqR_tup {a b : Addr} {xs ys : List V} {e : Nat → Bool} (ha : SqT X.K H a xs) (hb : SqT X.K H b ys) (he : ∀ j x y, xs[j]? = some x → ys[j]? = some y → EqR X n H x y (e j)) (hsame : a = b → xs = ys) :
    EqR X (n + 1) H (.ref a) (.ref b) ((List.range (min xs.length ys.length)).all e && decide (xs.length = ys.length)) := by
  have same : a = b → ((List.range (min xs.length ys.length)).all e && decide (xs.length = ys.length)) = true := fun z => by
    have ex := hsame z
    subst ex
    rw [decide_eq_true rfl, Bool.and_true]
    exact all_range fun j hj => (he j _ _ (List.getElem?_eq_getElem (by omega)) (List.getElem?_eq_getElem (by omega))).2 rfl
  refine ⟨fun pins σ s u v I ru rv A hA => ?_, fun z => same (by cases z; rfl)⟩
  cases ru; cases rv
  by_cases hab : a = b
  · rw [same hab, hab]; exact SeqAt.EqAt.same _
  · refine SeqAt.EqAt.of_refs hab ?_
    obtain ⟨its, rx, px, _⟩ := I.tuple ha
    obtain ⟨jts, ry, py, _⟩ := I.tuple hb
    have lx := rx.length
    have ly := ry.length
    have q := SeqAt.RcAt.tuples (A := A) (s := s) (e := e) (show s.heap.IsTuple a its.toArray from px) (show s.heap.IsTuple b jts.toArray from py) (by omega) (fun j h1 h2 => eq_items I rx ry he (by show A.units + 1 + n < cLine; omega) j h1 h2)
    rw [List.size_toArray, List.size_toArray, ← lx, ← ly] at q
    have ee : (xs.length == ys.length) = decide (xs.length = ys.length) := by rw [Bool.eq_iff_iff]; simp
    rw [ee] at q
    exact q
def rEqL (X : Cx) (n : Nat) (neg : Bool) : R2 := fun x y H Q => ∃ a b xs ys e, x = .ref a ∧ y = .ref b ∧ SqL X.K H a xs ∧ SqL X.K H b ys ∧ (xs.length = ys.length → ∀ j x y, xs[j]? = some x → ys[j]? = some y → EqR X n H x y (e j)) ∧
  Q (.bl (if neg = true then !(decide (xs.length = ys.length) && (List.range xs.length).all e) else decide (xs.length = ys.length) && (List.range xs.length).all e)) H
theorem op_ne_list (n : Nat) (hu : X.A.units + (n + 1) < cLine) : OpR X (compareOp .NotEq) (rEqL X n true) := by
  intro pins s σ H x y v u Q I rx ry h
  obtain ⟨a, b, xs, ys, e, rfl, rfl, ha, hb, he, q⟩ := h
  cases rx; cases ry
  obtain ⟨its, rx, px, _⟩ := I.list ha
  obtain ⟨jts, ry, py, _⟩ := I.list hb
  have lx := rx.length
  have ly := ry.length
  by_cases hl : xs.length = ys.length
  · refine SeqAt.RcNeAt.lists (e := e) px.isList py.isList (by rw [List.size_toArray, List.size_toArray]; omega) (by omega) (fun j h1 h2 => eq_items I rx ry (he hl) (by show X.A.units + 1 + n < cLine; omega) j h1 h2) X.prog X.w _ _ (fin_bl I q ?_)
    rw [List.size_toArray, ← lx, decide_eq_true hl]; simp
  · refine SeqAt.RcNeAt.lists_lengths px.isList py.isList (by simp; omega) (by omega) X.prog X.w _ _ (fin_bl I q ?_)
    rw [decide_eq_false hl]; rfl
end
end L2
namespace L2
open PySem PySem.Spec PyProof.Rows
inductive PV where
  | non | bl (b : Bool) | int (i : Int) | str (x : Str)
  | lst (ps : List PV) | tup (ps : List PV) | dct (ks : List (Key × PV)) | scr (ns : List Int) | adr (a : Addr)
abbrev AS := Addr → Prop
mutual
def Rep (U : AS) (H : Hp) : PV → V → Prop
  | .non, v => v = .non
  | .bl b, v => v = .bl b
  | .int i, v => v = .int i
  | .str x, v => v = .str x
  | .scr ns, v => ∃ a, v = .ref a ∧ U a ∧ Rd H a (.lst (ns.map V.int))
  | .adr a, v => v = .ref a
  | .lst ps, v => ∃ a xs, v = .ref a ∧ U a ∧ H a = some (.lst xs) ∧ Reps U H ps xs
  | .tup ps, v => ∃ a xs, v = .ref a ∧ H a = some (.tup xs) ∧ Reps U H ps xs
  | .dct ks, v => ∃ a kvs, v = .ref a ∧ U a ∧ Rd H a (.dK kvs) ∧ RepK U H ks kvs
def Reps (U : AS) (H : Hp) : List PV → List V → Prop
  | [], xs => xs = []
  | p :: ps, xs => ∃ x r, xs = x :: r ∧ Rep U H p x ∧ Reps U H ps r
def RepK (U : AS) (H : Hp) : List (Key × PV) → List (Key × V) → Prop
  | [], xs => xs = []
  | kp :: ks, xs => ∃ v r, xs = (kp.1, v) :: r ∧ Rep U H kp.2 v ∧ RepK U H ks r
end
structure Keeps (U : AS) (H : Hp) (U' : AS) (H' : Hp) : Prop where
  mono : ∀ a, U a → U' a
  lst : ∀ a xs, U a → H a = some (.lst xs) → H' a = some (.lst xs)
  rd : ∀ a xs, U a → Rd H a (.lst xs) → Rd H' a (.lst xs)
  dk : ∀ a kvs, U a → Rd H a (.dK kvs) → Rd H' a (.dK kvs)
  tup : ∀ a xs, H a = some (.tup xs) → H' a = some (.tup xs)
mutual
theorem Rep.keeps {U U' : AS} {H H' : Hp} (k : Keeps U H U' H') : ∀ (p : PV) (v : V), Rep U H p v → Rep U' H' p v
  | .non, v, h => by unfold Rep at h ⊢; exact h
  | .bl b, v, h => by unfold Rep at h ⊢; exact h
  | .int i, v, h => by unfold Rep at h ⊢; exact h
  | .str x, v, h => by unfold Rep at h ⊢; exact h
  | .adr x, v, h => by unfold Rep at h ⊢; exact h
  | .scr ns, v, h => by
    unfold Rep at h ⊢
    obtain ⟨a, e, u, r⟩ := h
    exact ⟨a, e, k.mono a u, k.rd a _ u r⟩
  | .lst ps, v, h => by
    unfold Rep at h ⊢
    obtain ⟨a, xs, e, u, r, q⟩ := h
    exact ⟨a, xs, e, k.mono a u, k.lst a xs u r, Reps.keeps k ps xs q⟩
  | .tup ps, v, h => by
    unfold Rep at h ⊢
    obtain ⟨a, xs, e, r, q⟩ := h
    exact ⟨a, xs, e, k.tup a xs r, Reps.keeps k ps xs q⟩
  | .dct ks, v, h => by
    unfold Rep at h ⊢
    obtain ⟨a, kvs, e, u, r, q⟩ := h
    exact ⟨a, kvs, e, k.mono a u, k.dk a kvs u r, RepK.keeps k ks kvs q⟩
theorem Reps.keeps {U U' : AS} {H H' : Hp} (k : Keeps U H U' H') : ∀ (ps : List PV) (xs : List V), Reps U H ps xs → Reps U' H' ps xs
  | [], xs, h => by unfold Reps at h ⊢; exact h
  | p :: ps, xs, h => by
    unfold Reps at h ⊢
    obtain ⟨x, r, e, h1, h2⟩ := h
    exact ⟨x, r, e, Rep.keeps k p x h1, Reps.keeps k ps r h2⟩
theorem RepK.keeps {U U' : AS} {H H' : Hp} (k : Keeps U H U' H') : ∀ (ks : List (Key × PV)) (xs : List (Key × V)), RepK U H ks xs → RepK U' H' ks xs
  | [], xs, h => by unfold RepK at h ⊢; exact h
  | kp :: ks, xs, h => by
    unfold RepK at h ⊢
    obtain ⟨v, r, e, h1, h2⟩ := h
    exact ⟨v, r, e, Rep.keeps k kp.2 v h1, RepK.keeps k ks r h2⟩
end
section
variable {U : AS} {H : Hp}
theorem rep_non {v : V} : Rep U H .non v ↔ v = .non := by unfold Rep; exact Iff.rfl
theorem rep_bl {b : Bool} {v : V} : Rep U H (.bl b) v ↔ v = .bl b := by unfold Rep; exact Iff.rfl
theorem rep_int {i : Int} {v : V} : Rep U H (.int i) v ↔ v = .int i := by unfold Rep; exact Iff.rfl
theorem rep_str {x : Str} {v : V} : Rep U H (.str x) v ↔ v = .str x := by unfold Rep; exact Iff.rfl
theorem rep_adr {a : Addr} {v : V} : Rep U H (.adr a) v ↔ v = .ref a := by unfold Rep; exact Iff.rfl
theorem rep_scr {ns : List Int} {v : V} : Rep U H (.scr ns) v ↔ ∃ a, v = .ref a ∧ U a ∧ Rd H a (.lst (ns.map V.int)) := by unfold Rep; exact Iff.rfl
theorem rep_lst {ps : List PV} {v : V} : Rep U H (.lst ps) v ↔ ∃ a xs, v = .ref a ∧ U a ∧ H a = some (.lst xs) ∧ Reps U H ps xs := by rw [Rep.eq_def]
theorem rep_tup {ps : List PV} {v : V} : Rep U H (.tup ps) v ↔ ∃ a xs, v = .ref a ∧ H a = some (.tup xs) ∧ Reps U H ps xs := by rw [Rep.eq_def]
theorem rep_dct {ks : List (Key × PV)} {v : V} : Rep U H (.dct ks) v ↔ ∃ a kvs, v = .ref a ∧ U a ∧ Rd H a (.dK kvs) ∧ RepK U H ks kvs := by rw [Rep.eq_def]
theorem reps_nil {xs : List V} : Reps U H [] xs ↔ xs = [] := by unfold Reps; exact Iff.rfl
theorem reps_cons {p : PV} {ps : List PV} {xs : List V} : Reps U H (p :: ps) xs ↔ ∃ x r, xs = x :: r ∧ Rep U H p x ∧ Reps U H ps r := by rw [Reps.eq_def]
theorem repK_nil {xs : List (Key × V)} : RepK U H [] xs ↔ xs = [] := by unfold RepK; exact Iff.rfl
theorem repK_cons {kp : Key × PV} {ks : List (Key × PV)} {xs : List (Key × V)} : RepK U H (kp :: ks) xs ↔ ∃ v r, xs = (kp.1, v) :: r ∧ Rep U H kp.2 v ∧ RepK U H ks r := by rw [RepK.eq_def]
theorem Reps.length : ∀ {ps : List PV} {xs : List V}, Reps U H ps xs → xs.length = ps.length
  | [], xs, h => by rw [reps_nil.mp h]; rfl
  | p :: ps, xs, h => by
    obtain ⟨x, r, rfl, _, h2⟩ := reps_cons.mp h
    simp [Reps.length h2]
theorem Reps.get : ∀ {ps : List PV} {xs : List V} {i : Nat} {p : PV}, Reps U H ps xs → ps[i]? = some p → ∃ v, xs[i]? = some v ∧ Rep U H p v
  | [], xs, i, p, h, e => by simp at e
  | q :: ps, xs, 0, p, h, e => by
    obtain ⟨x, r, rfl, h1, _⟩ := reps_cons.mp h
    simp at e; subst e
    exact ⟨x, rfl, h1⟩
  | q :: ps, xs, i + 1, p, h, e => by
    obtain ⟨x, r, rfl, _, h2⟩ := reps_cons.mp h
    obtain ⟨v, hv, hr⟩ := Reps.get (i := i) h2 (by simpa using e)
    exact ⟨v, by simpa using hv, hr⟩
theorem Reps.append : ∀ {ps qs : List PV} {xs ys : List V}, Reps U H ps xs → Reps U H qs ys → Reps U H (ps ++ qs) (xs ++ ys)
  | [], qs, xs, ys, h, g => by rw [reps_nil.mp h]; exact g
  | p :: ps, qs, xs, ys, h, g => by
    obtain ⟨x, r, rfl, h1, h2⟩ := reps_cons.mp h
    exact reps_cons.mpr ⟨x, r ++ ys, rfl, h1, Reps.append h2 g⟩
theorem Reps.one {p : PV} {v : V} (h : Rep U H p v) : Reps U H [p] [v] := reps_cons.mpr ⟨v, [], rfl, h, reps_nil.mpr rfl⟩
theorem Reps.take : ∀ {ps : List PV} {xs : List V} (n : Nat), Reps U H ps xs → Reps U H (ps.take n) (xs.take n)
  | _, _, 0, _ => reps_nil.mpr rfl
  | [], xs, n + 1, h => by rw [reps_nil.mp h]; exact reps_nil.mpr rfl
  | p :: ps, xs, n + 1, h => by
    obtain ⟨x, r, rfl, h1, h2⟩ := reps_cons.mp h
    exact reps_cons.mpr ⟨x, r.take n, rfl, h1, Reps.take n h2⟩
theorem Reps.drop : ∀ {ps : List PV} {xs : List V} (n : Nat), Reps U H ps xs → Reps U H (ps.drop n) (xs.drop n)
  | _, _, 0, h => h
  | [], xs, n + 1, h => by rw [reps_nil.mp h]; exact reps_nil.mpr rfl
  | p :: ps, xs, n + 1, h => by
    obtain ⟨x, r, rfl, h1, h2⟩ := reps_cons.mp h
    exact Reps.drop n h2
theorem Reps.reverse : ∀ {ps : List PV} {xs : List V}, Reps U H ps xs → Reps U H ps.reverse xs.reverse
  | [], xs, h => by rw [reps_nil.mp h]; exact reps_nil.mpr rfl
  | p :: ps, xs, h => by
    obtain ⟨x, r, rfl, h1, h2⟩ := reps_cons.mp h
    rw [List.reverse_cons, List.reverse_cons]
    exact Reps.append (Reps.reverse h2) (Reps.one h1)
theorem Reps.set {p : PV} {v : V} (hp : Rep U H p v) : ∀ {ps : List PV} {xs : List V} (i : Nat), Reps U H ps xs → Reps U H (ps.set i p) (xs.set i v)
  | [], xs, i, h => by rw [reps_nil.mp h]; exact reps_nil.mpr rfl
  | q :: ps, xs, 0, h => by
    obtain ⟨x, r, rfl, _, h2⟩ := reps_cons.mp h
    exact reps_cons.mpr ⟨v, r, rfl, hp, h2⟩
  | q :: ps, xs, i + 1, h => by
    obtain ⟨x, r, rfl, h1, h2⟩ := reps_cons.mp h
    exact reps_cons.mpr ⟨x, r.set i v, rfl, h1, Reps.set hp i h2⟩
theorem Reps.ints : ∀ {ns : List Int} {xs : List V}, Reps U H (ns.map PV.int) xs → xs = ns.map V.int
  | [], xs, h => reps_nil.mp h
  | n :: ns, xs, h => by
    obtain ⟨x, r, rfl, h1, h2⟩ := reps_cons.mp h
    rw [rep_int.mp h1, Reps.ints h2]; rfl
theorem Reps.bls : ∀ {bs : List Bool} {xs : List V}, Reps U H (bs.map PV.bl) xs → xs = bs.map V.bl
  | [], xs, h => reps_nil.mp h
  | n :: ns, xs, h => by
    obtain ⟨x, r, rfl, h1, h2⟩ := reps_cons.mp h
    rw [rep_bl.mp h1, Reps.bls h2]; rfl
end
inductive Fl where | shr | own | bor
abbrev PEnv := List (Option (PV × Fl))
def Top (U : AS) (H : Hp) (p : PV) (a : Addr) : Prop := match p with
  | .lst ps => ∃ xs, H a = some (.lst xs) ∧ Reps U H ps xs
  | .dct ks => ∃ kvs, H a = some (.dK kvs) ∧ RepK U H ks kvs
  | _ => False
def Bor (U : AS) (H : Hp) (p : PV) (v : V) : Prop := match p with
  | .lst ps => ∃ a xs, v = .ref a ∧ H a = some (.lst xs) ∧ Reps U H ps xs
  | .dct ks => ∃ a kvs, v = .ref a ∧ Rd H a (.dK kvs) ∧ RepK U H ks kvs
  | .scr ns => ∃ a, v = .ref a ∧ Rd H a (.lst (ns.map V.int))
  | q => Rep U H q v
def isAdr : PV → Bool
  | .adr _ => true
  | _ => false
def SlotOk (U O : AS) (H : Hp) : Fl → PV → V → Prop
  | .shr, p, v => Rep U H p v
  | .own, p, v => ∃ a, v = .ref a ∧ O a ∧ Top U H p a
  | .bor, p, v => Bor U H p v ∧ (∀ a, v = .ref a → ¬ O a) ∧ isAdr p = false
theorem Rep.bor {U : AS} {H : Hp} {p : PV} {v : V} (h : Rep U H p v) : Bor U H p v := by
  cases p with
  | lst ps => obtain ⟨a, xs, e, _, r, q⟩ := rep_lst.mp h; exact ⟨a, xs, e, r, q⟩
  | dct ks => obtain ⟨a, xs, e, _, r, q⟩ := rep_dct.mp h; exact ⟨a, xs, e, r, q⟩
  | scr ns => obtain ⟨a, e, _, r⟩ := rep_scr.mp h; exact ⟨a, e, r⟩
  | _ => exact h
theorem Top.bor {U : AS} {H : Hp} {p : PV} {a : Addr} (h : Top U H p a) : Bor U H p (.ref a) := by
  cases p with
  | lst ps => obtain ⟨xs, r, q⟩ := h; exact ⟨a, xs, rfl, r, q⟩
  | dct ks => obtain ⟨xs, r, q⟩ := h; exact ⟨a, xs, rfl, .inl r, q⟩
  | _ => exact h.elim
theorem Top.rep {U : AS} {H : Hp} {p : PV} {a : Addr} (h : Top U H p a) (u : U a) : Rep U H p (.ref a) := by
  cases p with
  | lst ps => obtain ⟨xs, r, q⟩ := h; exact rep_lst.mpr ⟨a, xs, rfl, u, r, q⟩
  | dct ks => obtain ⟨xs, r, q⟩ := h; exact rep_dct.mpr ⟨a, xs, rfl, u, .inl r, q⟩
  | _ => exact h.elim
theorem Rd.dom {H : Hp} {a : Addr} {u : HO} (h : Rd H a u) : H a ≠ none := by
  rcases h with h | ⟨o, h⟩
  · rw [h]; intro z; cases z
  · rw [h]; intro z; cases z
theorem Top.notAdr {U : AS} {H : Hp} {p : PV} {a : Addr} (h : Top U H p a) : isAdr p = false := by
  cases p <;> first | rfl | exact h.elim
theorem Bor.dom {U : AS} {H : Hp} {p : PV} {a : Addr} (h : Bor U H p (.ref a)) (na : isAdr p = false) : H a ≠ none := by
  cases p with
  | adr b => cases na
  | lst ps => obtain ⟨b, xs, e, r, q⟩ := h; cases e; rw [r]; intro z; cases z
  | dct ks => obtain ⟨b, xs, e, r, q⟩ := h; cases e; exact r.dom
  | scr ns => obtain ⟨b, e, r⟩ := h; cases e; exact r.dom
  | tup ps => obtain ⟨b, xs, e, r, q⟩ := rep_tup.mp h; cases e; rw [r]; intro z; cases z
  | non => exact absurd ((rep_non (U := U) (H := H)).mp h) (by intro z; cases z)
  | bl b => exact absurd ((rep_bl (U := U) (H := H)).mp h) (by intro z; cases z)
  | int b => exact absurd ((rep_int (U := U) (H := H)).mp h) (by intro z; cases z)
  | str b => exact absurd ((rep_str (U := U) (H := H)).mp h) (by intro z; cases z)
def Mutb (H : Hp) (a : Addr) : Prop := ∃ o, H a = some o ∧ ∀ xs, o ≠ .tup xs
structure SR (U O : AS) (H : Hp) (σ : St) (ρ : PEnv) : Prop where
  len : σ.length = ρ.length
  dU : ∀ a, U a → H a ≠ none
  dO : ∀ a, O a → Mutb H a
  dis : ∀ a, U a → ¬ O a
  slot : ∀ (i : Nat) (p : PV) (fl : Fl), ρ[i]? = some (some (p, fl)) → ∃ v, σ[i]? = some (some v) ∧ SlotOk U O H fl p v
  inj : ∀ (i j : Nat) (p q : PV) (a : Addr), i ≠ j → ρ[i]? = some (some (p, .own)) → ρ[j]? = some (some (q, .own)) → σ[i]? = some (some (.ref a)) → σ[j]? ≠ some (some (.ref a))
structure Ext (U : AS) (H : Hp) (U' : AS) (H' : Hp) : Prop where
  same : Same H H'
  mono : ∀ a, U a → U' a
  new : ∀ a, U' a → U a ∨ H a = none
  dU : ∀ a, U' a → H' a ≠ none
theorem Same.rd {H H' : Hp} (s : Same H H') {a : Addr} {u : HO} (h : Rd H a u) : Rd H' a u := by
  rcases h with h | ⟨o, h⟩
  · exact .inl (s _ _ h)
  · exact .inr ⟨o, s _ _ h⟩
theorem Ext.keeps {U U' : AS} {H H' : Hp} (e : Ext U H U' H') : Keeps U H U' H' :=
  ⟨e.mono, fun a xs _ h => e.same _ _ h, fun a xs _ h => e.same.rd h, fun a kvs _ h => e.same.rd h, fun a xs h => e.same _ _ h⟩
theorem Ext.refl {U : AS} {H : Hp} (d : ∀ a, U a → H a ≠ none) : Ext U H U H := ⟨fun _ _ h => h, fun _ h => h, fun _ h => .inl h, d⟩
theorem Ext.trans {U U1 U2 : AS} {H H1 H2 : Hp} (a : Ext U H U1 H1) (b : Ext U1 H1 U2 H2) : Ext U H U2 H2 := by
  refine ⟨fun c o h => b.same c o (a.same c o h), fun c h => b.mono c (a.mono c h), fun c h => ?_, b.dU⟩
  rcases b.new c h with h | h
  · exact a.new c h
  · refine .inr ?_
    cases q : H c with
    | none => rfl
    | some o => rw [a.same c o q] at h; cases h
theorem Ext.laid {U : AS} {H : Hp} {a : Addr} {o : HO} (d : ∀ a, U a → H a ≠ none) (ha : H a = none) : Ext U H U (upd H a o) := by
  refine ⟨fun b u h => ?_, fun _ h => h, fun _ h => .inl h, fun b h => ?_⟩
  · rw [upd_ne (ne_of_none h ha)]; exact h
  · intro z
    by_cases e : b = a
    · subst e; exact d _ h ha
    · rw [upd_ne e] at z; exact d _ h z
theorem Ext.share {U U' : AS} {H H' : Hp} {a : Addr} (e : Ext U H U' H') (ha : H a = none) (ha' : H' a ≠ none) : Ext U H (fun b => U' b ∨ b = a) H' := by
  refine ⟨e.same, fun b h => .inl (e.mono b h), fun b h => ?_, fun b h => ?_⟩
  · rcases h with h | rfl
    · exact e.new b h
    · exact .inr ha
  · rcases h with h | rfl
    · exact e.dU b h
    · exact ha'
theorem Keeps.share {U : AS} {H : Hp} {a : Addr} : Keeps U H (fun b => U b ∨ b = a) H :=
  ⟨fun _ h => .inl h, fun _ _ _ h => h, fun _ _ _ h => h, fun _ _ _ h => h, fun _ _ h => h⟩
theorem Top.keeps {U U' : AS} {H H' : Hp} {p : PV} {a : Addr} (k : Keeps U H U' H') (ha : ∀ o, H a = some o → H' a = some o) (h : Top U H p a) : Top U' H' p a := by
  cases p with
  | lst ps => obtain ⟨xs, r, q⟩ := h; exact ⟨xs, ha _ r, Reps.keeps k _ _ q⟩
  | dct ks => obtain ⟨xs, r, q⟩ := h; exact ⟨xs, ha _ r, RepK.keeps k _ _ q⟩
  | _ => exact h.elim
theorem Bor.keeps {U U' : AS} {H H' : Hp} {p : PV} {v : V} (k : Keeps U H U' H') (s : Same H H') (h : Bor U H p v) : Bor U' H' p v := by
  cases p with
  | lst ps => obtain ⟨a, xs, e, r, q⟩ := h; exact ⟨a, xs, e, s _ _ r, Reps.keeps k _ _ q⟩
  | dct ks => obtain ⟨a, xs, e, r, q⟩ := h; exact ⟨a, xs, e, s.rd r, RepK.keeps k _ _ q⟩
  | scr ns => obtain ⟨a, e, r⟩ := h; exact ⟨a, e, s.rd r⟩
  | _ => exact Rep.keeps k _ _ h
theorem SR.ext {U O U' : AS} {H H' : Hp} {σ : St} {ρ : PEnv} (s : SR U O H σ ρ) (e : Ext U H U' H') : SR U' O H' σ ρ := by
  refine ⟨s.len, e.dU, fun a h => ?_, fun a h o => ?_, fun i p fl h => ?_, s.inj⟩
  · obtain ⟨o, h1, h2⟩ := s.dO a h
    exact ⟨o, e.same a o h1, h2⟩
  · rcases e.new a h with h | h
    · exact s.dis a h o
    · obtain ⟨u, h1, _⟩ := s.dO a o
      rw [h] at h1; cases h1
  · obtain ⟨v, hv, ok⟩ := s.slot i p fl h
    refine ⟨v, hv, ?_⟩
    cases fl with
    | shr => exact Rep.keeps e.keeps _ _ ok
    | own => obtain ⟨a, e1, e2, e3⟩ := ok; exact ⟨a, e1, e2, e3.keeps e.keeps fun o h => e.same _ _ h⟩
    | bor => exact ⟨Bor.keeps e.keeps e.same ok.1, ok.2⟩
inductive Md where | shr | fr | bor
def Res (m : Md) (H : Hp) (U' : AS) (H' : Hp) (p : PV) (v : V) : Prop := match m with
  | .shr => Rep U' H' p v
  | .fr => ∃ a, v = .ref a ∧ H a = none ∧ ¬ U' a ∧ Top U' H' p a
  | .bor => Bor U' H' p v
def VE (m : Md) (t : TE) (f : PEnv → Option PV) : Prop := ∀ (U O : AS) (H : Hp) (σ : St) (ρ : PEnv) (Q : VK) (p : PV), SR U O H σ ρ → f ρ = some p →
  (∀ v H' U', Ext U H U' H' → Res m H U' H' p v → Q v H') → t σ H Q
theorem VE.shr {t : TE} {f : PEnv → Option PV} (h : VE .fr t f) : VE .shr t f := by
  intro U O H σ ρ Q p s e k
  refine h U O H σ ρ Q p s e fun v H' U' ex ⟨a, ea, ha, hu, tp⟩ => ?_
  subst ea
  have hne : H' a ≠ none := by
    cases p with
    | lst ps => obtain ⟨xs, r, _⟩ := tp; rw [r]; intro z; cases z
    | dct ps => obtain ⟨xs, r, _⟩ := tp; rw [r]; intro z; cases z
    | _ => exact tp.elim
  exact k (.ref a) H' _ (ex.share ha hne) ((tp.keeps Keeps.share fun o h => h).rep (.inr rfl))
theorem VE.bor {m : Md} {t : TE} {f : PEnv → Option PV} (h : VE m t f) : VE .bor t f := by
  intro U O H σ ρ Q p s e k
  refine h U O H σ ρ Q p s e fun v H' U' ex r => k v H' U' ex ?_
  cases m with
  | shr => exact Rep.bor r
  | fr => obtain ⟨a, rfl, _, _, tp⟩ := r; exact tp.bor
  | bor => exact r
def VT (t : TT) (f : PEnv → Option Bool) : Prop := ∀ (U O : AS) (H : Hp) (σ : St) (ρ : PEnv) (Q : Bool → Hp → Prop) (b : Bool), SR U O H σ ρ → f ρ = some b →
  (∀ H' U', Ext U H U' H' → Q b H') → t σ H Q
inductive Bors (U : AS) (H : Hp) : List PV → List V → Prop
  | nil : Bors U H [] []
  | cons {p : PV} {v : V} {ps : List PV} {vs : List V} : Bor U H p v → Bors U H ps vs → Bors U H (p :: ps) (v :: vs)
def ResA (b : Bool) (U' : AS) (H' : Hp) (ps : List PV) (vs : List V) : Prop := if b = true then Bors U' H' ps vs else Reps U' H' ps vs
def VA (b : Bool) (t : TA) (f : PEnv → Option (List PV)) : Prop := ∀ (U O : AS) (H : Hp) (σ : St) (ρ : PEnv) (Q : List V → Hp → Prop) (ps : List PV), SR U O H σ ρ → f ρ = some ps →
  (∀ vs H' U', Ext U H U' H' → ResA b U' H' ps vs → Q vs H') → t σ H Q
inductive Out where
  | nx (ρ : PEnv) | bk (ρ : PEnv) | ct (ρ : PEnv) | rt (p : PV) (fr : Bool)
structure Tr (U O : AS) (H : Hp) (U' O' : AS) (H' : Hp) : Prop where
  fr : ∀ a o, H a = some o → ¬ O a → H' a = some o
  mono : ∀ a, U a → U' a
  new : ∀ a, U' a → U a ∨ O a ∨ H a = none
  own : ∀ a, O' a → O a ∨ H a = none
  dU : ∀ a, U' a → H' a ≠ none
  dm : ∀ a, H a ≠ none → H' a ≠ none
theorem Tr.refl {U O : AS} {H : Hp} (d : ∀ a, U a → H a ≠ none) : Tr U O H U O H := ⟨fun _ _ h _ => h, fun _ h => h, fun _ h => .inl h, fun _ h => .inl h, d, fun _ h => h⟩
theorem Tr.trans {U O U1 O1 U2 O2 : AS} {H H1 H2 : Hp} (a : Tr U O H U1 O1 H1) (b : Tr U1 O1 H1 U2 O2 H2) : Tr U O H U2 O2 H2 := by
  have back : ∀ c, H1 c = none → H c = none := fun c h => by
    cases q : H c with
    | none => rfl
    | some o => exact absurd h (a.dm c (by rw [q]; intro z; cases z))
  refine ⟨fun c o h n => b.fr c o (a.fr c o h n) fun z => ?_, fun c h => b.mono c (a.mono c h), fun c h => ?_, fun c h => ?_, b.dU, fun c h => b.dm c (a.dm c h)⟩
  · rcases a.own c z with z | z
    · exact n z
    · rw [h] at z; cases z
  · rcases b.new c h with h | h | h
    · exact a.new c h
    · rcases a.own c h with h | h
      · exact .inr (.inl h)
      · exact .inr (.inr h)
    · exact .inr (.inr (back c h))
  · rcases b.own c h with h | h
    · exact a.own c h
    · exact .inr (back c h)
theorem Ext.tr {U O U' : AS} {H H' : Hp} (e : Ext U H U' H') : Tr U O H U' O H' :=
  ⟨fun a o h _ => e.same a o h, e.mono, fun a h => (e.new a h).elim .inl fun z => .inr (.inr z), fun _ h => .inl h, e.dU, fun a h z => by
    cases q : H a with
    | none => exact h q
    | some o => rw [e.same a o q] at z; cases z⟩
theorem Tr.keeps {U O U' O' : AS} {H H' : Hp} (t : Tr U O H U' O' H') (dis : ∀ a, U a → ¬ O a) (dO : ∀ a, O a → Mutb H a) : Keeps U H U' H' := by
  refine ⟨t.mono, fun a xs u h => t.fr a _ h (dis a u), fun a xs u h => ?_, fun a kvs u h => ?_, fun a xs h => t.fr a _ h fun z => ?_⟩
  · rcases h with h | ⟨o, h⟩
    · exact .inl (t.fr a _ h (dis a u))
    · exact .inr ⟨o, t.fr a _ h (dis a u)⟩
  · rcases h with h | ⟨o, h⟩
    · exact .inl (t.fr a _ h (dis a u))
    · exact .inr ⟨o, t.fr a _ h (dis a u)⟩
  · obtain ⟨o, h1, h2⟩ := dO a z
    rw [h] at h1
    cases h1
    exact h2 xs rfl
def RetOk (fr : Bool) (O : AS) (H : Hp) (U' : AS) (H' : Hp) (p : PV) (v : V) : Prop :=
  if fr = true then ∃ a, v = .ref a ∧ ¬ U' a ∧ (H a = none ∨ O a) ∧ Top U' H' p a else Rep U' H' p v
def Post (U O : AS) (H : Hp) (D : Ends) : Out → Prop
  | .nx ρ' => ∀ U' O' H' σ', SR U' O' H' σ' ρ' → Tr U O H U' O' H' → D.nx σ' H'
  | .bk ρ' => ∀ U' O' H' σ', SR U' O' H' σ' ρ' → Tr U O H U' O' H' → D.bk σ' H'
  | .ct ρ' => ∀ U' O' H' σ', SR U' O' H' σ' ρ' → Tr U O H U' O' H' → D.ct σ' H'
  | .rt p fr => ∀ U' O' H' v, Tr U O H U' O' H' → RetOk fr O H U' H' p v → D.rt v H'
def VS (t : TS) (F : PEnv → Option Out) : Prop := ∀ (U O : AS) (H : Hp) (σ : St) (ρ : PEnv) (D : Ends) (o : Out), SR U O H σ ρ → F ρ = some o → Post U O H D o → t D σ H
end L2
namespace L2
open PySem PySem.Spec PyProof.Rows
theorem Tr.back {U O U1 O1 : AS} {H H1 : Hp} (a : Tr U O H U1 O1 H1) {c : Addr} (h : H1 c = none) : H c = none := by
  cases q : H c with
  | none => rfl
  | some o => exact absurd h (a.dm c (by rw [q]; intro z; cases z))
theorem RetOk.pre {fr : Bool} {U O U1 O1 U' : AS} {H H1 H' : Hp} {p : PV} {v : V} (t : Tr U O H U1 O1 H1) (r : RetOk fr O1 H1 U' H' p v) : RetOk fr O H U' H' p v := by
  cases fr with
  | false => exact r
  | true =>
    obtain ⟨a, e, nu, h, tp⟩ := r
    refine ⟨a, e, nu, ?_, tp⟩
    rcases h with h | h
    · exact .inl (t.back h)
    · rcases t.own a h with h | h
      · exact .inr h
      · exact .inl h
theorem Post.pre {U O U1 O1 : AS} {H H1 : Hp} {D : Ends} {o : Out} (t : Tr U O H U1 O1 H1) (q : Post U O H D o) : Post U1 O1 H1 D o := by
  cases o with
  | nx ρ' => exact fun U' O' H' σ' s r => q U' O' H' σ' s (t.trans r)
  | bk ρ' => exact fun U' O' H' σ' s r => q U' O' H' σ' s (t.trans r)
  | ct ρ' => exact fun U' O' H' σ' s r => q U' O' H' σ' s (t.trans r)
  | rt p fr => exact fun U' O' H' v r k => q U' O' H' v (t.trans r) (k.pre t)
abbrev VF := PEnv → Option Out
def vSkip : VF := fun ρ => some (.nx ρ)
def vSeq (F G : VF) : VF := fun ρ => match F ρ with
  | some (.nx ρ') => G ρ'
  | o => o
def vNone : VF := fun _ => none
def vRet (f : PEnv → Option PV) (fr : Bool) : VF := fun ρ => (f ρ).map fun p => .rt p fr
def vRetO (i : Nat) : VF := fun ρ => match ρ[i]? with
  | some (some (p, .own)) => some (.rt p true)
  | _ => none
def vBrk : VF := fun ρ => some (.bk ρ)
def vCnt : VF := fun ρ => some (.ct ρ)
def vIf (c : PEnv → Option Bool) (F G : VF) : VF := fun ρ => match c ρ with
  | some true => F ρ
  | some false => G ρ
  | none => none
def vSetS (i : Nat) (f : PEnv → Option PV) : VF := fun ρ => (f ρ).map fun p => .nx (ρ.set i (some (p, .shr)))
def vSetO (i : Nat) (f : PEnv → Option PV) : VF := fun ρ => (f ρ).map fun p => .nx (ρ.set i (some (p, .own)))
def vDrop (f : PEnv → Option PV) : VF := fun ρ => (f ρ).map fun _ => .nx ρ
theorem vs_skip : VS tNext vSkip := by
  intro U O H σ ρ D o s e q
  cases e
  exact q U O H σ s (.refl s.dU)
theorem vs_never : VS tNever vNone := by
  intro U O H σ ρ D o s e q
  cases e
theorem vs_seq {t u : TS} {F G : VF} (h : VS t F) (g : VS u G) : VS (tSeq t u) (vSeq F G) := by
  intro U O H σ ρ D o s e q
  unfold vSeq at e
  cases z : F ρ with
  | none => rw [z] at e; cases e
  | some o1 =>
    rw [z] at e
    refine h U O H σ ρ { D with nx := u D } o1 s z ?_
    cases o1 with
    | nx ρ1 => exact fun U1 O1 H1 σ1 s1 r1 => g U1 O1 H1 σ1 ρ1 D o s1 e (q.pre r1)
    | bk ρ1 => cases e; exact q
    | ct ρ1 => cases e; exact q
    | rt p fr => cases e; exact q
theorem vs_if {c : TT} {t u : TS} {fc : PEnv → Option Bool} {F G : VF} (hc : VT c fc) (h : VS t F) (g : VS u G) : VS (tIfS c t u) (vIf fc F G) := by
  intro U O H σ ρ D o s e q
  unfold vIf at e
  cases z : fc ρ with
  | none => rw [z] at e; cases e
  | some b =>
    rw [z] at e
    refine hc U O H σ ρ _ b s z fun H' U' ex => ?_
    cases b with
    | true => exact h U' O H' σ ρ D o (s.ext ex) e (q.pre ex.tr)
    | false => exact g U' O H' σ ρ D o (s.ext ex) e (q.pre ex.tr)
theorem vs_retS {te : TE} {f : PEnv → Option PV} (h : VE .shr te f) : VS (tRet te) (vRet f false) := by
  intro U O H σ ρ D o s e q
  unfold vRet at e
  obtain ⟨p, hp, rfl⟩ := Option.map_eq_some_iff.mp e
  exact h U O H σ ρ _ p s hp fun v H' U' ex r => q U' O H' v ex.tr r
theorem get_set_some {α : Type} {l : List α} {i j : Nat} {x y : α} (h : (l.set i x)[j]? = some y) : (i = j ∧ y = x ∧ i < l.length) ∨ (i ≠ j ∧ l[j]? = some y) := by
  rw [List.getElem?_set] at h
  by_cases e : i = j
  · subst e
    simp only [if_true] at h
    by_cases hl : i < l.length
    · simp only [hl, if_true] at h; exact .inl ⟨rfl, (Option.some.inj h).symm, hl⟩
    · simp only [hl, if_false] at h; cases h
  · simp only [e, if_false] at h
    exact .inr ⟨e, h⟩
theorem set_same {α : Type} {l : List α} {i : Nat} {x : α} (h : i < l.length) : (l.set i x)[i]? = some x := by simp [h]
theorem set_other {α : Type} {l : List α} {i j : Nat} {x : α} (h : i ≠ j) : (l.set i x)[j]? = l[j]? := by simp [h]
theorem SR.setS {U O : AS} {H : Hp} {σ : St} {ρ : PEnv} {i : Nat} {p : PV} {v : V} (s : SR U O H σ ρ) (r : Rep U H p v) : SR U O H (σ.set i (some v)) (ρ.set i (some (p, .shr))) := by
  refine ⟨by simp [s.len], s.dU, s.dO, s.dis, fun j q fl h => ?_, fun j k q q' a ne h1 h2 h3 h4 => ?_⟩
  · rcases get_set_some h with ⟨rfl, e, hl⟩ | ⟨ne, h⟩
    · cases e
      exact ⟨v, set_same (by rw [s.len]; exact hl), r⟩
    · obtain ⟨w, hw, ok⟩ := s.slot j q fl h
      exact ⟨w, by rw [set_other ne]; exact hw, ok⟩
  · rcases get_set_some h1 with ⟨_, e, _⟩ | ⟨n1, h1⟩
    · cases e
    rcases get_set_some h2 with ⟨_, e, _⟩ | ⟨n2, h2⟩
    · cases e
    rw [set_other n1] at h3
    rw [set_other n2] at h4
    exact s.inj j k q q' a ne h1 h2 h3 h4
theorem SR.setO {U O : AS} {H : Hp} {σ : St} {ρ : PEnv} {i : Nat} {p : PV} {a : Addr} (s : SR U O H σ ρ) (no : ¬ O a) (nu : ¬ U a) (nb : ∀ (j : Nat) (q : PV), ρ[j]? = some (some (q, .bor)) → σ[j]? ≠ some (some (.ref a))) (tp : Top U H p a) : SR U (fun b => O b ∨ b = a) H (σ.set i (some (.ref a))) (ρ.set i (some (p, .own))) := by
  have mu : Mutb H a := by
    cases p with
    | lst ps => obtain ⟨xs, r, _⟩ := tp; exact ⟨_, r, fun _ z => nomatch z⟩
    | dct ks => obtain ⟨xs, r, _⟩ := tp; exact ⟨_, r, fun _ z => nomatch z⟩
    | _ => exact tp.elim
  have hold : ∀ (j : Nat) (q : PV), ρ[j]? = some (some (q, .own)) → σ[j]? ≠ some (some (.ref a)) := fun j q h z => by
    obtain ⟨w, hw, b, rfl, ob, _⟩ := s.slot j q .own h
    rw [hw] at z; cases z
    exact no ob
  refine ⟨by simp [s.len], s.dU, fun b h => ?_, fun b u h => ?_, fun j q fl h => ?_, fun j k q q' b ne h1 h2 h3 h4 => ?_⟩
  · rcases h with h | rfl
    · exact s.dO b h
    · exact mu
  · rcases h with h | rfl
    · exact s.dis b u h
    · exact nu u
  · rcases get_set_some h with ⟨rfl, e, hl⟩ | ⟨ne, h⟩
    · cases e
      exact ⟨.ref a, set_same (by rw [s.len]; exact hl), a, rfl, .inr rfl, tp⟩
    · obtain ⟨w, hw, ok⟩ := s.slot j q fl h
      refine ⟨w, by rw [set_other ne]; exact hw, ?_⟩
      cases fl with
      | shr => exact ok
      | own => obtain ⟨b, e1, e2, e3⟩ := ok; exact ⟨b, e1, .inl e2, e3⟩
      | bor =>
        refine ⟨ok.1, fun b e z => ?_, ok.2.2⟩
        subst e
        rcases z with z | rfl
        · exact ok.2.1 b rfl z
        · exact nb j q h hw
  · rcases get_set_some h1 with ⟨rfl, e, hl⟩ | ⟨n1, h1⟩
    · cases e
      rcases get_set_some h2 with ⟨e, _, _⟩ | ⟨n2, h2⟩
      · exact ne e
      rw [set_same (by rw [s.len]; exact hl)] at h3
      cases h3
      rw [set_other n2] at h4
      exact hold k q' h2 h4
    · rw [set_other n1] at h3
      rcases get_set_some h2 with ⟨rfl, e, hl⟩ | ⟨n2, h2⟩
      · cases e
        rw [set_same (by rw [s.len]; exact hl)] at h4
        cases h4
        exact hold j q h1 h3
      · rw [set_other n2] at h4
        exact s.inj j k q q' b ne h1 h2 h3 h4
theorem vs_setS {i : Nat} {te : TE} {f : PEnv → Option PV} (h : VE .shr te f) : VS (tAsg te (gName i)) (vSetS i f) := by
  intro U O H σ ρ D o s e q
  obtain ⟨p, hp, rfl⟩ := Option.map_eq_some_iff.mp e
  exact h U O H σ ρ _ p s hp fun v H' U' ex r => q U' O H' _ ((s.ext ex).setS r) ex.tr
theorem own_tr {U O : AS} {H : Hp} {a : Addr} (d : ∀ a, U a → H a ≠ none) {U' : AS} {H' : Hp} (ex : Ext U H U' H') (ha : H a = none) : Tr U O H U' (fun b => O b ∨ b = a) H' :=
  have t := ex.tr (O := O)
  ⟨t.fr, t.mono, t.new, fun b h => h.elim .inl fun e => .inr (by rw [e]; exact ha), t.dU, t.dm⟩
theorem SR.noO {U O : AS} {H : Hp} {σ : St} {ρ : PEnv} (s : SR U O H σ ρ) {a : Addr} (ha : H a = none) : ¬ O a := fun z => by
  obtain ⟨u, h1, _⟩ := s.dO a z
  rw [ha] at h1; cases h1
theorem SR.noB {U O : AS} {H : Hp} {σ : St} {ρ : PEnv} (s : SR U O H σ ρ) {a : Addr} (ha : H a = none) (j : Nat) (q : PV) (h : ρ[j]? = some (some (q, .bor))) : σ[j]? ≠ some (some (.ref a)) := fun z => by
  obtain ⟨v, hv, ok⟩ := s.slot j q .bor h
  rw [hv] at z; cases z
  exact ok.1.dom ok.2.2 ha
theorem vs_setcompS {j : Nat} {src : List (Option Nat)} {wi : TI} {g : TG} {tif : TT} {te : TE} {f : PEnv → Option PV} (h : VE .fr (tComp src wi g tif te) f) : VS (tSetComp j src wi g tif te) (vSetS j f) := by
  intro U O H σ ρ D o s e q
  obtain ⟨p, hp, rfl⟩ := Option.map_eq_some_iff.mp e
  exact h.shr U O H σ ρ _ p s hp fun v H' U' ex r => q U' O H' _ ((s.ext ex).setS r) ex.tr
theorem vs_setcompO {j : Nat} {src : List (Option Nat)} {wi : TI} {g : TG} {tif : TT} {te : TE} {f : PEnv → Option PV} (h : VE .fr (tComp src wi g tif te) f) : VS (tSetComp j src wi g tif te) (vSetO j f) := by
  intro U O H σ ρ D o s e q
  obtain ⟨p, hp, rfl⟩ := Option.map_eq_some_iff.mp e
  refine h U O H σ ρ _ p s hp fun v H' U' ex ⟨a, ea, ha, hu, tp⟩ => ?_
  subst ea
  exact q U' _ H' _ ((s.ext ex).setO (s.noO ha) hu (s.noB ha) tp) (own_tr s.dU ex ha)
end L2
namespace L2
open PySem PySem.Spec PyProof.Rows
abbrev VX := PEnv → Option PV
abbrev VB := PEnv → Option Bool
abbrev VL := PEnv → Option (List PV)
theorem repI (U : AS) (H : Hp) (i : Int) : Rep U H (.int i) (.int i) := rep_int.mpr rfl
theorem repB (U : AS) (H : Hp) (i : Bool) : Rep U H (.bl i) (.bl i) := rep_bl.mpr rfl
theorem repX (U : AS) (H : Hp) (i : Str) : Rep U H (.str i) (.str i) := rep_str.mpr rfl
theorem repN (U : AS) (H : Hp) : Rep U H .non .non := rep_non.mpr rfl
def xVar (i : Nat) : VX := fun ρ => match ρ[i]? with
  | some (some (p, _)) => some p
  | _ => none
def xVarS (i : Nat) : VX := fun ρ => match ρ[i]? with
  | some (some (p, .shr)) => some p
  | _ => none
def xC (p : PV) : VX := fun _ => some p
def x1 (g : PV → Option PV) (f : VX) : VX := fun ρ => (f ρ).bind g
def x2 (g : PV → PV → Option PV) (f h : VX) : VX := fun ρ => (f ρ).bind fun p => (h ρ).bind fun q => g p q
def xL (g : List PV → Option PV) (f : VL) : VX := fun ρ => (f ρ).bind g
def lNil : VL := fun _ => some []
def lCons (f : VX) (r : VL) : VL := fun ρ => (f ρ).bind fun p => (r ρ).bind fun ps => some (p :: ps)
theorem ve_varS {i : Nat} : VE .shr (tVar i) (xVarS i) := by
  intro U O H σ ρ Q p s e k
  unfold xVarS at e
  split at e
  · rename_i q hq
    cases e
    obtain ⟨v, hv, ok⟩ := s.slot i p .shr hq
    exact ⟨v, hv, k v H U (.refl s.dU) ok⟩
  · cases e
theorem ve_int {i : Int} : VE .shr (tC (.int i)) (xC (.int i)) := fun U O H σ ρ Q p s e k => by cases e; exact k _ H U (.refl s.dU) (repI U H _)
theorem ve_bl {i : Bool} : VE .shr (tC (.bl i)) (xC (.bl i)) := fun U O H σ ρ Q p s e k => by cases e; exact k _ H U (.refl s.dU) (repB U H _)
theorem ve_str {i : Str} : VE .shr (tC (.str i)) (xC (.str i)) := fun U O H σ ρ Q p s e k => by cases e; exact k _ H U (.refl s.dU) (repX U H _)
theorem ve_non : VE .shr (tC .non) (xC .non) := fun U O H σ ρ Q p s e k => by cases e; exact k _ H U (.refl s.dU) (repN U H)
def R2V (m : Md) (r : R2) (g : PV → PV → Option PV) : Prop := ∀ (U : AS) (H : Hp) (p q z : PV) (v w : V) (Q : VK), (∀ a, U a → H a ≠ none) → Bor U H p v → Bor U H q w → g p q = some z →
  (∀ u H' U', Ext U H U' H' → Res m H U' H' z u → Q u H') → r v w H Q
def RLV (m : Md) (r : List V → Hp → VK → Prop) (g : List PV → Option PV) : Prop := ∀ (U : AS) (H : Hp) (ps : List PV) (z : PV) (vs : List V) (Q : VK), (∀ a, U a → H a ≠ none) → Bors U H ps vs → g ps = some z →
  (∀ u H' U', Ext U H U' H' → Res m H U' H' z u → Q u H') → r vs H Q
theorem Res.pre {m : Md} {U1 U' : AS} {H H1 H' : Hp} {p : PV} {v : V} (s : Same H H1) (r : Res m H1 U' H' p v) : Res m H U' H' p v := by
  cases m with
  | shr => exact r
  | bor => exact r
  | fr =>
    obtain ⟨a, e, ha, h2⟩ := r
    refine ⟨a, e, ?_, h2⟩
    cases q : H a with
    | none => rfl
    | some o => rw [s a o q] at ha; cases ha
theorem ve_op {m ma mb : Md} {r : R2} {ta tb : TE} {fa fb : VX} {g : PV → PV → Option PV} (hr : R2V m r g) (ha : VE ma ta fa) (hb : VE mb tb fb) : VE m (tOp r ta tb) (x2 g fa fb) := by
  intro U O H σ ρ Q z s e k
  unfold x2 at e
  obtain ⟨p, hp, e⟩ := Option.bind_eq_some_iff.mp e
  obtain ⟨q, hq, e⟩ := Option.bind_eq_some_iff.mp e
  refine ha.bor U O H σ ρ _ p s hp fun v H1 U1 ex1 r1 => ?_
  refine hb.bor U1 O H1 σ ρ _ q (s.ext ex1) hq fun w H2 U2 ex2 r2 => ?_
  exact hr U2 H2 p q z v w Q ex2.dU (Bor.keeps ex2.keeps ex2.same r1) r2 e fun u H3 U3 ex3 r3 => k u H3 U3 (ex1.trans (ex2.trans ex3)) (Res.pre (U1 := U2) (ex1.trans ex2).same r3)
theorem va_nil {b : Bool} : VA b tNil lNil := by
  intro U O H σ ρ Q ps s e k
  cases e
  refine k [] H U (.refl s.dU) ?_
  cases b with
  | true => exact Bors.nil
  | false => exact (reps_nil (U := U) (H := H)).mpr rfl
theorem va_consB {ma : Md} {te : TE} {t : TA} {f : VX} {g : VL} (h : VE ma te f) (r : VA true t g) : VA true (tCons te t) (lCons f g) := by
  intro U O H σ ρ Q ps s e k
  unfold lCons at e
  obtain ⟨p, hp, e⟩ := Option.bind_eq_some_iff.mp e
  obtain ⟨qs, hq, e⟩ := Option.bind_eq_some_iff.mp e
  cases e
  refine h.bor U O H σ ρ _ p s hp fun v H1 U1 ex1 r1 => ?_
  refine r U1 O H1 σ ρ _ qs (s.ext ex1) hq fun vs H2 U2 ex2 r2 => ?_
  exact k (v :: vs) H2 U2 (ex1.trans ex2) (.cons (Bor.keeps ex2.keeps ex2.same r1) r2)
theorem va_consS {te : TE} {t : TA} {f : VX} {g : VL} (h : VE .shr te f) (r : VA false t g) : VA false (tCons te t) (lCons f g) := by
  intro U O H σ ρ Q ps s e k
  unfold lCons at e
  obtain ⟨p, hp, e⟩ := Option.bind_eq_some_iff.mp e
  obtain ⟨qs, hq, e⟩ := Option.bind_eq_some_iff.mp e
  cases e
  refine h U O H σ ρ _ p s hp fun v H1 U1 ex1 r1 => ?_
  refine r U1 O H1 σ ρ _ qs (s.ext ex1) hq fun vs H2 U2 ex2 r2 => ?_
  exact k (v :: vs) H2 U2 (ex1.trans ex2) (reps_cons.mpr ⟨v, vs, rfl, Rep.keeps ex2.keeps _ _ r1, r2⟩)
def ofConst : V → Option PV
  | .int i => some (.int i) | .str x => some (.str x) | .bl b => some (.bl b) | .non => some .non | _ => none
theorem rep_const {U : AS} {H : Hp} {v : V} {p : PV} (h : ofConst v = some p) : Rep U H p v := by
  cases v <;> simp [ofConst] at h <;> subst h
  · exact rep_non.mpr rfl
  · exact rep_bl.mpr rfl
  · exact rep_int.mpr rfl
  · exact rep_str.mpr rfl
inductive Consts : List V → List PV → Prop
  | nil : Consts [] []
  | cons {v : V} {p : PV} {vs : List V} {ps : List PV} : ofConst v = some p → Consts vs ps → Consts (v :: vs) (p :: ps)
theorem Consts.reps {U : AS} {H : Hp} : ∀ {vs : List V} {ps : List PV}, Consts vs ps → Reps U H ps vs
  | _, _, .nil => reps_nil.mpr rfl
  | _, _, .cons a b => reps_cons.mpr ⟨_, _, rfl, rep_const a, b.reps⟩
theorem va_ks {vs : List V} {ps : List PV} (h : Consts vs ps) : VA false (tKs vs) (fun _ => some ps) := by
  intro U O H σ ρ Q qs s e k
  cases e
  exact k vs H U (.refl s.dU) h.reps
def small? (n : Nat) : Bool := decide (n ≤ 1000000)
theorem small_le {n : Nat} (h : small? n = true) : n ≤ sizeLine := Nat.le_trans (of_decide_eq_true h) (by decide)
def mkLst (ps : List PV) : Option PV := if small? ps.length then some (.lst ps) else none
def mkTup (ps : List PV) : Option PV := if small? ps.length then some (.tup ps) else none
theorem some_if {α : Type} {c : Bool} {x y : α} (h : (if c = true then some x else none) = some y) : c = true ∧ x = y := by
  cases c with
  | true => exact ⟨rfl, by simpa using h⟩
  | false => cases h
theorem nU {U : AS} {H : Hp} (d : ∀ a, U a → H a ≠ none) {a : Addr} (h : H a = none) : ¬ U a := fun u => d a u h
theorem new_lst {U : AS} {H : Hp} {ps : List PV} {xs : List V} {a : Addr} (d : ∀ a, U a → H a ≠ none) (ha : H a = none) (r : Reps U H ps xs) : Ext U H U (upd H a (.lst xs)) ∧ Res .fr H U (upd H a (.lst xs)) (.lst ps) (.ref a) :=
  ⟨.laid d ha, a, rfl, ha, nU d ha, xs, upd_same, Reps.keeps (Ext.laid d ha).keeps _ _ r⟩
theorem new_tup {U : AS} {H : Hp} {ps : List PV} {xs : List V} {a : Addr} (d : ∀ a, U a → H a ≠ none) (ha : H a = none) (r : Reps U H ps xs) : Ext U H U (upd H a (.tup xs)) ∧ Res .shr H U (upd H a (.tup xs)) (.tup ps) (.ref a) :=
  ⟨.laid d ha, rep_tup.mpr ⟨a, xs, rfl, upd_same, Reps.keeps (Ext.laid d ha).keeps _ _ r⟩⟩
theorem ve_lst {t : TA} {f : VL} (h : VA false t f) : VE .fr (tLst t) (xL mkLst f) := by
  intro U O H σ ρ Q z s e k
  obtain ⟨ps, hp, e⟩ := Option.bind_eq_some_iff.mp e
  obtain ⟨hs, rfl⟩ := some_if e
  refine h U O H σ ρ _ ps s hp fun vs H1 U1 ex1 (r1 : Reps U1 H1 ps vs) => ⟨by rw [r1.length]; exact small_le hs, fun a ha => ?_⟩
  obtain ⟨e2, r2⟩ := new_lst ex1.dU ha r1
  exact k _ _ U1 (ex1.trans e2) (Res.pre (U1 := U1) ex1.same r2)
theorem ve_tup {t : TA} {f : VL} (h : VA false t f) : VE .shr (tTup t) (xL mkTup f) := by
  intro U O H σ ρ Q z s e k
  obtain ⟨ps, hp, e⟩ := Option.bind_eq_some_iff.mp e
  obtain ⟨hs, rfl⟩ := some_if e
  refine h U O H σ ρ _ ps s hp fun vs H1 U1 ex1 (r1 : Reps U1 H1 ps vs) => ⟨by rw [r1.length]; exact small_le hs, fun a ha => ?_⟩
  obtain ⟨e2, r2⟩ := new_tup ex1.dU ha r1
  exact k _ _ U1 (ex1.trans e2) r2
def isB : PV → Option Bool
  | .bl b => some b
  | _ => none
def bOf (f : VX) : VB := fun ρ => (f ρ).bind isB
def bAnd (f g : VB) : VB := fun ρ => match f ρ with
  | some true => g ρ
  | some false => some false
  | none => none
def bOr (f g : VB) : VB := fun ρ => match f ρ with
  | some true => some true
  | some false => g ρ
  | none => none
def bNot (f : VB) : VB := fun ρ => (f ρ).map (!·)
def xB (f : VB) : VX := fun ρ => (f ρ).map PV.bl
theorem isB_some {p : PV} {b : Bool} (h : isB p = some b) : p = .bl b := by cases p <;> simp [isB] at h; rw [h]
theorem bor_bl {U : AS} {H : Hp} {b : Bool} {v : V} (h : Bor U H (.bl b) v) : v = .bl b := (rep_bl (U := U) (H := H)).mp h
theorem bor_int {U : AS} {H : Hp} {b : Int} {v : V} (h : Bor U H (.int b) v) : v = .int b := (rep_int (U := U) (H := H)).mp h
theorem bor_str {U : AS} {H : Hp} {b : Str} {v : V} (h : Bor U H (.str b) v) : v = .str b := (rep_str (U := U) (H := H)).mp h
theorem vt_val {m : Md} {t : TE} {f : VX} (h : VE m t f) : VT (tB t) (bOf f) := by
  intro U O H σ ρ Q b s e k
  obtain ⟨p, hp, e⟩ := Option.bind_eq_some_iff.mp e
  have := isB_some e; subst this
  exact h.bor U O H σ ρ _ _ s hp fun v H1 U1 ex1 r1 => ⟨b, bor_bl (U := U1) (H := H1) r1, k H1 U1 ex1⟩
theorem vt_test {m : Md} {t : TE} {f : VX} (h : VE m t f) : VT (tTest t) (bOf f) := vt_val h
theorem vt_and {t u : TT} {f g : VB} (h : VT t f) (k : VT u g) : VT (tAnd t u) (bAnd f g) := by
  intro U O H σ ρ Q b s e q
  unfold bAnd at e
  cases z : f ρ with
  | none => rw [z] at e; cases e
  | some c =>
    rw [z] at e
    refine h U O H σ ρ _ c s z fun H1 U1 ex1 => ?_
    cases c with
    | true => exact k U1 O H1 σ ρ Q b (s.ext ex1) e fun H2 U2 ex2 => q H2 U2 (ex1.trans ex2)
    | false => cases e; exact q H1 U1 ex1
theorem vt_or {t u : TT} {f g : VB} (h : VT t f) (k : VT u g) : VT (tOr t u) (bOr f g) := by
  intro U O H σ ρ Q b s e q
  unfold bOr at e
  cases z : f ρ with
  | none => rw [z] at e; cases e
  | some c =>
    rw [z] at e
    refine h U O H σ ρ _ c s z fun H1 U1 ex1 => ?_
    cases c with
    | false => exact k U1 O H1 σ ρ Q b (s.ext ex1) e fun H2 U2 ex2 => q H2 U2 (ex1.trans ex2)
    | true => cases e; exact q H1 U1 ex1
theorem vt_not {t : TT} {f : VB} (h : VT t f) : VT (tNot t) (bNot f) := by
  intro U O H σ ρ Q b s e q
  obtain ⟨c, hc, rfl⟩ := Option.map_eq_some_iff.mp e
  exact h U O H σ ρ _ c s hc q
theorem ve_and {ma mb : Md} {ta tb : TE} {f g : VX} (h : VE ma ta f) (k : VE mb tb g) : VE .shr (tAndV ta tb) (xB (bAnd (bOf f) (bOf g))) := by
  intro U O H σ ρ Q z s e q
  obtain ⟨b, hb, rfl⟩ := Option.map_eq_some_iff.mp e
  unfold bAnd at hb
  cases z : bOf f ρ with
  | none => rw [z] at hb; cases hb
  | some c =>
    rw [z] at hb
    obtain ⟨p, hp, e⟩ := Option.bind_eq_some_iff.mp z
    have := isB_some e; subst this
    refine h.bor U O H σ ρ _ _ s hp fun v H1 U1 ex1 r1 => ⟨c, bor_bl (U := U1) (H := H1) r1, ?_⟩
    cases c with
    | true =>
      obtain ⟨p2, hp2, e2⟩ := Option.bind_eq_some_iff.mp hb
      have := isB_some e2; subst this
      exact k.bor U1 O H1 σ ρ Q _ (s.ext ex1) hp2 fun v2 H2 U2 ex2 r2 => q v2 H2 U2 (ex1.trans ex2) r2
    | false => cases hb; exact q _ H1 U1 ex1 (repB U1 H1 _)
theorem ve_or {ma mb : Md} {ta tb : TE} {f g : VX} (h : VE ma ta f) (k : VE mb tb g) : VE .shr (tOrV ta tb) (xB (bOr (bOf f) (bOf g))) := by
  intro U O H σ ρ Q z s e q
  obtain ⟨b, hb, rfl⟩ := Option.map_eq_some_iff.mp e
  unfold bOr at hb
  cases z : bOf f ρ with
  | none => rw [z] at hb; cases hb
  | some c =>
    rw [z] at hb
    obtain ⟨p, hp, e⟩ := Option.bind_eq_some_iff.mp z
    have := isB_some e; subst this
    refine h.bor U O H σ ρ _ _ s hp fun v H1 U1 ex1 r1 => ⟨c, bor_bl (U := U1) (H := H1) r1, ?_⟩
    cases c with
    | false =>
      obtain ⟨p2, hp2, e2⟩ := Option.bind_eq_some_iff.mp hb
      have := isB_some e2; subst this
      exact k.bor U1 O H1 σ ρ Q _ (s.ext ex1) hp2 fun v2 H2 U2 ex2 r2 => q v2 H2 U2 (ex1.trans ex2) r2
    | true => cases hb; exact q _ H1 U1 ex1 (repB U1 H1 _)
theorem ve_not {ma : Md} {ta : TE} {f : VX} (h : VE ma ta f) : VE .shr (tNotV ta) (xB (bNot (bOf f))) := by
  intro U O H σ ρ Q z s e q
  obtain ⟨b, hb, rfl⟩ := Option.map_eq_some_iff.mp e
  obtain ⟨c, hc, rfl⟩ := Option.map_eq_some_iff.mp hb
  obtain ⟨p, hp, e⟩ := Option.bind_eq_some_iff.mp hc
  have := isB_some e; subst this
  exact h.bor U O H σ ρ _ _ s hp fun v H1 U1 ex1 r1 => ⟨c, bor_bl (U := U1) (H := H1) r1, q _ H1 U1 ex1 (repB U1 H1 _)⟩
def xIf (c : VB) (f g : VX) : VX := fun ρ => match c ρ with
  | some true => f ρ
  | some false => g ρ
  | none => none
theorem ve_if {m : Md} {c : TT} {ta tb : TE} {fc : VB} {f g : VX} (hc : VT c fc) (h : VE m ta f) (k : VE m tb g) : VE m (tIf c ta tb) (xIf fc f g) := by
  intro U O H σ ρ Q p s e q
  unfold xIf at e
  cases z : fc ρ with
  | none => rw [z] at e; cases e
  | some b =>
    rw [z] at e
    refine hc U O H σ ρ _ b s z fun H1 U1 ex1 => ?_
    cases b with
    | true => exact h U1 O H1 σ ρ Q p (s.ext ex1) e fun v H2 U2 ex2 r => q v H2 U2 (ex1.trans ex2) (Res.pre (U1 := U1) ex1.same r)
    | false => exact k U1 O H1 σ ρ Q p (s.ext ex1) e fun v H2 U2 ex2 r => q v H2 U2 (ex1.trans ex2) (Res.pre (U1 := U1) ex1.same r)
end L2
namespace L2
open PySem PySem.Spec PyProof.Rows
structure Walk (U0 : AS) (H0 : Hp) (J : It) (xs : List PV) : Prop where
  go : ∀ (i : Nat) (U : AS) (H : Hp), Keeps U0 H0 U H → (∀ a, U a → H a ≠ none) → ∀ x, xs[i]? = some x → J.go i H ∧ ∀ v H', J.yld i H v H' → ∃ U', Ext U H U' H' ∧ Rep U' H' x v
  stop : ∀ (U : AS) (H : Hp), Keeps U0 H0 U H → J.stop xs.length H
def VI (wi : TI) (it : VL) : Prop := ∀ (U O : AS) (H : Hp) (σ : St) (ρ : PEnv) (R : It → Hp → Prop) (xs : List PV), SR U O H σ ρ → it ρ = some xs → (∀ J H' U', Ext U H U' H' → Walk U' H' J xs → R J H') → wi σ H R
abbrev VTg := PV → PEnv → Option PEnv
def VG (g : TG) (tg : VTg) : Prop := ∀ (U O : AS) (H : Hp) (σ : St) (ρ ρ' : PEnv) (p : PV) (v : V) (K : St → Hp → Prop), SR U O H σ ρ → Rep U H p v → tg p ρ = some ρ' → (∀ σ', SR U O H σ' ρ' → K σ' H) → g v σ H K
def gN (i : Nat) : VTg := fun p ρ => some (ρ.set i (some (p, .shr)))
theorem vg_name {i : Nat} : VG (gName i) (gN i) := by
  intro U O H σ ρ ρ' p v K s r e k
  cases e
  exact k _ (s.setS r)
def gAll : List Nat → List PV → PEnv → Option PEnv
  | [], [], ρ => some ρ
  | i :: is, p :: ps, ρ => gAll is ps (ρ.set i (some (p, .shr)))
  | _, _, _ => none
def gT (is : List Nat) : VTg := fun p ρ => match p with
  | .tup ps => gAll is ps ρ
  | _ => none
def vLoop (tg : VTg) (body : VF) : List PV → PEnv → Option Out
  | [], ρ => some (.nx ρ)
  | x :: xs, ρ => match tg x ρ with
    | none => none
    | some ρ1 => match body ρ1 with
      | some (.nx ρ') => vLoop tg body xs ρ'
      | some (.ct ρ') => vLoop tg body xs ρ'
      | some (.bk ρ') => some (.nx ρ')
      | some (.rt p b) => some (.rt p b)
      | none => none
def vFor (it : VL) (tg : VTg) (body : VF) : VF := fun ρ => (it ρ).bind fun xs => vLoop tg body xs ρ
theorem drop_get {α : Type} {xs : List α} {i : Nat} {x : α} (h : xs[i]? = some x) : xs.drop i = x :: xs.drop (i + 1) := by
  have hl := (List.getElem?_eq_some_iff.mp h).1
  rw [List.drop_eq_getElem_cons hl]
  rw [List.getElem?_eq_getElem hl] at h
  rw [Option.some.inj h]
theorem vs_for {wi : TI} {g : TG} {tb : TS} {it : VL} {tg : VTg} {body : VF} (hi : VI wi it) (hg : VG g tg) (hb : VS tb body) : VS (tFor wi g tb) (vFor it tg body) := by
  intro U O H σ ρ D o s e q
  obtain ⟨xs, hxs, e⟩ := Option.bind_eq_some_iff.mp e
  refine hi U O H σ ρ _ xs s hxs fun J H1 U1 ex wk => ?_
  have s1 := s.ext ex
  have q1 : Post U1 O H1 D o := q.pre ex.tr
  refine ⟨fun i m σ' H' => ∃ U' O' ρ', SR U' O' H' σ' ρ' ∧ Tr U1 O H1 U' O' H' ∧ i ≤ xs.length ∧ m = xs.length - i ∧ vLoop tg body (xs.drop i) ρ' = some o, ⟨_, U1, O, ρ, s1, .refl s1.dU, Nat.zero_le _, rfl, by simpa using e⟩, ?_⟩
  rintro i m σ' H' ⟨U', O', ρ', s', tr, hi', rfl, e'⟩
  have kp : Keeps U1 H1 U' H' := tr.keeps s1.dis s1.dO
  cases hx : xs[i]? with
  | none =>
    have hl : xs.length ≤ i := List.getElem?_eq_none_iff.mp hx
    have hii : i = xs.length := by omega
    subst hii
    rw [List.drop_length] at e'
    unfold vLoop at e'
    cases e'
    exact .inl ⟨wk.stop U' H' kp, q1 U' O' H' σ' s' tr⟩
  | some x =>
    have hl := (List.getElem?_eq_some_iff.mp hx).1
    obtain ⟨hgo, hy⟩ := wk.go i U' H' kp s'.dU x hx
    rw [drop_get hx] at e'
    refine .inr ⟨hgo, fun σ2 H2 => ∃ m', m' < xs.length - i ∧ ∃ U' O' ρ', SR U' O' H2 σ2 ρ' ∧ Tr U1 O H1 U' O' H2 ∧ i + 1 ≤ xs.length ∧ m' = xs.length - (i + 1) ∧ vLoop tg body (xs.drop (i + 1)) ρ' = some o, fun σ2 H2 h => h, fun v H2 yl => ?_⟩
    obtain ⟨U2, ex2, rp⟩ := hy v H2 yl
    unfold vLoop at e'
    cases z : tg x ρ' with
    | none => rw [z] at e'; cases e'
    | some ρ1 =>
      rw [z] at e'
      refine hg U2 O' H2 σ' ρ' ρ1 x v _ (s'.ext ex2) rp z fun σ3 s3 => ?_
      have tr3 := tr.trans (ex2.tr (O := O'))
      cases zb : body ρ1 with
      | none => simp only [zb] at e'; cases e'
      | some ob =>
        simp only [zb] at e'
        refine hb U2 O' H2 σ3 ρ1 _ ob s3 zb ?_
        cases ob with
        | nx ρ4 => exact fun U4 O4 H4 σ4 s4 t4 => ⟨_, by omega, U4, O4, ρ4, s4, tr3.trans t4, hl, rfl, e'⟩
        | ct ρ4 => exact fun U4 O4 H4 σ4 s4 t4 => ⟨_, by omega, U4, O4, ρ4, s4, tr3.trans t4, hl, rfl, e'⟩
        | bk ρ4 => cases e'; exact q1.pre tr3
        | rt p b => cases e'; exact q1.pre tr3
def demote : PV × Fl → PV × Fl
  | (p, .own) => (p, .bor)
  | q => q
def startR (src : List (Option Nat)) (ρ : PEnv) : PEnv := src.map fun o => match o with
  | some j => ((ρ[j]?).join).map demote
  | none => none
def vCompL (tg : VTg) (cond : VB) (elt : VX) : List PV → PEnv → Option (List PV)
  | [], _ => some []
  | x :: xs, ρ => match tg x ρ with
    | none => none
    | some ρ1 => match cond ρ1 with
      | none => none
      | some false => vCompL tg cond elt xs ρ1
      | some true => match elt ρ1 with
        | none => none
        | some y => (vCompL tg cond elt xs ρ1).map (y :: ·)
def xComp (src : List (Option Nat)) (it : VL) (tg : VTg) (cond : VB) (elt : VX) : VX := fun ρ => (it ρ).bind fun xs => if small? xs.length then (vCompL tg cond elt xs (startR src ρ)).map PV.lst else none
def bTrue : VB := fun _ => some true
theorem vt_all : VT tAll bTrue := by
  intro U O H σ ρ Q b s e k
  cases e
  exact k H U (.refl s.dU)
theorem SR.comp {U O : AS} {H : Hp} {σ : St} {ρ : PEnv} (s : SR U O H σ ρ) (src : List (Option Nat)) : SR U (fun _ => False) H (startC src σ) (startR src ρ) := by
  refine ⟨by simp [startC, startR], s.dU, fun a h => h.elim, fun a _ h => h, fun i p fl h => ?_, fun i j p q a ne h1 h2 h3 h4 => ?_⟩
  · unfold startR at h
    rw [List.getElem?_map] at h
    cases hs : src[i]? with
    | none => rw [hs] at h; cases h
    | some o =>
      rw [hs] at h
      cases o with
      | none => simp at h
      | some j =>
        simp only [Option.map_some, Option.some.injEq] at h
        obtain ⟨⟨p0, fl0⟩, hj, hd⟩ := Option.map_eq_some_iff.mp h
        have hj' : ρ[j]? = some (some (p0, fl0)) := by
          cases q : ρ[j]? with
          | none => rw [q] at hj; cases hj
          | some z => rw [q] at hj; simp at hj; rw [hj]
        obtain ⟨v, hv, ok⟩ := s.slot j p0 fl0 hj'
        refine ⟨v, ?_, ?_⟩
        · unfold startC
          rw [List.getElem?_map, hs]
          simp [hv]
        · cases fl0 with
          | shr => cases hd; exact ok
          | own => cases hd; obtain ⟨a, rfl, _, tp⟩ := ok; exact ⟨tp.bor, fun _ _ h => h, tp.notAdr⟩
          | bor => cases hd; exact ⟨ok.1, fun _ _ h => h, ok.2.2⟩
  · obtain ⟨_, _, ok⟩ : ∃ fl, ∃ _ : fl = Fl.own, True := ⟨.own, rfl, trivial⟩
    have no : ∀ (i : Nat) (p : PV), (startR src ρ)[i]? ≠ some (some (p, .own)) := fun i p h => by
      unfold startR at h
      rw [List.getElem?_map] at h
      cases hs : src[i]? with
      | none => rw [hs] at h; cases h
      | some o =>
        rw [hs] at h
        cases o with
        | none => simp at h
        | some j =>
          simp only [Option.map_some, Option.some.injEq] at h
          obtain ⟨⟨p0, fl0⟩, hj, hd⟩ := Option.map_eq_some_iff.mp h
          cases fl0 <;> cases hd
    exact no i p h1
theorem ve_comp {src : List (Option Nat)} {wi : TI} {g : TG} {tif : TT} {te : TE} {it : VL} {tg : VTg} {cond : VB} {elt : VX} (hi : VI wi it) (hg : VG g tg) (hc : VT tif cond) (he : VE .shr te elt) : VE .fr (tComp src wi g tif te) (xComp src it tg cond elt) := by
  intro U O H σ ρ Q z s e k
  obtain ⟨xs, hxs, e⟩ := Option.bind_eq_some_iff.mp e
  by_cases hs : small? xs.length = true
  case neg => rw [if_neg hs] at e; cases e
  rw [if_pos hs] at e
  obtain ⟨zs, e, rfl⟩ := Option.map_eq_some_iff.mp e
  refine hi U O H σ ρ _ xs s hxs fun J H1 U1 ex wk => ?_
  have s1 := s.ext ex
  have sz : ∀ n, n ≤ xs.length → n ≤ sizeLine := fun n h => Nat.le_trans h (small_le hs)
  refine ⟨fun i m ys τ H' => ∃ U' ρ' ps, SR U' (fun _ => False) H' τ ρ' ∧ Ext U1 H1 U' H' ∧ i ≤ xs.length ∧ m = xs.length - i ∧ ys.length ≤ i ∧ Reps U' H' ps ys ∧ (vCompL tg cond elt (xs.drop i) ρ').map (ps ++ ·) = some zs,
    ⟨_, U1, startR src ρ, [], s1.comp src, .refl s1.dU, Nat.zero_le _, rfl, Nat.le_refl _, reps_nil.mpr rfl, by simpa using e⟩, ?_⟩
  rintro i m ys τ H' ⟨U', ρ', ps, s', ex', hi', rfl, hy, rp, e'⟩
  have kp := ex'.keeps
  cases hx : xs[i]? with
  | none =>
    have hl : xs.length ≤ i := List.getElem?_eq_none_iff.mp hx
    have hii : i = xs.length := by omega
    subst hii
    rw [List.drop_length] at e'
    unfold vCompL at e'
    simp at e'
    subst e'
    refine .inl ⟨wk.stop U' H' kp, sz _ hy, fun D hD => ?_⟩
    obtain ⟨e2, r2⟩ := new_lst ex'.dU hD rp
    exact k _ _ U' (ex.trans (ex'.trans e2)) (Res.pre (U1 := U1) (ex.trans ex').same r2)
  | some x =>
    have hl := (List.getElem?_eq_some_iff.mp hx).1
    obtain ⟨hgo, hyl⟩ := wk.go i U' H' kp s'.dU x hx
    rw [drop_get hx] at e'
    refine .inr ⟨hgo, Nat.lt_of_le_of_lt hy (Nat.lt_of_lt_of_le hl (small_le hs)), fun v H2 yl => ?_⟩
    obtain ⟨U2, ex2, rv⟩ := hyl v H2 yl
    unfold vCompL at e'
    cases z1 : tg x ρ' with
    | none => rw [z1] at e'; cases e'
    | some ρ1 =>
      rw [z1] at e'
      refine hg U2 _ H2 τ ρ' ρ1 x v _ (s'.ext ex2) rv z1 fun τ3 s3 => ?_
      cases z2 : cond ρ1 with
      | none => simp only [z2] at e'; cases e'
      | some b =>
        simp only [z2] at e'
        refine hc U2 _ H2 τ3 ρ1 _ b s3 z2 fun H4 U4 ex4 => ?_
        have ex24 := ex2.trans ex4
        cases b with
        | false => exact ⟨_, by omega, U4, ρ1, ps, s3.ext ex4, ex'.trans ex24, hl, rfl, by omega, Reps.keeps ex24.keeps _ _ rp, e'⟩
        | true =>
          cases z3 : elt ρ1 with
          | none => simp only [z3] at e'; cases e'
          | some y =>
            simp only [z3] at e'
            refine he U4 _ H4 τ3 ρ1 _ y (s3.ext ex4) z3 fun w H5 U5 ex5 r5 => ?_
            refine ⟨_, by omega, U5, ρ1, ps ++ [y], (s3.ext ex4).ext ex5, (ex'.trans ex24).trans ex5, hl, rfl, by simp; omega, Reps.append (Reps.keeps (ex24.trans ex5).keeps _ _ rp) (Reps.one r5), ?_⟩
            rw [Option.map_map] at e'
            rw [← e']
            congr 1
            funext l
            simp
end L2
namespace L2
open PySem PySem.Spec PyProof.Rows
def spV (fr : Bool) (f : List PV → Option PV) : Sp := fun vs H Q _ => ∃ U ps p, (∀ a, U a → H a ≠ none) ∧ Reps U H ps vs ∧ f ps = some p ∧ ∀ v H' U', Ext U H U' H' → Res (if fr = true then .fr else .shr) H U' H' p v → Q v H'
def initR (n : Nat) (ps : List PV) : PEnv := ps.map (fun p => some (p, Fl.shr)) ++ List.replicate (n - ps.length) none
def fnM (k n : Nat) (fr : Bool) (F : VF) (ps : List PV) : Option PV := if ps.length = k then (match F (initR n ps) with
  | some (.rt p b) => if (fr && !b) = true then none else some p
  | some (.nx _) => if fr = true then none else some .non
  | _ => none) else none
theorem init_slot {n : Nat} {ps : List PV} {i : Nat} {p : PV} {fl : Fl} (h : (initR n ps)[i]? = some (some (p, fl))) : fl = .shr ∧ ps[i]? = some p := by
  unfold initR at h
  by_cases hl : i < ps.length
  · rw [List.getElem?_append_left (by simpa using hl), List.getElem?_map] at h
    obtain ⟨q, hq, e⟩ := Option.map_eq_some_iff.mp h
    cases e
    exact ⟨rfl, hq⟩
  · rw [List.getElem?_append_right (by simp; omega)] at h
    rw [List.getElem?_replicate] at h
    split at h
    · cases h
    · cases h
theorem SR.init {U : AS} {H : Hp} {N : List Str} {ps : List PV} {vs : List V} (d : ∀ a, U a → H a ≠ none) (r : Reps U H ps vs) : SR U (fun _ => False) H (start N vs) (initR N.length ps) := by
  refine ⟨?_, d, fun a h => h.elim, fun _ _ h => h, fun i p fl h => ?_, fun i j p q a ne h1 h2 h3 h4 => ?_⟩
  · unfold start initR
    simp [r.length]
  · obtain ⟨rfl, hp⟩ := init_slot h
    obtain ⟨v, hv, rv⟩ := r.get hp
    refine ⟨v, ?_, rv⟩
    unfold start
    rw [List.getElem?_append_left (by simpa using (List.getElem?_eq_some_iff.mp hv).1), List.getElem?_map, hv]
    rfl
  · exact nomatch (init_slot h1).1
theorem fnV {t : TS} {F : VF} {fr : Bool} {N : List Str} {k : Nat} {vs : List V} {H : Hp} {Q : VK} {E : XK} (h : VS t F) (hsp : spV fr (fnM k N.length fr F) vs H Q E) : t { nx := fun _ H' => Q .non H', rt := Q } (start N vs) H := by
  obtain ⟨U, ps, p, d, r, e, k⟩ := hsp
  unfold fnM at e
  split at e
  case isFalse => cases e
  have s := SR.init (N := N) d r
  have toE : ∀ {U' O' : AS} {H' : Hp}, Tr U (fun _ => False) H U' O' H' → Ext U H U' H' := fun {U' O' H'} t => ⟨fun a o h => t.fr a o h fun z => z, t.mono, fun a h => (t.new a h).elim .inl fun z => z.elim (fun z => z.elim) .inr, t.dU⟩
  cases z : F (initR N.length ps) with
  | none => rw [z] at e; cases e
  | some o =>
    rw [z] at e
    refine h U _ H _ _ _ o s z ?_
    cases o with
    | bk ρ => cases e
    | ct ρ => cases e
    | nx ρ =>
      cases fr with
      | true => cases e
      | false =>
        cases e
        exact fun U' O' H' σ' s' t' => k .non H' U' (toE t') (repN U' H')
    | rt q b =>
      cases fr with
      | true =>
        cases b with
        | false => cases e
        | true =>
          cases e
          refine fun U' O' H' v t' ro => k v H' U' (toE t') ?_
          obtain ⟨a, ea, nu, ha, tp⟩ := ro
          exact ⟨a, ea, ha.elim (fun z => z) fun z => z.elim, nu, tp⟩
      | false =>
        cases b with
        | false => cases e; exact fun U' O' H' v t' ro => k v H' U' (toE t') ro
        | true =>
          cases e
          refine fun U' O' H' v t' ro => ?_
          obtain ⟨a, rfl, nu, ha, tp⟩ := ro
          have ha' : H a = none := ha.elim (fun z => z) fun z => z.elim
          have hne : H' a ≠ none := Bor.dom tp.bor tp.notAdr
          exact k (.ref a) H' _ ((toE t').share ha' hne) ((tp.keeps Keeps.share fun o h => h).rep (.inr rfl))
theorem spV_len {fr : Bool} {k n : Nat} {F : VF} {ps : List Str} (hk : ps.length = k) : ∀ vs H Q E, spV fr (fnM k n fr F) vs H Q E → vs.length = ps.length := by
  rintro vs H Q E ⟨U, qs, p, d, r, e, _⟩
  unfold fnM at e
  split at e
  · rename_i h; rw [r.length, h, hk]
  · cases e
theorem ve_callS {f : List PV → Option PV} {t : TA} {fa : VL} {E : XK} (h : VA false t fa) : VE .shr (tCall (spV false f) [] E t) (xL f fa) := by
  intro U O H σ ρ Q z s e k
  obtain ⟨ps, hp, e⟩ := Option.bind_eq_some_iff.mp e
  refine h U O H σ ρ _ ps s hp fun vs H1 U1 ex1 r1 => ?_
  rw [List.append_nil]
  exact ⟨U1, ps, z, ex1.dU, r1, e, fun v H2 U2 ex2 r2 => k v H2 U2 (ex1.trans ex2) r2⟩
def wr (i : Nat) (g : PV → Option PV) : VF := fun ρ => match ρ[i]? with
  | some (some (p, .own)) => (g p).map fun p' => .nx (ρ.set i (some (p', .own)))
  | _ => none
def vAppend (i : Nat) (f : VX) : VF := fun ρ => (f ρ).bind fun q => wr i (fun p => match p with
  | .lst ps => if small? ps.length then some (.lst (ps ++ [q])) else none
  | _ => none) ρ
def vExtend (i : Nat) (f : VX) : VF := fun ρ => (f ρ).bind fun q => wr i (fun p => match p, q with
  | .lst ps, .lst qs => if small? (ps.length + qs.length) then some (.lst (ps ++ qs)) else none
  | _, _ => none) ρ
end L2
namespace L2
open PySem PySem.Spec PyProof.Rows
def pII (g : Int → Int → Int) : PV → PV → Option PV
  | .int i, .int j => some (.int (g i j))
  | _, _ => none
def pIIc (c : Int → Int → Bool) (g : Int → Int → Int) : PV → PV → Option PV
  | .int i, .int j => if c i j then some (.int (g i j)) else none
  | _, _ => none
def pIB (g : Int → Int → Bool) : PV → PV → Option PV
  | .int i, .int j => some (.bl (g i j))
  | _, _ => none
theorem r2_ii {g : Int → Int → Int} : R2V .shr (rI0 fun i j => .int (g i j)) (pII g) := by
  intro U H p q z v w Q d hp hq e k
  cases p <;> cases q <;> simp only [pII] at e <;> first | cases e | skip
  · rename_i i j
    exact ⟨i, j, bor_int (U := U) (H := H) hp, bor_int (U := U) (H := H) hq, k _ H U (.refl d) (repI U H _)⟩
theorem r2_ib {g : Int → Int → Bool} : R2V .shr (rI0 fun i j => .bl (g i j)) (pIB g) := by
  intro U H p q z v w Q d hp hq e k
  cases p <;> cases q <;> simp only [pIB] at e <;> first | cases e | skip
  · rename_i i j
    exact ⟨i, j, bor_int (U := U) (H := H) hp, bor_int (U := U) (H := H) hq, k _ H U (.refl d) (repB U H _)⟩
theorem r2_iic {C : Int → Int → Prop} {c : Int → Int → Bool} {g : Int → Int → Int} (hc : ∀ i j, c i j = true → C i j) : R2V .shr (rI C fun i j => .int (g i j)) (pIIc c g) := by
  intro U H p q z v w Q d hp hq e k
  cases p <;> cases q <;> simp only [pIIc] at e <;> first | cases e | skip
  · rename_i i j
    obtain ⟨h, rfl⟩ := some_if e
    exact ⟨i, j, bor_int (U := U) (H := H) hp, bor_int (U := U) (H := H) hq, hc i j h, k _ H U (.refl d) (repI U H _)⟩
def pAdd := pII (· + ·)
def pSub := pII (· - ·)
def cMul (i j : Int) : Bool := (decide (-(2 ^ 64) < i) && decide (i < 2 ^ 64)) || (decide (-(2 ^ 64) < j) && decide (j < 2 ^ 64))
def pMul := pIIc cMul (· * ·)
def cDiv (_ j : Int) : Bool := decide (0 < j) && decide (j < 1073741824)
def pDiv := pIIc cDiv (· / ·)
def cPos (_ j : Int) : Bool := decide (0 < j)
def pMod := pIIc cPos (· % ·)
theorem r2_add : R2V .shr (rI0 fun i j => .int (i + j)) pAdd := r2_ii
theorem r2_sub : R2V .shr (rI0 fun i j => .int (i - j)) pSub := r2_ii
theorem r2_mul : R2V .shr (rI CMul fun i j => .int (i * j)) pMul := r2_iic fun i j h => by
  unfold cMul at h; unfold CMul
  simpa using h
theorem r2_div : R2V .shr (rI CDiv fun i j => .int (i / j)) pDiv := r2_iic fun i j h => by
  unfold cDiv at h; unfold CDiv
  simpa using h
theorem r2_mod : R2V .shr (rI (fun _ j => 0 < j) fun i j => .int (i % j)) pMod := r2_iic fun i j h => by
  unfold cPos at h
  simpa using h
def pLt := pIB fun i j => decide (i < j)
def pLe := pIB fun i j => decide (i ≤ j)
def pGt := pIB fun i j => decide (j < i)
def pGe := pIB fun i j => decide (j ≤ i)
theorem r2_lt : R2V .shr (rI0 fun i j => .bl (decide (i < j))) pLt := r2_ib
theorem r2_le : R2V .shr (rI0 fun i j => .bl (decide (i ≤ j))) pLe := r2_ib
def pNeg : PV → Option PV
  | .int i => some (.int (-i))
  | _ => none
def eqSc : PV → PV → Option Bool
  | .int i, .int j => some (decide (i = j))
  | .str i, .str j => some (decide (i = j))
  | .bl i, .bl j => some (decide (i = j))
  | .non, .non => some true
  | .non, .int _ => some false
  | .int _, .non => some false
  | .non, .str _ => some false
  | .str _, .non => some false
  | .non, .bl _ => some false
  | .bl _, .non => some false
  | _, _ => none
def pEq (p q : PV) : Option PV := (eqSc p q).map PV.bl
def pNe (p q : PV) : Option PV := (eqSc p q).map fun b => PV.bl (!b)
theorem sc_val {U : AS} {H : Hp} {p q : PV} {b : Bool} {v w : V} (hp : Bor U H p v) (hq : Bor U H q w) (e : eqSc p q = some b) : scal v w = true ∧ b = decide (v = w) := by
  cases p <;> cases q <;> simp only [eqSc] at e <;> first | cases e | skip
  all_goals (simp only [Bor, rep_non, rep_bl, rep_int, rep_str] at hp hq; subst hp hq; simp [scal])
theorem r2_eq : R2V .shr rEq pEq := by
  intro U H p q z v w Q d hp hq e k
  obtain ⟨b, hb, rfl⟩ := Option.map_eq_some_iff.mp e
  obtain ⟨h1, h2⟩ := sc_val hp hq hb
  refine ⟨h1, k _ H U (.refl d) ?_⟩
  rw [h2]; exact repB U H _
theorem r2_ne : R2V .shr rNe pNe := by
  intro U H p q z v w Q d hp hq e k
  obtain ⟨b, hb, rfl⟩ := Option.map_eq_some_iff.mp e
  obtain ⟨h1, h2⟩ := sc_val hp hq hb
  refine ⟨h1, k _ H U (.refl d) ?_⟩
  rw [h2]; exact repB U H _
noncomputable def peq (p q : PV) : Bool := @decide (p = q) (Classical.propDecidable _)
theorem peq_iff {p q : PV} : peq p q = true ↔ p = q := by unfold peq; simp
mutual
def simk : Nat → PV → PV → Bool
  | _, .int _, .int _ => true
  | _, .str _, .str _ => true
  | _, .bl _, .bl _ => true
  | _, .non, .non => true
  | n + 1, .lst ps, .lst qs => simks n ps qs
  | n + 1, .tup ps, .tup qs => simks n ps qs
  | _, _, _ => false
def simks : Nat → List PV → List PV → Bool
  | _, [], _ => true
  | _, _ :: _, [] => true
  | n, p :: ps, q :: qs => simk n p q && simks n ps qs
end
theorem simks_get : ∀ {n : Nat} {ps qs : List PV} {j : Nat} {p q : PV}, simks n ps qs = true → ps[j]? = some p → qs[j]? = some q → simk n p q = true
  | n, [], _, j, p, q, _, e, _ => by simp at e
  | n, _ :: _, [], j, p, q, _, _, e => by simp at e
  | n, a :: ps, b :: qs, 0, p, q, h, e1, e2 => by
    simp only [simks, Bool.and_eq_true] at h
    simp at e1 e2; subst e1 e2; exact h.1
  | n, a :: ps, b :: qs, j + 1, p, q, h, e1, e2 => by
    simp only [simks, Bool.and_eq_true] at h
    exact simks_get (j := j) h.2 (by simpa using e1) (by simpa using e2)
theorem Reps.getV : ∀ {U : AS} {H : Hp} {ps : List PV} {xs : List V} {i : Nat} {v : V}, Reps U H ps xs → xs[i]? = some v → ∃ p, ps[i]? = some p ∧ Rep U H p v
  | U, H, [], xs, i, v, h, e => by rw [reps_nil.mp h] at e; simp at e
  | U, H, q :: ps, xs, 0, v, h, e => by
    obtain ⟨x, r, rfl, h1, _⟩ := reps_cons.mp h
    simp at e; subst e
    exact ⟨q, rfl, h1⟩
  | U, H, q :: ps, xs, i + 1, v, h, e => by
    obtain ⟨x, r, rfl, _, h2⟩ := reps_cons.mp h
    obtain ⟨p, hp, hr⟩ := Reps.getV (i := i) h2 (by simpa using e)
    exact ⟨p, by simpa using hp, hr⟩
theorem all_peq {ps qs : List PV} (hl : ps.length = qs.length) : ((List.range ps.length).all fun j => peq (ps.getD j .non) (qs.getD j .non)) = peq (.lst ps) (.lst qs) := by
  rw [Bool.eq_iff_iff, peq_iff]
  simp only [List.all_eq_true, List.mem_range, peq_iff]
  constructor
  · intro h
    congr 1
    refine List.ext_getElem hl fun j h1 h2 => ?_
    have := h j h1
    simpa [List.getD_eq_getElem?_getD, h1, h2] using this
  · intro h j hj
    injection h with h
    rw [h]
theorem peq_tup {ps qs : List PV} : peq (.tup ps) (.tup qs) = peq (.lst ps) (.lst qs) := by
  rw [Bool.eq_iff_iff, peq_iff, peq_iff]
  constructor
  · intro h; injection h with h; rw [h]
  · intro h; injection h with h; rw [h]
theorem peq_len {ps qs : List PV} : (decide (ps.length = qs.length) && (List.range ps.length).all fun j => peq (ps.getD j .non) (qs.getD j .non)) = peq (.lst ps) (.lst qs) := by
  by_cases h : ps.length = qs.length
  · rw [decide_eq_true h, Bool.true_and, all_peq h]
  · rw [decide_eq_false h, Bool.false_and]
    have : ¬ peq (.lst ps) (.lst qs) = true := by
      rw [peq_iff]; intro e; injection e with e; exact h (by rw [e])
    simpa using this
theorem getD_of {ps : List PV} {j : Nat} {p : PV} (h : ps[j]? = some p) : ps.getD j .non = p := by simp [List.getD_eq_getElem?_getD, h]
theorem peq_sc_int {i j : Int} : peq (.int i) (.int j) = decide (i = j) := by rw [Bool.eq_iff_iff, peq_iff]; simp
theorem peq_sc_str {i j : Str} : peq (.str i) (.str j) = decide (i = j) := by rw [Bool.eq_iff_iff, peq_iff]; simp
theorem peq_sc_bl {i j : Bool} : peq (.bl i) (.bl j) = decide (i = j) := by rw [Bool.eq_iff_iff, peq_iff]; simp
theorem eqR_bl {X : Cx} {n : Nat} {H : Hp} (a b : Bool) : EqR X n H (.bl a) (.bl b) (decide (a = b)) := by
  refine ⟨fun pins σ s u v I ru rv A _ => ?_, fun e => by cases e; simp⟩
  cases ru; cases rv
  have e : decide (a = b) = (a == b) := by cases a <;> cases b <;> rfl
  rw [e]
  exact SeqAt.EqAt.bool_bool a b
theorem eqR_rep {X : Cx} {U : AS} {H : Hp} : ∀ (n : Nat) (p q : PV) (v w : V), simk n p q = true → Rep U H p v → Rep U H q w → EqR X n H v w (peq p q) := by
  intro n
  induction n with
  | zero =>
    intro p q v w hs hp hq
    cases p <;> cases q <;> simp only [simk] at hs <;> first | cases hs | skip
    · rw [rep_non.mp hp, rep_non.mp hq]
      have e : peq .non .non = true := peq_iff.mpr rfl
      rw [e]
      exact ⟨fun pins σ s u v I ru rv A _ => by cases ru; cases rv; exact SeqAt.EqAt.same _, fun _ => rfl⟩
    · rw [rep_bl.mp hp, rep_bl.mp hq, peq_sc_bl]; exact eqR_bl _ _
    · rw [rep_int.mp hp, rep_int.mp hq, peq_sc_int]; exact eqR_int _ _
    · rw [rep_str.mp hp, rep_str.mp hq, peq_sc_str]; exact eqR_str _ _
  | succ n ih =>
    intro p q v w hs hp hq
    cases p <;> cases q <;> simp only [simk] at hs <;> first | cases hs | skip
    · rw [rep_non.mp hp, rep_non.mp hq]
      have e : peq .non .non = true := peq_iff.mpr rfl
      rw [e]
      exact ⟨fun pins σ s u v I ru rv A _ => by cases ru; cases rv; exact SeqAt.EqAt.same _, fun _ => rfl⟩
    · rw [rep_bl.mp hp, rep_bl.mp hq, peq_sc_bl]; exact eqR_bl _ _
    · rw [rep_int.mp hp, rep_int.mp hq, peq_sc_int]; exact eqR_int _ _
    · rw [rep_str.mp hp, rep_str.mp hq, peq_sc_str]; exact eqR_str _ _
    · rename_i ps qs
      obtain ⟨a, xs, rfl, _, ha, rx⟩ := rep_lst.mp hp
      obtain ⟨b, ys, rfl, _, hb, ry⟩ := rep_lst.mp hq
      have q := eqR_list (X := X) (n := n) (e := fun j => peq (ps.getD j .non) (qs.getD j .non)) (SqL.of ha) (SqL.of hb) (fun hl j x y hx hy => ?_) (fun z => ?_)
      · rw [rx.length, ry.length, peq_len] at q; exact q
      · obtain ⟨p', e1, r1⟩ := rx.getV hx
        obtain ⟨q', e2, r2⟩ := ry.getV hy
        rw [getD_of e1, getD_of e2]
        exact ih p' q' x y (simks_get hs e1 e2) r1 r2
      · subst z; rw [ha] at hb; cases hb; rfl
    · rename_i ps qs
      obtain ⟨a, xs, rfl, ha, rx⟩ := rep_tup.mp hp
      obtain ⟨b, ys, rfl, hb, ry⟩ := rep_tup.mp hq
      have q := eqR_tup (X := X) (n := n) (e := fun j => peq (ps.getD j .non) (qs.getD j .non)) (SqT.of ha) (SqT.of hb) (fun j x y hx hy => ?_) (fun z => ?_)
      · rw [rx.length, ry.length] at q
        rw [peq_tup, ← peq_len]
        have e2 : ((List.range (min ps.length qs.length)).all (fun j => peq (ps.getD j .non) (qs.getD j .non)) && decide (ps.length = qs.length)) = (decide (ps.length = qs.length) && (List.range ps.length).all fun j => peq (ps.getD j .non) (qs.getD j .non)) := by
          by_cases h : ps.length = qs.length
          · rw [← h, Nat.min_self, Bool.and_comm]
          · rw [decide_eq_false h, Bool.and_false, Bool.false_and]
        rw [e2] at q
        exact q
      · obtain ⟨p', e1, r1⟩ := rx.getV hx
        obtain ⟨q', e2, r2⟩ := ry.getV hy
        rw [getD_of e1, getD_of e2]
        exact ih p' q' x y (simks_get hs e1 e2) r1 r2
      · subst z; rw [ha] at hb; cases hb; rfl
noncomputable def pEqL (n : Nat) (neg : Bool) : PV → PV → Option PV
  | .lst ps, .lst qs => if simks n ps qs then some (.bl (if neg = true then !peq (.lst ps) (.lst qs) else peq (.lst ps) (.lst qs))) else none
  | _, _ => none
theorem r2_eqL {X : Cx} {n : Nat} {neg : Bool} : R2V .shr (rEqL X n neg) (pEqL n neg) := by
  intro U H p q z v w Q d hp hq e k
  cases p <;> cases q <;> simp only [pEqL] at e <;> first | cases e | skip
  · rename_i ps qs
    obtain ⟨h, rfl⟩ := some_if e
    obtain ⟨a, xs, rfl, ha, rx⟩ := hp
    obtain ⟨b, ys, rfl, hb, ry⟩ := hq
    refine ⟨a, b, xs, ys, fun j => peq (ps.getD j .non) (qs.getD j .non), rfl, rfl, SqL.of ha, SqL.of hb, fun hl j x y hx hy => ?_, ?_⟩
    · obtain ⟨p', e1, r1⟩ := rx.getV hx
      obtain ⟨q', e2, r2⟩ := ry.getV hy
      show EqR X n H x y (peq (ps.getD j .non) (qs.getD j .non))
      rw [getD_of e1, getD_of e2]
      exact eqR_rep n p' q' x y (simks_get h e1 e2) r1 r2
    · rw [rx.length, ry.length, peq_len]
      exact k _ H U (.refl d) (repB U H _)
theorem tup_len {ps qs : List PV} : ((List.range (min ps.length qs.length)).all (fun j => peq (ps.getD j .non) (qs.getD j .non)) && decide (ps.length = qs.length)) = peq (.lst ps) (.lst qs) := by
  rw [← peq_len]
  by_cases h : ps.length = qs.length
  · rw [← h, Nat.min_self, Bool.and_comm]
  · rw [decide_eq_false h, Bool.and_false, Bool.false_and]
def pIxL : PV → PV → Option PV
  | .lst ps, .int i => atI ps i
  | .scr ns, .int i => (atI ns i).map PV.int
  | _, _ => none
def pIxT : PV → PV → Option PV
  | .tup ps, .int i => atI ps i
  | _, _ => none
def pIxS : PV → PV → Option PV
  | .str z, .int i => if small? z.length then (atI z.cps.toList i).map fun c => PV.str ⟨#[c]⟩ else none
  | _, _ => none
theorem atI_reps {U : AS} {H : Hp} {ps : List PV} {xs : List V} {i : Int} {p : PV} (r : Reps U H ps xs) (h : atI ps i = some p) : ∃ v, atI xs i = some v ∧ Rep U H p v := by
  unfold atI at h ⊢
  rw [r.length]
  obtain ⟨j, hj, h⟩ := Option.bind_eq_some_iff.mp h
  obtain ⟨v, hv, rv⟩ := r.get h
  exact ⟨v, by rw [hj]; exact hv, rv⟩
theorem r2_ixL {Kf : PySem.W.Frag} : R2V .shr (rIxL Kf) pIxL := by
  intro U H p q z v w Q d hp hq e k
  cases p <;> cases q <;> simp only [pIxL, pIxT, pIxS] at e <;> first | cases e | skip
  · rename_i ps i
    obtain ⟨a, xs, rfl, ha, rx⟩ := hp
    obtain ⟨u, hu, ru⟩ := atI_reps rx e
    exact ⟨a, xs, i, u, rfl, bor_int (U := U) (H := H) hq, SqL.of ha, hu, k _ H U (.refl d) ru⟩
  · rename_i ns i
    obtain ⟨a, rfl, ha⟩ := hp
    obtain ⟨n, hn, rfl⟩ := Option.map_eq_some_iff.mp e
    refine ⟨a, ns.map V.int, i, .int n, rfl, bor_int (U := U) (H := H) hq, .inl ha, ?_, k _ H U (.refl d) (repI U H _)⟩
    unfold atI at hn ⊢
    obtain ⟨j, hj, h⟩ := Option.bind_eq_some_iff.mp hn
    rw [List.length_map, hj]
    simp [h]
theorem r2_ixT {Kf : PySem.W.Frag} : R2V .shr (rIxT Kf) pIxT := by
  intro U H p q z v w Q d hp hq e k
  cases p <;> cases q <;> simp only [pIxL, pIxT, pIxS] at e <;> first | cases e | skip
  · rename_i ps i
    obtain ⟨a, xs, rfl, ha, rx⟩ := rep_tup.mp (show Rep U H (.tup ps) v from hp)
    obtain ⟨u, hu, ru⟩ := atI_reps rx e
    exact ⟨a, xs, i, u, rfl, bor_int (U := U) (H := H) hq, SqT.of ha, hu, k _ H U (.refl d) ru⟩
def pCat : PV → PV → Option PV
  | .lst ps, .lst qs => if small? (ps.length + qs.length) then some (.lst (ps ++ qs)) else none
  | _, _ => none
def VO (t : TO) (f : PEnv → Option (Option Int)) : Prop := ∀ (U O : AS) (H : Hp) (σ : St) (ρ : PEnv) (Q : Option Int → Hp → Prop) (b : Option Int), SR U O H σ ρ → f ρ = some b → (∀ H' U', Ext U H U' H' → Q b H') → t σ H Q
def oNone : PEnv → Option (Option Int) := fun _ => some none
def isI : PV → Option Int
  | .int i => some i
  | _ => none
def oSome (f : VX) : PEnv → Option (Option Int) := fun ρ => ((f ρ).bind isI).map some
theorem vo_none : VO tNoPart oNone := fun U O H σ ρ Q b s e k => by cases e; exact k H U (.refl s.dU)
theorem vo_some {m : Md} {t : TE} {f : VX} (h : VE m t f) : VO (tPart t) (oSome f) := by
  intro U O H σ ρ Q b s e k
  obtain ⟨i, hi, rfl⟩ := Option.map_eq_some_iff.mp e
  obtain ⟨p, hp, e2⟩ := Option.bind_eq_some_iff.mp hi
  cases p <;> simp only [isI] at e2 <;> first | cases e2 | skip
  · exact h.bor U O H σ ρ _ _ s hp fun v H1 U1 ex1 r1 => ⟨i, bor_int (U := U1) (H := H1) r1, k H1 U1 ex1⟩
def cutP (xs : List PV) (lo hi : Option Int) : List PV := (xs.drop (HT.sIx xs.length 0 lo)).take (HT.sIx xs.length xs.length hi - HT.sIx xs.length 0 lo)
def xSl (f : VX) (lo hi : PEnv → Option (Option Int)) : VX := fun ρ => (f ρ).bind fun p => (lo ρ).bind fun l => (hi ρ).bind fun u => match p with
  | .lst ps => some (.lst (cutP ps l u))
  | _ => none
theorem ve_slL {Kf : PySem.W.Frag} {m : Md} {te : TE} {tl th : TO} {f : VX} {lo hi : PEnv → Option (Option Int)} (h : VE m te f) (hl : VO tl lo) (hh : VO th hi) : VE .fr (tSl (rSlL Kf) te tl th) (xSl f lo hi) := by
  intro U O H σ ρ Q z s e k
  obtain ⟨p, hp, e⟩ := Option.bind_eq_some_iff.mp e
  obtain ⟨l, hlo, e⟩ := Option.bind_eq_some_iff.mp e
  obtain ⟨u, hhi, e⟩ := Option.bind_eq_some_iff.mp e
  cases p with
  | lst ps =>
    cases e
    refine h.bor U O H σ ρ _ _ s hp fun v H1 U1 ex1 r1 => hl U1 O H1 σ ρ _ l (s.ext ex1) hlo fun H2 U2 ex2 => hh U2 O H2 σ ρ _ u ((s.ext ex1).ext ex2) hhi fun H3 U3 ex3 => ?_
    obtain ⟨a, xs, rfl, ha, rx⟩ := Bor.keeps (p := .lst ps) (ex2.trans ex3).keeps (ex2.trans ex3).same r1
    refine ⟨a, xs, rfl, SqL.of ha, fun p hp => ?_⟩
    have rc : Reps U3 H3 (cutP ps l u) (cutV xs l u) := by
      unfold cutP cutV
      rw [rx.length]
      exact Reps.take _ (Reps.drop _ rx)
    obtain ⟨e2, r2⟩ := new_lst ex3.dU hp rc
    have e13 := ex1.trans (ex2.trans ex3)
    exact k _ _ U3 (e13.trans e2) (Res.pre (U1 := U3) e13.same r2)
  | _ => cases e
def xRev (f g : VX) : VX := fun ρ => (f ρ).bind fun p => (g ρ).bind fun q => match p, q with
  | .lst ps, .int i => if i = -1 then some (.lst ps.reverse) else none
  | _, _ => none
end L2
namespace L2
open PySem PySem.Spec PyProof.Rows
theorem ve_cb {m : Md} {r : List V → Hp → VK → Prop} {t : TA} {fa : VL} {g : List PV → Option PV} (hr : RLV m r g) (ha : VA true t fa) : VE m (tCB r t) (xL g fa) := by
  intro U O H σ ρ Q z s e k
  obtain ⟨ps, hp, e⟩ := Option.bind_eq_some_iff.mp e
  refine ha U O H σ ρ _ ps s hp fun vs H1 U1 ex1 r1 => ?_
  exact hr U1 H1 ps z vs Q ex1.dU r1 e fun u H3 U3 ex3 r3 => k u H3 U3 (ex1.trans ex3) (Res.pre (U1 := U1) ex1.same r3)
theorem Bors.one {U : AS} {H : Hp} {p : PV} {vs : List V} (h : Bors U H [p] vs) : ∃ v, vs = [v] ∧ Bor U H p v := by
  cases h with
  | cons a b => cases b; exact ⟨_, rfl, a⟩
theorem Bors.two {U : AS} {H : Hp} {p q : PV} {vs : List V} (h : Bors U H [p, q] vs) : ∃ v w, vs = [v, w] ∧ Bor U H p v ∧ Bor U H q w := by
  cases h with
  | cons a b =>
    obtain ⟨w, rfl, hb⟩ := b.one
    exact ⟨_, w, rfl, a, hb⟩
def pLen : List PV → Option PV
  | [.lst ps] => some (.int ps.length)
  | [.tup ps] => some (.int ps.length)
  | [.scr ns] => some (.int ns.length)
  | _ => none
theorem rl_len {Kf : PySem.W.Frag} : RLV .shr (rLenL Kf) pLen := by
  intro U H ps z vs Q d hb e k
  match ps, e with
  | [.lst qs], e =>
    cases e
    obtain ⟨v, rfl, a, xs, rfl, ha, rx⟩ := hb.one
    refine ⟨a, xs, rfl, .inl (SqL.of ha), ?_⟩
    rw [rx.length]; exact k _ H U (.refl d) (repI U H _)
  | [.tup qs], e =>
    cases e
    obtain ⟨v, rfl, hv⟩ := hb.one
    obtain ⟨a, xs, rfl, ha, rx⟩ := rep_tup.mp (show Rep U H (.tup qs) v from hv)
    refine ⟨a, xs, rfl, .inr (SqT.of ha), ?_⟩
    rw [rx.length]; exact k _ H U (.refl d) (repI U H _)
  | [.scr ns], e =>
    cases e
    obtain ⟨v, rfl, a, rfl, ha⟩ := hb.one
    refine ⟨a, ns.map V.int, rfl, .inl (.inl ha), ?_⟩
    rw [List.length_map]; exact k _ H U (.refl d) (repI U H _)
def pLenS : List PV → Option PV
  | [.str z] => if small? z.length then some (.int z.length) else none
  | _ => none
def pList : List PV → Option PV
  | [.lst ps] => some (.lst ps)
  | [.tup ps] => some (.lst ps)
  | _ => none
theorem rl_list {Kf : PySem.W.Frag} : RLV .fr (rListOf Kf) pList := by
  intro U H ps z vs Q d hb e k
  match ps, e with
  | [.lst qs], e =>
    cases e
    obtain ⟨v, rfl, a, xs, rfl, ha, rx⟩ := hb.one
    refine ⟨a, xs, rfl, .inl (SqL.of ha), fun l hl => ?_⟩
    obtain ⟨e2, r2⟩ := new_lst d hl rx
    exact k _ _ U e2 r2
  | [.tup qs], e =>
    cases e
    obtain ⟨v, rfl, hv⟩ := hb.one
    obtain ⟨a, xs, rfl, ha, rx⟩ := rep_tup.mp (show Rep U H (.tup qs) v from hv)
    refine ⟨a, xs, rfl, .inr (SqT.of ha), fun l hl => ?_⟩
    obtain ⟨e2, r2⟩ := new_lst d hl rx
    exact k _ _ U e2 r2
def bools : List PV → Option (List Bool)
  | [] => some []
  | .bl b :: ps => (bools ps).map (b :: ·)
  | _ => none
def pInts : List PV → Option (List Int)
  | [] => some []
  | .int b :: ps => (pInts ps).map (b :: ·)
  | _ => none
theorem bools_map : ∀ {ps : List PV} {bs : List Bool}, bools ps = some bs → ps = bs.map PV.bl
  | [], bs, h => by cases h; rfl
  | .bl b :: ps, bs, h => by
    obtain ⟨cs, hc, rfl⟩ := Option.map_eq_some_iff.mp h
    rw [bools_map hc]; rfl
  | .non :: _, _, h => nomatch h
  | .int _ :: _, _, h => nomatch h
  | .str _ :: _, _, h => nomatch h
  | .lst _ :: _, _, h => nomatch h
  | .tup _ :: _, _, h => nomatch h
  | .dct _ :: _, _, h => nomatch h
  | .scr _ :: _, _, h => nomatch h
  | .adr _ :: _, _, h => nomatch h
theorem pInts_map : ∀ {ps : List PV} {bs : List Int}, pInts ps = some bs → ps = bs.map PV.int
  | [], bs, h => by cases h; rfl
  | .int b :: ps, bs, h => by
    obtain ⟨cs, hc, rfl⟩ := Option.map_eq_some_iff.mp h
    rw [pInts_map hc]; rfl
  | .non :: _, _, h => nomatch h
  | .bl _ :: _, _, h => nomatch h
  | .str _ :: _, _, h => nomatch h
  | .lst _ :: _, _, h => nomatch h
  | .tup _ :: _, _, h => nomatch h
  | .dct _ :: _, _, h => nomatch h
  | .scr _ :: _, _, h => nomatch h
  | .adr _ :: _, _, h => nomatch h
theorem bools_of : ∀ (bs : List Bool), bools (bs.map PV.bl) = some bs
  | [] => rfl
  | b :: bs => by simp [bools, bools_of bs]
def pAll : List PV → Option PV
  | [.lst ps] => (bools ps).map fun bs => .bl (bs.all id)
  | _ => none
def pMax2 : List PV → Option PV
  | [.int i, .int j] => some (.int (if j > i then j else i))
  | _ => none
theorem rl_max2 : RLV .shr (fun xs H Q => ∃ i j, xs = [V.int i, V.int j] ∧ Q (.int (if j > i then j else i)) H) pMax2 := by
  intro U H ps z vs Q d hb e k
  match ps, e with
  | [.int i, .int j], e =>
    cases e
    obtain ⟨v, w, rfl, h1, h2⟩ := hb.two
    rw [bor_int (U := U) (H := H) h1, bor_int (U := U) (H := H) h2]
    exact ⟨i, j, rfl, k _ H U (.refl d) (repI U H _)⟩
def tyName : PV → Option String
  | .non => some "NoneType" | .bl _ => some "bool" | .int _ => some "int" | .str _ => some "str" | .lst _ => some "list" | .tup _ => some "tuple" | .dct _ => none | .scr _ => none | .adr _ => none
def pIsi (tab : List (String × Bool)) (p : PV) : Option PV := ((tyName p).bind fun t => tab.lookup t).map PV.bl
theorem ve_isi {Kf : PySem.W.Frag} {m : Md} {T : String} {tab : List (String × Bool)} {te : TE} {f : VX} (ht : ∀ t b, tab.lookup t = some b → PySem.W.kitOne Kf (.type t) (.type T) = some b) (h : VE m te f) :
    VE .shr (tCB (rIsi Kf) (tCons te (tCons (tC (.ty T)) tNil))) (x1 (pIsi tab) f) := by
  intro U O H σ ρ Q z s e k
  obtain ⟨p, hp, e⟩ := Option.bind_eq_some_iff.mp e
  obtain ⟨b, hb, rfl⟩ := Option.map_eq_some_iff.mp e
  obtain ⟨t, ht1, ht2⟩ := Option.bind_eq_some_iff.mp hb
  refine h.bor U O H σ ρ _ p s hp fun v H1 U1 ex1 r1 => ?_
  refine ⟨v, T, .type t, b, rfl, ?_, ht t b ht2, k _ H1 U1 ex1 (repB U1 H1 _)⟩
  cases p <;> simp only [tyName, Option.some.injEq, reduceCtorEq] at ht1 <;> subst ht1
  · have := (rep_non (U := U1) (H := H1)).mp r1; subst this; exact .non
  · have := (rep_bl (U := U1) (H := H1)).mp r1; subst this; exact .bl _
  · have := (rep_int (U := U1) (H := H1)).mp r1; subst this; exact .int _
  · have := (rep_str (U := U1) (H := H1)).mp r1; subst this; exact .str _
  · obtain ⟨a, xs, rfl, ha, _⟩ := r1; exact .lst ha
  · obtain ⟨a, xs, rfl, ha, _⟩ := (rep_tup (U := U1) (H := H1)).mp r1; exact .tup ha
theorem lk2 {t : String} {b : Bool} {n1 n2 : String} {b1 b2 : Bool} {P : String → Bool → Prop} (h1 : P n1 b1) (h2 : P n2 b2) (h : [(n1, b1), (n2, b2)].lookup t = some b) : P t b := by
  simp only [List.lookup] at h
  split at h
  · rename_i e; cases h; have : t = n1 := by simpa using e
    rw [this]; exact h1
  · split at h
    · rename_i e; cases h; have : t = n2 := by simpa using e
      rw [this]; exact h2
    · cases h
def pIsN : PV → Option PV
  | .non => some (.bl true)
  | _ => some (.bl false)
def pNotN : PV → Option PV
  | .non => some (.bl false)
  | _ => some (.bl true)
def flatP : PV → Bool
  | .non => true | .bl _ => true | .int _ => true | .str _ => true | _ => false
def eqP : PV → PV → Bool
  | .non, .non => true
  | .bl a, .bl b => a == b
  | .bl a, .int b => (if a then 1 else 0) == b
  | .int a, .bl b => a == (if b then 1 else 0)
  | .int a, .int b => a == b
  | .str a, .str b => a == b
  | _, _ => false
theorem flat_val {U : AS} {H : Hp} {p : PV} {v : V} (h : Bor U H p v) (hf : flatP p = true) : flatV v = true ∧ ofConst v = some p := by
  cases p <;> simp only [flatP] at hf <;> first | cases hf | skip
  · rw [(rep_non (U := U) (H := H)).mp h]; exact ⟨rfl, rfl⟩
  · rw [(rep_bl (U := U) (H := H)).mp h]; exact ⟨rfl, rfl⟩
  · rw [(rep_int (U := U) (H := H)).mp h]; exact ⟨rfl, rfl⟩
  · rw [(rep_str (U := U) (H := H)).mp h]; exact ⟨rfl, rfl⟩
theorem eqP_val {p q : PV} {v w : V} (h1 : ofConst v = some p) (h2 : ofConst w = some q) : eqV v w = eqP p q := by
  cases v <;> simp only [ofConst] at h1 <;> first | cases h1 | skip
  all_goals (cases w <;> simp only [ofConst] at h2 <;> first | cases h2 | skip)
  all_goals rfl
theorem flats {U : AS} {H : Hp} : ∀ {ps : List PV} {xs : List V}, Reps U H ps xs → ps.all flatP = true → xs.all flatV = true ∧ ∀ (v : V) (p : PV), ofConst v = some p → xs.any (fun y => eqV y v) = ps.any (fun y => eqP y p)
  | [], xs, h, _ => by rw [reps_nil.mp h]; exact ⟨rfl, fun _ _ _ => rfl⟩
  | p :: ps, xs, h, hf => by
    obtain ⟨x, r, rfl, h1, h2⟩ := reps_cons.mp h
    simp only [List.all_cons, Bool.and_eq_true] at hf
    obtain ⟨a, b⟩ := flats h2 hf.2
    obtain ⟨c, d⟩ := flat_val (Rep.bor h1) hf.1
    exact ⟨by simp [a, c], fun v q hq => by simp only [List.any_cons]; rw [b v q hq, eqP_val d hq]⟩
def pIn (neg : Bool) (p q : PV) : Option PV := match q with
  | .lst ps => if flatP p && ps.all flatP then some (.bl (if neg then !(ps.any fun y => eqP y p) else ps.any fun y => eqP y p)) else none
  | .tup ps => if flatP p && ps.all flatP then some (.bl (if neg then !(ps.any fun y => eqP y p) else ps.any fun y => eqP y p)) else none
  | _ => none
theorem r2_in {Kf : PySem.W.Frag} {neg : Bool} : R2V .shr (rIn Kf neg) (pIn neg) := by
  intro U H p q z v w Q d hp hq e k
  cases q with
  | lst ps =>
    obtain ⟨h, rfl⟩ := some_if e
    simp only [Bool.and_eq_true] at h
    obtain ⟨a, xs, rfl, ha, rx⟩ := hq
    obtain ⟨f1, f2⟩ := flats rx h.2
    obtain ⟨g1, g2⟩ := flat_val hp h.1
    refine ⟨a, xs, rfl, .inl (SqL.of ha), g1, f1, ?_⟩
    unfold inV
    rw [f2 v p g2]
    exact k _ H U (.refl d) (repB U H _)
  | tup ps =>
    obtain ⟨h, rfl⟩ := some_if e
    simp only [Bool.and_eq_true] at h
    obtain ⟨a, xs, rfl, ha, rx⟩ := rep_tup.mp (show Rep U H (.tup ps) w from hq)
    obtain ⟨f1, f2⟩ := flats rx h.2
    obtain ⟨g1, g2⟩ := flat_val hp h.1
    refine ⟨a, xs, rfl, .inr (SqT.of ha), g1, f1, ?_⟩
    unfold inV
    rw [f2 v p g2]
    exact k _ H U (.refl d) (repB U H _)
  | _ => cases e
def itL (f : VX) : VL := fun ρ => (f ρ).bind fun p => match p with
  | .lst ps => some ps
  | _ => none
def itT (f : VX) : VL := fun ρ => (f ρ).bind fun p => match p with
  | .tup ps => some ps
  | _ => none
theorem vi_list {Kf : PySem.W.Frag} {tl : TE} {f : VX} (h : VE .shr tl f) : VI (iList Kf tl) (itL f) := by
  intro U O H σ ρ R ys s e k
  obtain ⟨p, hp, e⟩ := Option.bind_eq_some_iff.mp e
  cases p with
  | lst ps =>
    cases e
    refine h U O H σ ρ _ _ s hp fun v H1 U1 ex1 r1 => ?_
    obtain ⟨a, xs, rfl, ua, ha, rx⟩ := rep_lst.mp r1
    refine ⟨a, rfl, ⟨xs, SqL.of ha⟩, k _ H1 U1 ex1 ⟨fun i U2 H2 kp d x hx => ?_, fun U2 H2 kp => ?_⟩⟩
    · have ha2 := kp.lst a xs ua ha
      obtain ⟨v, hv, rv⟩ := (Reps.keeps kp _ _ rx).get hx
      refine ⟨⟨xs, v, SqL.of ha2, hv⟩, fun w H3 hy => ?_⟩
      obtain ⟨rfl, hw⟩ := hy
      have := hw xs (SqL.of ha2)
      rw [hv] at this; cases this
      exact ⟨U2, .refl d, rv⟩
    · exact ⟨xs, SqL.of (kp.lst a xs ua ha), by rw [rx.length]; exact Nat.le_refl _⟩
  | _ => cases e
theorem vi_tup {Kf : PySem.W.Frag} {m : Md} {tl : TE} {f : VX} (h : VE m tl f) : VI (iTup Kf tl) (itT f) := by
  intro U O H σ ρ R ys s e k
  obtain ⟨p, hp, e⟩ := Option.bind_eq_some_iff.mp e
  cases p with
  | tup ps =>
    cases e
    refine h.bor U O H σ ρ _ _ s hp fun v H1 U1 ex1 r1 => ?_
    obtain ⟨a, xs, rfl, ha, rx⟩ := (rep_tup (U := U1) (H := H1)).mp r1
    refine ⟨a, rfl, ⟨xs, SqT.of ha⟩, k _ H1 U1 ex1 ⟨fun i U2 H2 kp d x hx => ?_, fun U2 H2 kp => ?_⟩⟩
    · have ha2 := kp.tup a xs ha
      obtain ⟨v, hv, rv⟩ := (Reps.keeps kp _ _ rx).get hx
      refine ⟨⟨xs, v, SqT.of ha2, hv⟩, fun w H3 hy => ?_⟩
      obtain ⟨rfl, hw⟩ := hy
      have := hw xs (SqT.of ha2)
      rw [hv] at this; cases this
      exact ⟨U2, .refl d, rv⟩
    · exact ⟨xs, SqT.of (kp.tup a xs ha), by rw [rx.length]; exact Nat.le_refl _⟩
  | _ => cases e
def rngP (lo : Int) (n : Nat) : List PV := (List.range n).map fun k => .int (lo + (k : Nat))
theorem rngP_get {lo : Int} {n i : Nat} {x : PV} (h : (rngP lo n)[i]? = some x) : i < n ∧ x = .int (lo + (i : Nat)) := by
  unfold rngP at h
  rw [List.getElem?_map] at h
  obtain ⟨j, hj, rfl⟩ := Option.map_eq_some_iff.mp h
  obtain ⟨h1, h2⟩ := List.getElem?_eq_some_iff.mp hj
  rw [List.length_range] at h1
  rw [List.getElem_range] at h2
  exact ⟨h1, by rw [h2]⟩
theorem walk_rng {U : AS} {H : Hp} {lo : Int} {n : Nat} : Walk U H (Itr lo n) (rngP lo n) := by
  refine ⟨fun i U2 H2 kp d x hx => ?_, fun U2 H2 kp => ?_⟩
  · obtain ⟨h1, rfl⟩ := rngP_get hx
    refine ⟨h1, fun w H3 hy => ?_⟩
    obtain ⟨rfl, rfl⟩ := hy
    exact ⟨U2, .refl d, repI U2 H3 _⟩
  · show n ≤ (rngP lo n).length
    unfold rngP; simp
def big? (i : Int) : Bool := decide (-(2 ^ 62) ≤ i) && decide (i < 2 ^ 62)
theorem big_of {i : Int} (h : big? i = true) : -(2 ^ 62) ≤ i ∧ i < 2 ^ 62 := by unfold big? at h; simpa using h
def itR1 (f : VL) : VL := fun ρ => (f ρ).bind fun ps => match ps with
  | [.int j] => if big? j then some (rngP 0 j.toNat) else none
  | _ => none
theorem vi_rng1 {ta : TA} {f : VL} (h : VA true ta f) : VI (iRng1 ta) (itR1 f) := by
  intro U O H σ ρ R ys s e k
  obtain ⟨ps, hp, e⟩ := Option.bind_eq_some_iff.mp e
  match ps, hp, e with
  | [.int j], hp, e =>
    obtain ⟨hb, rfl⟩ := some_if e
    refine h U O H σ ρ _ _ s hp fun vs H1 U1 ex1 r1 => ?_
    obtain ⟨v, rfl, hv⟩ := Bors.one (U := U1) (H := H1) r1
    rw [bor_int (U := U1) (H := H1) hv]
    exact ⟨j, rfl, (big_of hb).1, (big_of hb).2, k _ H1 U1 ex1 walk_rng⟩
def vAug (i : Nat) (g : Int → Int → Int) (f : VX) : VF := fun ρ => match xVar i ρ, f ρ with
  | some (.int x), some (.int y) => some (.nx (ρ.set i (some (.int (g x y), .shr))))
  | _, _ => none
def vPar (i j : Nat) (f : VL) : VF := fun ρ => (f ρ).bind fun ps => match ps with
  | [p, q] => some (.nx ((ρ.set i (some (p, .shr))).set j (some (q, .shr))))
  | _ => none
def vUnp (tg : VTg) (f : VX) : VF := fun ρ => (f ρ).bind fun p => (tg p ρ).map Out.nx
end L2
namespace L2
open PySem PySem.Spec PyProof.Rows
def xChain (g g' : PV → PV → Option PV) (fa fb fc : VX) : VX := fun ρ => (fa ρ).bind fun p => (fb ρ).bind fun q => match g p q with
  | some (.bl true) => (fc ρ).bind fun r => g' q r
  | some (.bl false) => some (.bl false)
  | _ => none
def maxI : List Int → Int → Int
  | [], m => m
  | x :: r, m => maxI r (if x > m then x else m)
def pMaxL : List PV → Option PV
  | [.lst ps] => (pInts ps).bind fun ns => match ns with
    | [] => none
    | x :: r => some (.int (maxI r x))
  | _ => none
theorem maxI_spec : ∀ (r : List Int) (m : Int), (maxI r m = m ∨ maxI r m ∈ r) ∧ m ≤ maxI r m ∧ ∀ y ∈ r, y ≤ maxI r m
  | [], m => ⟨.inl rfl, Int.le_refl _, fun y h => nomatch h⟩
  | x :: r, m => by
    obtain ⟨h1, h2, h3⟩ := maxI_spec r (if x > m then x else m)
    show (maxI r _ = m ∨ maxI r _ ∈ x :: r) ∧ m ≤ maxI r _ ∧ ∀ y ∈ x :: r, y ≤ maxI r _
    refine ⟨?_, ?_, fun y hy => ?_⟩
    · rcases h1 with h1 | h1
      · split at h1
        · right; rw [if_pos (by assumption), h1]; exact List.mem_cons_self
        · left; rw [if_neg (by assumption)]; exact h1
      · exact .inr (List.mem_cons_of_mem _ h1)
    · split at h2 <;> rename_i h <;> simp only [h, if_true, if_false] <;> omega
    · rcases List.mem_cons.mp hy with rfl | hy
      · split at h2 <;> rename_i h <;> simp only [h, if_true, if_false] <;> omega
      · exact h3 y hy
theorem rl_maxL {Kf : PySem.W.Frag} : RLV .shr (rMaxL Kf) pMaxL := by
  intro U H ps z vs Q d hb e k
  match ps, e with
  | [.lst qs], e =>
    obtain ⟨ns, hns, e⟩ := Option.bind_eq_some_iff.mp e
    obtain ⟨v, rfl, a, xs, rfl, ha, rx⟩ := hb.one
    rw [pInts_map hns] at rx
    have := rx.ints
    subst this
    cases ns with
    | nil => cases e
    | cons x r =>
      cases e
      refine ⟨a, x :: r, rfl, SqL.of ha, (fun h => nomatch h), fun z hz hm => ?_⟩
      obtain ⟨h1, h2, h3⟩ := maxI_spec r x
      have e1 : z = maxI r x := by
        have a1 : z ≤ maxI r x := by
          rcases List.mem_cons.mp hz with rfl | hz
          · exact h2
          · exact h3 z hz
        have a2 : maxI r x ≤ z := by
          rcases h1 with h1 | h1
          · rw [h1]; exact hm x List.mem_cons_self
          · exact hm _ (List.mem_cons_of_mem _ h1)
        omega
      rw [e1]
      exact k _ H U (.refl d) (repI U H _)
end L2
namespace L2
open PySem PySem.Spec PyProof.Rows
end L2
namespace L2
open PySem PySem.Spec PyProof.Rows
theorem hu4_of {A : Around} {k : Nat} (hr : Room k A) : A.units + (3 + 1) < cLine := Nat.lt_of_le_of_lt (Nat.add_le_add_left (by decide : 4 ≤ 64) _) hr.units
end L2
namespace L2
open PySem PySem.Spec PyProof.Rows PySem.W
end L2
namespace L2
end L2
namespace PySem
open Sem (wp)
section
variable {prog : Program} {w : World} {A : Around} {R : Result → Shared → Prop} {K : Type} [DecidableEq K] {knd : KeyKind prog w K} {l it d : Addr} {items : Array Value} {pairs : List (K × Value)}
open PyProof.Rows
end
end PySem
namespace L2
open PySem PySem.Spec PyProof.Rows PySem.W
section
variable {X : Cx} {pins : List (Addr × Obj)} {σ : St} {H : Hp} {s : Shared}
end
end L2
namespace L2
open PySem PySem.Spec PyProof.Rows
end L2
namespace L2
end L2
namespace PySem
end PySem
namespace PySem
open PyProof.Rows
section
variable {prog : Program} {w : World} {A : Around} {E : Value → Shared → Prop} {s : Shared}
end
end PySem
namespace PySem
open PyProof.Rows
section
variable {prog : Program} {w : World} {A : Around} {E : Value → Shared → Prop} {s : Shared}
end
end PySem
namespace PySem
open PyProof.Rows
section
variable {prog : Program} {w : World} {A : Around} {E : Value → Shared → Prop} {s : Shared}
end
end PySem
namespace PySem
open PyProof.Rows PySem.W PySem.Spec
section
variable {prog : Program} {w : World} {A : Around} {R : Result → Shared → Prop} {l it a : Addr} {items : Array Value} {ns : List Int} {led : Bool}
end
section
variable {prog : Program} {w : World} {A : Around} {E : Value → Shared → Prop} {s : Shared}
end
end PySem
namespace PySem
open PyProof.Rows PySem.W PySem.Spec
section
variable {prog : Program} {w : World} {A : Around} {E : Value → Shared → Prop} {s : Shared}
end
end PySem
namespace PySem
open PyProof.Rows PySem.W PySem.Spec
section
variable {prog : Program} {w : World} {A : Around} {E : Value → Shared → Prop} {s : Shared}
end
end PySem
namespace L2
open PySem PySem.Spec PyProof.Rows PySem.W
section
variable {X : Cx} {pins : List (Addr × Obj)} {σ : St} {H : Hp} {s : Shared}
end
end L2
namespace L2
open PySem PySem.Spec PyProof.Rows
def intsP : List PV → Option (List Int)
  | [] => some []
  | .int k :: r => (intsP r).map (k :: ·)
  | _ => none
theorem intsP_map : ∀ (ns : List Int), intsP (ns.map PV.int) = some ns
  | [] => rfl
  | n :: ns => by show (intsP (ns.map PV.int)).map (n :: ·) = _; rw [intsP_map ns]; rfl
section
variable {U : AS} {H : Hp}
theorem RepK.length : ∀ {ks : List (Key × PV)} {xs : List (Key × V)}, RepK U H ks xs → xs.length = ks.length
  | [], xs, h => by rw [repK_nil.mp h]; rfl
  | k :: ks, xs, h => by
    obtain ⟨v, r, rfl, _, h2⟩ := repK_cons.mp h
    simp [RepK.length h2]
theorem RepK.any (k : Key) : ∀ {ks : List (Key × PV)} {xs : List (Key × V)}, RepK U H ks xs → (xs.any fun kv => decide (kv.1 = k)) = ks.any fun kv => decide (kv.1 = k)
  | [], xs, h => by rw [repK_nil.mp h]; rfl
  | kp :: ks, xs, h => by
    obtain ⟨v, r, rfl, _, h2⟩ := repK_cons.mp h
    rw [List.any_cons, List.any_cons, RepK.any k h2]
end
end L2
namespace L2
open PySem PySem.Spec PyProof.Rows
structure WalkE (U0 : AS) (H0 : Hp) (J : It) (xs : List PV) : Prop where
  go : ∀ (i : Nat) (U : AS) (H : Hp), Ext U0 H0 U H → (∀ a, U a → H a ≠ none) → ∀ x, xs[i]? = some x → J.go i H ∧ ∀ v H', J.yld i H v H' → ∃ U', Ext U H U' H' ∧ Rep U' H' x v
  stop : ∀ (U : AS) (H : Hp), Ext U0 H0 U H → J.stop xs.length H
def VIb (wi : TI) (it : VL) : Prop := ∀ (U O : AS) (H : Hp) (σ : St) (ρ : PEnv) (R : It → Hp → Prop) (xs : List PV), SR U O H σ ρ → it ρ = some xs → (∀ J H' U', Ext U H U' H' → WalkE U' H' J xs → R J H') → wi σ H R
theorem ve_compB {src : List (Option Nat)} {wi : TI} {g : TG} {tif : TT} {te : TE} {it : VL} {tg : VTg} {cond : VB} {elt : VX} (hi : VIb wi it) (hg : VG g tg) (hc : VT tif cond) (he : VE .shr te elt) : VE .fr (tComp src wi g tif te) (xComp src it tg cond elt) := by
  intro U O H σ ρ Q z s e k
  obtain ⟨xs, hxs, e⟩ := Option.bind_eq_some_iff.mp e
  by_cases hs : small? xs.length = true
  case neg => rw [if_neg hs] at e; cases e
  rw [if_pos hs] at e
  obtain ⟨zs, e, rfl⟩ := Option.map_eq_some_iff.mp e
  refine hi U O H σ ρ _ xs s hxs fun J H1 U1 ex wk => ?_
  have s1 := s.ext ex
  have sz : ∀ n, n ≤ xs.length → n ≤ sizeLine := fun n h => Nat.le_trans h (small_le hs)
  refine ⟨fun i m ys τ H' => ∃ U' ρ' ps, SR U' (fun _ => False) H' τ ρ' ∧ Ext U1 H1 U' H' ∧ i ≤ xs.length ∧ m = xs.length - i ∧ ys.length ≤ i ∧ Reps U' H' ps ys ∧ (vCompL tg cond elt (xs.drop i) ρ').map (ps ++ ·) = some zs,
    ⟨_, U1, startR src ρ, [], s1.comp src, .refl s1.dU, Nat.zero_le _, rfl, Nat.le_refl _, reps_nil.mpr rfl, by simpa using e⟩, ?_⟩
  rintro i m ys τ H' ⟨U', ρ', ps, s', ex', hi', rfl, hy, rp, e'⟩
  have kp := ex'.keeps
  cases hx : xs[i]? with
  | none =>
    have hl : xs.length ≤ i := List.getElem?_eq_none_iff.mp hx
    have hii : i = xs.length := by omega
    subst hii
    rw [List.drop_length] at e'
    unfold vCompL at e'
    simp at e'
    subst e'
    refine .inl ⟨wk.stop U' H' ex', sz _ hy, fun D hD => ?_⟩
    obtain ⟨e2, r2⟩ := new_lst ex'.dU hD rp
    exact k _ _ U' (ex.trans (ex'.trans e2)) (Res.pre (U1 := U1) (ex.trans ex').same r2)
  | some x =>
    have hl := (List.getElem?_eq_some_iff.mp hx).1
    obtain ⟨hgo, hyl⟩ := wk.go i U' H' ex' s'.dU x hx
    rw [drop_get hx] at e'
    refine .inr ⟨hgo, Nat.lt_of_le_of_lt hy (Nat.lt_of_lt_of_le hl (small_le hs)), fun v H2 yl => ?_⟩
    obtain ⟨U2, ex2, rv⟩ := hyl v H2 yl
    unfold vCompL at e'
    cases z1 : tg x ρ' with
    | none => rw [z1] at e'; cases e'
    | some ρ1 =>
      rw [z1] at e'
      refine hg U2 _ H2 τ ρ' ρ1 x v _ (s'.ext ex2) rv z1 fun τ3 s3 => ?_
      cases z2 : cond ρ1 with
      | none => simp only [z2] at e'; cases e'
      | some b =>
        simp only [z2] at e'
        refine hc U2 _ H2 τ3 ρ1 _ b s3 z2 fun H4 U4 ex4 => ?_
        have ex24 := ex2.trans ex4
        cases b with
        | false => exact ⟨_, by omega, U4, ρ1, ps, s3.ext ex4, ex'.trans ex24, hl, rfl, by omega, Reps.keeps ex24.keeps _ _ rp, e'⟩
        | true =>
          cases z3 : elt ρ1 with
          | none => simp only [z3] at e'; cases e'
          | some y =>
            simp only [z3] at e'
            refine he U4 _ H4 τ3 ρ1 _ y (s3.ext ex4) z3 fun w H5 U5 ex5 r5 => ?_
            refine ⟨_, by omega, U5, ρ1, ps ++ [y], (s3.ext ex4).ext ex5, (ex'.trans ex24).trans ex5, hl, rfl, by simp; omega, Reps.append (Reps.keeps (ex24.trans ex5).keeps _ _ rp) (Reps.one r5), ?_⟩
            rw [Option.map_map] at e'
            rw [← e']
            congr 1
            funext l
            simp
end L2
namespace L2
open PySem PySem.Spec PyProof.Rows
section
variable {X : Cx} {K : PySem.W.Frag}
end
end L2
namespace L2
open PySem PySem.Spec PyProof.Rows
theorem q_nx {F G : VF} {ρ ρ' : PEnv} (h : F ρ = some (.nx ρ')) : vSeq F G ρ = G ρ' := by unfold vSeq; rw [h]
theorem q_rt {F G : VF} {ρ : PEnv} {p : PV} {b : Bool} (h : F ρ = some (.rt p b)) : vSeq F G ρ = some (.rt p b) := by unfold vSeq; rw [h]
theorem q_fnrt {k n : Nat} {fr b : Bool} {F : VF} {ps : List PV} {p : PV} (hl : ps.length = k) (h : F (initR n ps) = some (.rt p b)) (hb : (fr && !b) = false) : fnM k n fr F ps = some p := by
  unfold fnM
  rw [if_pos hl, h]
  simp only [hb, Bool.false_eq_true, if_false]
theorem q_set {i : Nat} {f : VX} {ρ : PEnv} {p : PV} (h : f ρ = some p) : vSetS i f ρ = some (.nx (ρ.set i (some (p, .shr)))) := by unfold vSetS; rw [h]; rfl
theorem q_xL {g : List PV → Option PV} {fa : VL} {ρ : PEnv} {ps : List PV} (h : fa ρ = some ps) : xL g fa ρ = g ps := by unfold xL; rw [h]; rfl
theorem q_x2 {g : PV → PV → Option PV} {f h : VX} {ρ : PEnv} {p q : PV} (h1 : f ρ = some p) (h2 : h ρ = some q) : x2 g f h ρ = g p q := by unfold x2; rw [h1, h2]; rfl
theorem q_lc {f : VX} {r : VL} {ρ : PEnv} {p : PV} {ps : List PV} (h1 : f ρ = some p) (h2 : r ρ = some ps) : lCons f r ρ = some (p :: ps) := by unfold lCons; rw [h1, h2]; rfl
theorem q_l1 {f : VX} {ρ : PEnv} {p : PV} (h1 : f ρ = some p) : lCons f lNil ρ = some [p] := q_lc h1 rfl
theorem q_b {f : VX} {ρ : PEnv} {b : Bool} (h : f ρ = some (.bl b)) : bOf f ρ = some b := by unfold bOf; rw [h]; rfl
theorem q_ret {f : VX} {b : Bool} {ρ : PEnv} {p : PV} (h : f ρ = some p) : vRet f b ρ = some (.rt p b) := by unfold vRet; rw [h]; rfl
theorem q_ift {c : VB} {F G : VF} {ρ : PEnv} (h : c ρ = some true) : vIf c F G ρ = F ρ := by unfold vIf; rw [h]
theorem q_iff {c : VB} {F G : VF} {ρ : PEnv} (h : c ρ = some false) : vIf c F G ρ = G ρ := by unfold vIf; rw [h]
theorem q_sm {n : Nat} (h : n ≤ 1000000) : small? n = true := decide_eq_true h
theorem q_big (n : Int) (h : -1000000 ≤ n ∧ n ≤ 1000000) : big? n = true := by
  unfold big?
  rw [Bool.and_eq_true, decide_eq_true_eq, decide_eq_true_eq]
  have : (2 : Int) ^ 62 = 4611686018427387904 := by decide
  rw [this]
  omega
theorem q_itR1 {f : VL} {ρ : PEnv} {j : Int} (h : f ρ = some [.int j]) (hj : -1000000 ≤ j ∧ j ≤ 1000000) : itR1 f ρ = some (rngP 0 j.toNat) := by
  unfold itR1
  rw [h]
  show (if big? j = true then _ else _) = _
  rw [q_big j hj]
  rfl
theorem q_add (i j : Int) : pAdd (.int i) (.int j) = some (.int (i + j)) := rfl
theorem q_lt (i j : Int) : pLt (.int i) (.int j) = some (.bl (decide (i < j))) := rfl
theorem q_lens (ps : List Int) : pLen [.scr ps] = some (.int ps.length) := rfl
theorem q_mod (i j : Int) (h : 0 < j) : pMod (.int i) (.int j) = some (.int (i % j)) := by
  have c : cPos i j = true := decide_eq_true h
  show (if cPos i j = true then _ else _) = _
  rw [if_pos c]
theorem q_div (i j : Int) (h : 0 < j) (h2 : j < 1073741824) : pDiv (.int i) (.int j) = some (.int (i / j)) := by
  have c : cDiv i j = true := by unfold cDiv; rw [decide_eq_true h, decide_eq_true h2]; rfl
  show (if cDiv i j = true then _ else _) = _
  rw [if_pos c]
theorem q_mul (i j : Int) (h : 0 ≤ i) (h2 : i < 4294967296) : pMul (.int i) (.int j) = some (.int (i * j)) := by
  have e : (2 : Int) ^ 64 = 18446744073709551616 := by decide
  have c : cMul i j = true := by
    unfold cMul
    rw [e, decide_eq_true (show -18446744073709551616 < i by omega), decide_eq_true (show i < 18446744073709551616 by omega)]
    rfl
  unfold pMul pIIc
  simp only [c, if_true]
theorem q_at {α : Type} {l : List α} {i : Nat} {x : α} (h : l[i]? = some x) : atI l (i : Int) = some x := by
  have hl := (List.getElem?_eq_some_iff.mp h).1
  unfold atI ixN
  rw [if_pos (by omega), if_pos (by omega), Int.toNat_natCast]
  exact h
theorem q_cat (ps qs : List PV) (h : ps.length + qs.length ≤ 1000000) : pCat (.lst ps) (.lst qs) = some (.lst (ps ++ qs)) := by
  show (if small? (ps.length + qs.length) = true then _ else _) = _
  rw [q_sm h]; rfl
theorem q_comp {src : List (Option Nat)} {it : VL} {tg : VTg} {c : VB} {f : VX} {ρ : PEnv} {xs ys : List PV} (h : it ρ = some xs) (hs : xs.length ≤ 1000000) (h2 : vCompL tg c f xs (startR src ρ) = some ys) : xComp src it tg c f ρ = some (.lst ys) := by
  unfold xComp
  rw [h]
  show (if small? xs.length = true then _ else _) = _
  rw [q_sm hs, if_pos rfl, h2]
  rfl
def intsV (l : List Int) : PV := .lst (l.map PV.int)
def dT (ns : List Int) : List (Key × PV) := ns.map fun x => (Sum.inl x, PV.bl true)
end L2
namespace PySem
open PyProof.Rows PySem.W PySem.Spec
end PySem
namespace PySem
open PyProof.Rows PySem.W PySem.Spec
end PySem
namespace PySem
open PyProof.Rows PySem.W PySem.Spec
section
variable {prog : Program} {w : World} {A : Around} {E : Value → Shared → Prop} {s : Shared}
end
end PySem
namespace PySem
open PyProof.Rows PySem.W PySem.Spec
section
variable {prog : Program} {w : World} {A : Around} {R : Result → Shared → Prop} {l it a : Addr} {items : Array Value} {ns : List Int} {led : Bool}
end
section
variable {prog : Program} {w : World} {A : Around} {E : Value → Shared → Prop} {s : Shared}
end
end PySem
namespace PySem
open PyProof.Rows PySem.W PySem.Spec
section
variable {prog : Program} {w : World} {A : Around} {E : Value → Shared → Prop} {s : Shared}
end
end PySem
namespace L2
open PySem PySem.Spec PyProof.Rows PySem.W
section
variable {X : Cx} {pins : List (Addr × Obj)} {σ : St} {H : Hp} {s : Shared}
end
end L2
namespace L2
open PySem PySem.Spec PyProof.Rows
end L2
namespace L2
open PySem PySem.Spec PyProof.Rows
end L2
namespace L2
open PySem PySem.Spec PyProof.Rows
end L2
namespace L2
open PySem PySem.Spec PyProof.Rows
section
variable {X : Cx}
end
end L2
namespace L2
open PySem PySem.Spec PyProof.Rows
end L2
namespace L2
open PySem PySem.Spec PyProof.Rows
def KpB (B : Heap) (l : List Env) (H' : Hp) (h : Heap) : Prop := ∀ b, (H' b ≠ none ∨ h.get? b ≠ none) → b ∉ frs l → ∃ o, B.get? b = some o
def CX1 (P : Program) (w : World) : CXT := fun outer H s E e s' => ∃ (a C : Addr) (H' : Hp) (B : Heap) (t0 : Value), e = .ref a ∧ s'.os = s.os ∧ AllBare s'.gens ∧ Un (frs outer) [] H H' s.heap s'.heap ∧
  HOk P w H' s'.heap ∧ Heap.FlyingW B outer a (.ref C) t0 s'.heap ∧ KpB B outer H' s.heap ∧ E (.ref C) none H'
def KpX (X : Cx) (pins : List (Addr × Obj)) (B : Heap) (H' : Hp) : Prop := ∀ b, (H' b ≠ none ∨ X.s₀.heap.get? b ≠ none ∨ ∃ p ∈ X.pn ++ pins, p.1 = b) → b ∉ frs X.stack → ∃ o, B.get? b = some o
theorem ObjOk.has {P : Program} {w : World} {H : Hp} {h : Heap} {a : Addr} {o : HO} (x : ObjOk P w H h a o) : ∃ u, h.get? a = some u := by
  cases o with
  | lst xs => obtain ⟨_, _, _, _, e⟩ := x; exact ⟨_, e⟩
  | tup xs => obtain ⟨_, _, _, _, e, _⟩ := x; exact ⟨_, e⟩
  | dK kvs => obtain ⟨_, _, _, _, _, _, _, e, _⟩ := x; exact ⟨_, e⟩
  | dT kvs => obtain ⟨_, _, _, _, _, _, _, e, _⟩ := x; exact ⟨_, e⟩
  | set S n => obtain ⟨_, _, _, _, e, _⟩ := x; exact ⟨_, e⟩
  | ins C dx fs => obtain ⟨_, _, _, e, _⟩ := x; exact ⟨_, e⟩
  | own y => exact x
  | xd fs => obtain ⟨_, ⟨_, _, _, e, _⟩, _⟩ := x; exact ⟨_, e⟩
  | rng lo hi => obtain ⟨_, _, _, e⟩ := x; exact ⟨_, e⟩
  | frz ob u => obtain ⟨e, _⟩ := x; exact ⟨_, e⟩
  | tbl ps => exact ⟨_, (show h.get? a = some _ from x)⟩
  | met f y => exact ⟨_, (show h.get? a = some _ from x)⟩
  | ext φ => obtain ⟨_, e, _⟩ := x; exact e
section
variable {X : Cx} {pins : List (Addr × Obj)} {σ : St} {H : Hp} {s : Shared} {B h' : Heap}
theorem Inv.notStk (I : Inv X pins σ H s) {b : Addr} (h : b ∉ X.fs) (n : b ≠ X.env.locals) : b ∉ frs X.stack := fun z => (List.mem_cons.mp (I.stkSub b z)).elim n h
theorem Inv.old_ne (I : Inv X pins σ H s) {b : Addr} (h : X.s₀.heap.get? b ≠ none) : b ≠ X.env.locals := by
  cases q : X.s₀.heap.get? b with
  | none => exact absurd q h
  | some o => exact Nat.ne_of_lt (Nat.lt_of_lt_of_le (Heap.lt_size q) I.ok.above)
theorem Inv.fly (I : Inv X pins σ H s) (hex : X.ex = []) (sB : B.StaysIn s.heap) (k : KpX X pins B H) (sB' : B.StaysIn h') (up : s.heap.UpToSlots h') : Inv X pins σ H { s with heap := h' } := by
  have at1 : ∀ b o, (H b ≠ none ∨ X.s₀.heap.get? b ≠ none ∨ ∃ p ∈ X.pn ++ pins, p.1 = b) → b ∉ frs X.stack → s.heap.get? b = some o → h'.get? b = some o := fun b o c n e => by
    obtain ⟨o', e'⟩ := k b c n
    have := sB b o' e'
    rw [e] at this; cases this
    exact sB' b o e'
  have fr1 : ∀ b o, b ∈ frs X.stack → s.heap.get? b = some o → ∃ sl, h'.get? b = some { o with slots := sl } := fun b o hb e => by
    obtain ⟨_, o', ho', hd⟩ := I.stack.mem hb
    rw [e] at ho'; cases ho'
    exact up b o e hd
  have cel : ∀ c v, s.heap.IsCell c v → h'.IsCell c v := fun c v ⟨o, ho, hd⟩ => by
    obtain ⟨sl, e⟩ := up c o ho fun vs q => by rw [hd] at q; cases q
    exact ⟨_, e, hd⟩
  have old : ∀ b o, X.s₀.heap.get? b = some o → X.s₀.heap.get? b ≠ none := fun b o e => by rw [e]; intro z; cases z
  have nx : ∀ b : Addr, b ∉ X.ex := fun b => by rw [hex]; simp
  refine ⟨I.ok, I.os, I.bare, ⟨fun b o e n hb hx => ?_, fun b o e n hb hx => ?_, I.base.free, fun b o e hx => ?_, I.base.tups, I.base.frzs, I.base.tbls⟩, ?_, fun x c e => ?_, I.free, I.freeC, fun p hp => ?_, fun a o e => ?_, I.len⟩
  · exact at1 b o (.inr (.inl (old b o e))) (I.notStk hb (I.old_ne (old b o e))) (I.base.keep b o e n hb hx)
  · obtain ⟨sl, e1⟩ := I.base.slot b o e n hb hx
    obtain ⟨_, o', ho', hd⟩ := I.ok.funs.mem hb
    rw [e] at ho'; cases ho'
    obtain ⟨sl', e2⟩ := up b _ e1 hd
    exact ⟨sl', e2⟩
  · obtain ⟨o', e1⟩ := I.base.there b o e hx
    by_cases hb : b ∈ frs X.stack
    · obtain ⟨sl, e2⟩ := fr1 b o' hb e1
      exact ⟨_, e2⟩
    · exact ⟨o', at1 b o' (.inr (.inl (old b o e))) hb e1⟩
  · obtain ⟨m, hn, hl⟩ := I.loc
    refine ⟨m, up.ns hn, fun i x v e1 e2 e3 => ?_⟩
    obtain ⟨u, r, l⟩ := hl i x v e1 e2 e3
    refine ⟨u, r, ?_⟩
    rcases l with l | ⟨kd, c, e, z⟩
    · exact .inl l
    · exact .inr ⟨kd, c, e, cel c _ z⟩
  · obtain ⟨v, z⟩ := I.cell x c e
    exact ⟨v, cel c v z⟩
  · obtain ⟨e, n, ne, nf, d⟩ := I.pin p hp
    exact ⟨at1 p.1 p.2 (.inr (.inr ⟨p, hp, rfl⟩)) (I.notStk nf ne) e, n, ne, nf, d⟩
  · refine (I.hok a o e).stay (fun b u hb q => ?_) (fun _ q => q) fun _ _ q => q
    have hne : H b ≠ none := by
      rcases hb with rfl | hb
      · rw [e]; intro z; cases z
      · rw [hb]; intro z; cases z
    exact at1 b u (.inl hne) (fun z => hne (I.stkFree b z)) q
theorem Inv.raised {P : Program} {w : World} {E : XK} {e : Value} {s' : Shared} (I : Inv X pins σ H s) (hex : X.ex = []) (h : CX1 X.prog X.w X.stack H s E e s') :
    ∃ (a C : Addr) (H' : Hp) (B : Heap) (t0 : Value), e = .ref a ∧ Inv X pins σ H' s' ∧ Heap.FlyingW B X.stack a (.ref C) t0 s'.heap ∧ KpX X pins B H' ∧ E (.ref C) none H' := by
  obtain ⟨a, C, H', B, t0, rfl, os, bare, un, hok, fl, kp, q⟩ := h
  refine ⟨a, C, H', B, t0, rfl, I.call' os un hok bare (fun b z => absurd z (by simp)), fl, fun b c n => kp b ?_ n, q⟩
  rcases c with c | c | ⟨p, hp, rfl⟩
  · exact .inl c
  · refine .inr ?_
    cases z : X.s₀.heap.get? b with
    | none => exact absurd z c
    | some o =>
      obtain ⟨o', e⟩ := I.base.there b o z (by rw [hex]; simp)
      rw [e]; intro z; cases z
  · refine .inr ?_
    rw [(I.pin p hp).1]; intro z; cases z
end
end L2
namespace L2
open PySem PySem.Spec PyProof.Rows
def Fly (X : Cx) (pins : List (Addr × Obj)) (σ : St) (H : Hp) (C : Addr) (e : Value) (s' : Shared) : Prop := ∃ (a : Addr) (B : Heap) (t0 : Value), e = .ref a ∧ Inv X pins σ H s' ∧ Heap.FlyingW B X.stack a (.ref C) t0 s'.heap ∧ KpX X pins B H
def Made (X : Cx) (pins : List (Addr × Obj)) (σ : St) (H : Hp) (C : Addr) (e : Value) (s' : Shared) : Prop := ∃ (a : Addr) (args : List Value) (s₂ : Shared) (h' : Heap), e = .ref a ∧ Inv X pins σ H s₂ ∧ s' = { s₂ with heap := h' } ∧ Heap.MadeExcOf s₂.heap h' a (.ref C) args
def XPost (k : Bool) (X : Cx) (pins : List (Addr × Obj)) (U O : AS) (H : Hp) (C : Addr) (ρ' : PEnv) (e : Value) (s' : Shared) : Prop := ∃ (U' O' : AS) (H' : Hp) (σ' : St), SR U' O' H' σ' ρ' ∧ Tr U O H U' O' H' ∧ (Fly X pins σ' H' C e s' ∨ (k = true ∧ Made X pins σ' H' C e s'))
theorem XPost.pre {k : Bool} {X : Cx} {pins : List (Addr × Obj)} {U O U1 O1 : AS} {H H1 : Hp} {C : Addr} {ρ' : PEnv} {e : Value} {s' : Shared} (t : Tr U O H U1 O1 H1) (h : XPost k X pins U1 O1 H1 C ρ' e s') : XPost k X pins U O H C ρ' e s' := by
  obtain ⟨U', O', H', σ', sr, tr, f⟩ := h
  exact ⟨U', O', H', σ', sr, t.trans tr, f⟩
theorem XPost.up {k : Bool} {X : Cx} {pins : List (Addr × Obj)} {U O : AS} {H : Hp} {C : Addr} {ρ' : PEnv} {e : Value} {s' : Shared} (h : XPost false X pins U O H C ρ' e s') : XPost k X pins U O H C ρ' e s' := by
  obtain ⟨U', O', H', σ', sr, tr, f⟩ := h
  exact ⟨U', O', H', σ', sr, tr, f.elim .inl fun z => nomatch z.1⟩
def NoX (X : Cx) : Prop := ∀ e s', X.xe e s' → False
abbrev VR := PEnv → Option (Nat × PEnv)
def RXs (k : Bool) (cl : Nat → Addr) (X : Cx) (b : List Stmt) (G : VR) : Prop := ∀ (pins : List (Addr × Obj)) (s : Shared) (σ : St) (H : Hp) (U O : AS) (ρ : PEnv) (n : Nat) (ρ' : PEnv), Inv X pins σ H s → SR U O H σ ρ → G ρ = some (n, ρ') →
  wpAny (model X.prog X.w) X.A (execs b X.env) (fun _ _ => False) (XPost k X pins U O H (cl n) ρ') s
def RX1 (k : Bool) (cl : Nat → Addr) (X : Cx) (b : Stmt) (G : VR) : Prop := ∀ (pins : List (Addr × Obj)) (s : Shared) (σ : St) (H : Hp) (U O : AS) (ρ : PEnv) (n : Nat) (ρ' : PEnv), Inv X pins σ H s → SR U O H σ ρ → G ρ = some (n, ρ') →
  wpAny (model X.prog X.w) X.A (exec b X.env) (fun _ _ => False) (XPost k X pins U O H (cl n) ρ') s
def EX (cl : Nat → Addr) (X : Cx) (e : Expr) (g : PEnv → Option Nat) : Prop := ∀ (pins : List (Addr × Obj)) (s : Shared) (σ : St) (H : Hp) (U O : AS) (ρ : PEnv) (n : Nat), Inv X pins σ H s → SR U O H σ ρ → g ρ = some n →
  wpAny (model X.prog X.w) X.A (eval e X.env) (fun _ _ => False) (XPost false X pins U O H (cl n) ρ) s
def gNone : VR := fun _ => none
def gX (g : PEnv → Option Nat) : VR := fun ρ => (g ρ).map fun n => (n, ρ)
def gRaise (n : Nat) : VR := fun ρ => some (n, ρ)
def gSeq (F : VF) (G1 G2 : VR) : VR := fun ρ => match G1 ρ with
  | some x => some x
  | none => match F ρ with
    | some (.nx ρ') => G2 ρ'
    | _ => none
def gIf (c : VB) (G1 G2 : VR) : VR := fun ρ => match c ρ with
  | some true => G1 ρ
  | some false => G2 ρ
  | none => none
def gCall (g : List PV → Option Nat) (fa : VL) : PEnv → Option Nat := fun ρ => (fa ρ).bind g
def gnM (k n : Nat) (G : VR) (ps : List PV) : Option Nat := if ps.length = k then (G (initR n ps)).map (·.1) else none
section
variable {k : Bool} {cl : Nat → Addr} {X : Cx} {pos : Pos}
theorem rx_none {st : Stmt} : RX1 k cl X st gNone := fun _ _ _ _ _ _ _ _ _ _ _ e => nomatch e
theorem rxs_none {st : List Stmt} : RXs k cl X st gNone := fun _ _ _ _ _ _ _ _ _ _ _ e => nomatch e
theorem rxs_cons {st : Stmt} {rest : List Stmt} {t : TS} {F : VF} {G1 G2 : VR} (hx : NoX X) (hs : PS X st t) (hv : VS t F) (h1 : RX1 k cl X st G1) (h2 : RXs k cl X rest G2) : RXs k cl X (st :: rest) (gSeq F G1 G2) := by
  intro pins s σ H U O ρ n ρ' I sr e
  unfold gSeq at e
  cases z : G1 ρ with
  | some x =>
    rw [z] at e
    cases e
    exact wpAny_execs_cons (wpAny_mono (h1 pins s σ H U O ρ n ρ' I sr z) (fun _ _ q => q.elim) fun _ _ q => q)
  | none =>
    rw [z] at e
    cases y : F ρ with
    | none => rw [y] at e; cases e
    | some o =>
      rw [y] at e
      cases o with
      | nx ρ1 =>
        have hq := hv U O H σ ρ { nx := fun σ1 H1 => ∃ U1 O1, SR U1 O1 H1 σ1 ρ1 ∧ Tr U O H U1 O1 H1, rt := fun _ _ => False } _ sr y fun U1 O1 H1 σ1 s1 t1 => ⟨U1, O1, s1, t1⟩
        refine wpAny_execs_cons (wpAny_mono (hs pins s σ H _ I hq) (fun f s1 q => ?_) fun e' s1 q => (hx e' s1 q).elim)
        cases f with
        | next =>
          obtain ⟨σ1, H1, I1, U1, O1, sr1, t1⟩ := q
          exact wpAny_mono (h2 pins s1 σ1 H1 U1 O1 ρ1 n ρ' I1 sr1 e) (fun _ _ q => q) fun _ _ q => q.pre t1
        | brk => obtain ⟨_, _, _, q⟩ := q; exact False.elim q
        | cont => obtain ⟨_, _, _, q⟩ := q; exact False.elim q
        | ret u => obtain ⟨_, _, _, _, _, q⟩ := q; exact False.elim q
      | bk ρ1 => cases e
      | ct ρ1 => cases e
      | rt p fr => cases e
theorem rxs_one {st : Stmt} {G1 : VR} (h1 : RX1 k cl X st G1) {rest : List Stmt} : RXs k cl X (st :: rest) G1 := fun pins s σ H U O ρ n ρ' I sr e =>
  wpAny_execs_cons (wpAny_mono (h1 pins s σ H U O ρ n ρ' I sr e) (fun _ _ q => q.elim) fun _ _ q => q)
theorem rx_if {c : Expr} {a b : List Stmt} {tc : TT} {fc : VB} {G1 G2 : VR} (hx : NoX X) (hc : PT X c tc) (hv : VT tc fc) (h1 : RXs k cl X a G1) (h2 : RXs k cl X b G2) : RX1 k cl X (.If c a b pos) (gIf fc G1 G2) := by
  intro pins s σ H U O ρ n ρ' I sr e
  unfold gIf at e
  cases z : fc ρ with
  | none => rw [z] at e; cases e
  | some d =>
    rw [z] at e
    have hq := hv U O H σ ρ (fun d' H1 => d' = d ∧ ∃ U1, Ext U H U1 H1) d sr z fun H' U' ex => ⟨rfl, U', ex⟩
    refine wpAny_If (wpAny_mono (hc pins s σ H _ I hq) (fun d' s1 ⟨H1, I1, ed, U1, ex⟩ => ?_) fun e' s1 q => (hx e' s1 q).elim)
    subst ed
    cases d' with
    | true => exact wpAny_mono (h1 pins s1 σ H1 U1 O ρ n ρ' I1 (sr.ext ex) e) (fun _ _ q => q) fun _ _ q => q.pre ex.tr
    | false => exact wpAny_mono (h2 pins s1 σ H1 U1 O ρ n ρ' I1 (sr.ext ex) e) (fun _ _ q => q) fun _ _ q => q.pre ex.tr
theorem gX_some {g : PEnv → Option Nat} {ρ ρ' : PEnv} {n : Nat} (h : gX g ρ = some (n, ρ')) : g ρ = some n ∧ ρ' = ρ := by
  unfold gX at h
  obtain ⟨m, hm, e⟩ := Option.map_eq_some_iff.mp h
  cases e
  exact ⟨hm, rfl⟩
theorem rx_ret {e : Expr} {g : PEnv → Option Nat} (he : EX cl X e g) : RX1 k cl X (.Return (some e) pos) (gX g) := by
  intro pins s σ H U O ρ n ρ' I sr e
  obtain ⟨e, rfl⟩ := gX_some e
  exact wpAny_Return_some (wpAny_mono (he pins s σ H U O _ n I sr e) (fun _ _ q => q.elim) fun _ _ q => q.up)
end
def spX (cl : Nat → Addr) (g : List PV → Option Nat) : Sp := fun vs H Q E => ∃ U ps n, (∀ a, U a → H a ≠ none) ∧ Reps U H ps vs ∧ g ps = some n ∧ ∀ H' U', Ext U H U' H' → E (.ref (cl n)) none H'
theorem ex_call {cl : Nat → Addr} {X : Cx} {k : Nat} {f : Addr} {fd : FuncData} {ps : List Str} {g : List PV → Option Nat} {x : Str} {p pos : Pos} {e : Expr} {es : List Expr} {t : TA} {fa : VL} (hx : NoX X) (hex : X.ex = [])
    (F : FnOk X.prog X.w X.K X.mg X.base (CX1 X.prog X.w) k f fd ps (spX cl g)) (hr : Room k X.A) (hg : Gl X x) (hm : X.mg x = some (.ref f)) (hk : PySem.W.keepIn X.K (.ref f) = true) (hb : Binds X.K fd ps [])
    (ha : PA X (e :: es) t) (hv : VA false t fa) (hdb : (x == ("__debug__" : Str)) = false := by decide) (he : starEach (e :: es) X.env = (false, eval e X.env) :: starEach es X.env := by rfl) (hpl : (backTo pos (starEach es X.env)).any (·.1) = false := by rfl) :
    EX cl X (.Call (.Name x p) (e :: es) [] pos) (gCall g fa) := by
  intro pins s σ H U O ρ n I sr eg
  obtain ⟨qs, hq, eg⟩ := Option.bind_eq_some_iff.mp eg
  refine wpAny_Call_Name_kw (ld_glob I hg hm ?_ hdb)
  have h := hv U O H σ ρ (fun vs H1 => ∃ U1, Ext U H U1 H1 ∧ Reps U1 H1 qs vs) qs sr hq fun vs H' U' ex r => ⟨U', ex, r⟩
  refine PySem.W.callWith_K (h₀ := X.base) I.ok.mod.kin hk (wpAny_mono (ha pos pins s σ H _ I h) (fun us s1 ⟨vs, H1, I1, r, U1, ex, rp⟩ => ⟨I1.kIn, ?_⟩) fun e' s' q => (hx e' s' q).elim) he hpl
  have hsp : spX cl g vs H1 (fun _ _ => False) (fun c _ H' => c = .ref (cl n) ∧ ∃ U', Ext U1 H1 U' H') := ⟨U1, qs, n, ex.dU, rp, eg, fun H' U' ex' => ⟨rfl, U', ex'⟩⟩
  have hl : us.length = ps.length := by rw [← r.length]; exact F.len _ _ _ _ hsp
  have hbb := hb s1 us I1.kIn (by rw [List.append_nil]; exact hl)
  rw [List.append_nil] at hbb
  refine wpAny_call (codeAny_mono (F.run X.A X.stack s1 H1 ⟨us, []⟩ us vs _ _ hr I1.env0 hbb r hsp) fun rr s' hq' => ?_)
  cases rr with
  | error e' =>
    have hq2 : CX1 X.prog X.w X.stack H1 s1 (fun c _ H' => c = .ref (cl n) ∧ ∃ U', Ext U1 H1 U' H') e' s' := hq'
    obtain ⟨a, C, H', B, t0, rfl, I', fl, kp, ec, U', ex'⟩ := I1.raised (P := X.prog) (w := X.w) hex hq2
    cases ec
    have exx := ex.trans ex'
    exact ⟨U', O, H', σ, sr.ext exx, exx.tr, .inl ⟨a, B, t0, rfl, I', fl, kp⟩⟩
  | ok fl =>
    cases fl with
    | ret u => obtain ⟨_, _, _, _, _, _, _, q⟩ := hq'; exact False.elim q
    | next => exact False.elim hq'
    | brk => exact False.elim hq'
    | cont => exact False.elim hq'
theorem rx_raise {cl : Nat → Addr} {X : Cx} {n : Nat} {x : Str} {np cpos pos : Pos} {e₀ : Expr} {rest : List Expr} {t : TA} {fa : VL} {B newId initId : String} {bmB : List Value} (hx : NoX X) (hc : X.calm = true) (FB : ExcBaseFacts B newId initId bmB) (hg : Gl X x) (hm : X.mg x = some (.ref (cl n)))
    (hq : PySem.W.excIn X.K (cl n) bmB newId = true) (ha : PA X (e₀ :: rest) t) (hv : VA false t fa) (hn : ∃ ps, ∀ ρ, fa ρ = some ps ∧ ps.length ≤ 10) (hdb : (x == ("__debug__" : Str)) = false := by decide)
    (he : starEach (e₀ :: rest) X.env = (false, eval e₀ X.env) :: starEach rest X.env := by rfl) (hpl : (backTo cpos (starEach rest X.env)).any (·.1) = false := by rfl) :
    RX1 true cl X (.Raise (some (.Call (.Name x np) (e₀ :: rest) [] cpos)) none pos) (gRaise n) := by
  intro pins s σ H U O ρ m ρ' I sr eg
  cases eg
  obtain ⟨qs, hqs⟩ := hn
  unfold PySem.W.excIn at hq
  split at hq
  · rename_i dd cd sl ho
    split at hq
    · rename_i C' bm k0 k1 k2 k3 nn k5 hmro hsl
      simp only [Bool.and_eq_true, beq_iff_eq, Bool.not_eq_true'] at hq
      obtain ⟨⟨⟨⟨⟨e1, e2⟩, hdel⟩, ht⟩, hok⟩, hni⟩ := hq
      obtain ⟨nm, bs, mro, ns, qn, hd, sn, sub, ab, col, del⟩ := cd
      dsimp only at hmro hdel hok hni
      subst hmro hdel e1 e2
      have hsl' : sl = #[k0, k1, k2, k3, some (.builtin nn), k5] := by
        obtain ⟨l⟩ := sl
        simp only at hsl
        rw [hsl]
      subst hsl'
      have hbase : bm.contains (.type "BaseException") = true := (PySem.W.tail_of_in I.kIn ht).hasType FB.hasBase
      refine wpAny_Raise_call_subT (bm := bm) (nm := nm) (q := qn) (N := ns) (bs := bs) (hdct := hd) (sn := sn) (sub := sub) (ab := ab) (col := col) (dd := dd) (k0 := k0) (k1 := k1) (k2 := k2) (k3 := k3) (k5 := k5) (mN := X.base.nsMap ns) FB hbase (I.ok.hd hc) (by rw [he]; show (false || (backTo cpos (starEach rest X.env)).any (·.1)) = false; rw [hpl]; rfl) (PySem.W.nsMap_none_of_in I.mod.kin hok hni) (ld_glob I hg hm ⟨rfl, ?_⟩ hdb)
      have h := hv U O H σ ρ (fun vs H1 => ∃ U1, Ext U H U1 H1 ∧ Reps U1 H1 qs vs) qs sr (hqs ρ).1 fun vs H' U' ex r => ⟨U', ex, r⟩
      have hp := ha cpos pins s σ H _ I h
      rw [he] at hp ⊢
      refine Calls.evalArgs_plain (wpAny_mono hp (fun us s1 ⟨vs, H1, I1, r, U1, ex, rp⟩ => ?_) fun e' s' q => (hx e' s' q).elim)
      exact ⟨rfl, by rw [← r.length, rp.length]; exact Nat.le_trans (hqs ρ).2 (by decide), I1.kIn _ _ ho, (Heap.Ns.of_isNs (PySem.W.isNs_of_in I.mod.kin hok)).keeps I1.bk, PySem.W.tail_of_in I1.kIn ht, fun h' e hm => ⟨U1, O, H1, σ, sr.ext ex, ex.tr, .inr ⟨rfl, e, us, s1, h', rfl, I1, rfl, hm⟩⟩⟩
    · cases hq
  · cases hq
end L2
namespace L2
open PySem PySem.Spec PyProof.Rows
section
variable {X : Cx} {pins : List (Addr × Obj)} {σ : St} {H' : Hp} {s' : Shared} {a C : Addr} {E : XK} {M : Model} {Ex : Value → Shared → Prop}
theorem Inv.kpB {s : Shared} {B : Heap} (I : Inv X pins σ H' s) (kp : KpX X pins B H') : KpB B X.outer H' X.s₀.heap := fun b c n => by
  refine kp b (c.elim .inl fun z => .inr (.inl z)) (I.notStk n fun z => ?_)
  rcases c with c | c
  · exact c (by rw [z]; exact I.free)
  · exact I.old_ne c z
theorem leave_fly {B : Heap} {t0 : Value} (I : Inv X pins σ H' s') (hex : X.ex = []) (hst : X.stack = X.env :: X.outer) (hf : X.env.frame = some X.env.locals) (fl : Heap.FlyingW B X.stack a (.ref C) t0 s'.heap) (kp : KpX X pins B H') (q : E (.ref C) none H') :
    wpAny M X.A (leaving X.env (.ref a)) (fun _ s'' => CX1 X.prog X.w X.outer X.H₀ X.s₀ E (.ref a) s'') Ex s' := by
  rw [hst] at fl
  refine wpAny_leaves_onW (by rw [I.ok.frames, hst]) hf fl fun h'' fl2 up => ?_
  have I2 := I.fly hex fl.1 kp fl2.1 up
  have un := I2.base
  rw [hex] at un
  exact ⟨a, C, H', B, t0, rfl, I2.os, I2.bare, un, I2.hok, fl2, I2.kpB kp, q⟩
theorem leave_made {args : List Value} {h1 : Heap} (I : Inv X pins σ H' s') (hex : X.ex = []) (hst : X.stack = X.env :: X.outer) (hf : X.env.frame = some X.env.locals) (hx : Heap.MadeExcOf s'.heap h1 a (.ref C) args) (q : E (.ref C) none H') :
    wpAny M X.A (leaving X.env (.ref a)) (fun _ s'' => CX1 X.prog X.w X.outer X.H₀ X.s₀ E (.ref a) s'') Ex { s' with heap := h1 } := by
  have hl := PySem.W.funFrames_hide (as := frs X.stack) I.stack fun env he b hb => List.mem_filterMap.mpr ⟨env, he, hb⟩
  have kp : KpX X pins (PySem.W.hideAll s'.heap (frs X.stack)) H' := fun b c n => by
    have : ∃ o, s'.heap.get? b = some o := by
      rcases c with c | c | ⟨p, hp, rfl⟩
      · cases z : H' b with
        | none => exact absurd z c
        | some o => exact (I.hok b o z).has
      · cases z : X.s₀.heap.get? b with
        | none => exact absurd z c
        | some o => exact I.base.there b o z (by rw [hex]; simp)
      · exact ⟨_, (I.pin p hp).1⟩
    obtain ⟨o, e⟩ := this
    exact ⟨o, PySem.W.hideAll_get _ e n⟩
  have I1 : Inv X pins σ H' { s' with heap := h1 } := I.kept (t' := s'.toks) hx.keeps
  have hl' := hl
  rw [show X.stack = X.env :: X.outer from hst] at hl'
  refine wpAny_leaves_madeW (s := { s' with heap := h1 }) (base := PySem.W.hideAll s'.heap (frs X.stack)) (by rw [I.ok.frames, hst]) hf (fun b o z => PySem.W.of_hideAll _ z) (by rw [hst] at hl ⊢; exact hl) hx fun h'' t fl2 _ _ up => ?_
  have I2 := I1.fly hex (fun b o z => hx.keeps b o (PySem.W.of_hideAll _ z)) kp fl2.1 up
  have un := I2.base
  rw [hex] at un
  exact ⟨a, C, H', _, _, rfl, I2.os, I2.bare, un, I2.hok, fl2, I2.kpB kp, q⟩
end
end L2
namespace L2
open PySem PySem.Spec PyProof.Rows
def tSem (X : Cx) (st : Stmt) : TS := fun D σ H => ∀ pins s, Inv X pins σ H s → wpAny (model X.prog X.w) X.A (exec st X.env) (SP X pins D) X.xe s
theorem ps_sem {X : Cx} {st : Stmt} : PS X st (tSem X st) := fun pins s σ H D I h => h pins s I
def Land (X : Cx) (pins : List (Addr × Obj)) (σ : St) (H : Hp) (a C : Addr) (s : Shared) : Prop := ∃ (B : Heap) (t0 : Value), Inv X pins σ H s ∧ Heap.FlyingW B X.stack a (.ref C) t0 s.heap ∧ KpX X pins B H
section
variable {cl : Nat → Addr} {X : Cx} {n : Nat} {p : PV} {fr : Bool} {x : Str} {np pos : Pos} {Cj : Addr}
theorem look_at {M : Model} {h : Heap} {a C : Addr} (e : ∃ o, h.get? a = some o ∧ o.cls = .ref C) : PySem.W.Looks M h (typeOf (.ref a)) (.ref C) := by
  obtain ⟨o, h1, h2⟩ := e
  exact h2 ▸ (PySem.W.Looks.ld h1).andThen .now
theorem ld_globA {A : Around} {E : Value → Shared → Prop} {pins : List (Addr × Obj)} {s : Shared} {σ : St} {H : Hp} {x : Str} {u : Value} {pos : Pos} {Q : Value → Shared → Prop} (I : Inv X pins σ H s) (hg : Gl X x) (hm : X.mg x = some u) (h : Q u s)
    (hd : (x == ("__debug__" : Str)) = false := by decide) : wpAny (model X.prog X.w) A (eval (.Name x pos) X.env) Q E s :=
  Calls.Name_function_global I.ok.kind hg (Calls.loadGlobal_global (by rw [I.ok.glob]; exact I.mod.glob.keeps I.bk) hm h) hd
def Cx.held (X : Cx) (a : Addr) (oe : Obj) : Cx := { X with A := X.A.mark (some (.ref a)), calm := false, pn := (a, oe) :: X.pn, xe := fun _ _ => False }
theorem Inv.held {pins : List (Addr × Obj)} {σ : St} {H : Hp} {s : Shared} {a : Addr} {oe : Obj} (I : Inv X pins σ H s) (h : s.heap.get? a = some oe ∧ H a = none ∧ a ≠ X.env.locals ∧ a ∉ X.fs ∧ ∀ v, oe.data ≠ .cell v) : Inv (X.held a oe) pins σ H s :=
  ⟨⟨I.ok.mod, I.ok.kind, I.ok.glob, I.ok.blt, I.ok.above, I.ok.inj, I.ok.has, I.ok.cab, (fun z => nomatch z), I.ok.frames, I.ok.stk, I.ok.exf, I.ok.bs, I.ok.bsz, I.ok.noex, I.ok.exfs, I.ok.funs, I.ok.frf⟩,
    I.os, I.bare, I.base, I.loc, I.cell, I.free, I.freeC, fun p hp => by
      rcases List.mem_append.mp hp with z | z
      · rcases List.mem_cons.mp z with rfl | z
        · exact h
        · exact I.pin p (List.mem_append_left _ z)
      · exact I.pin p (List.mem_append_right _ z), I.hok, I.len⟩
theorem Inv.unheld {pins : List (Addr × Obj)} {σ : St} {H : Hp} {s : Shared} {a : Addr} {oe : Obj} (ok : X.Ok) (I : Inv (X.held a oe) pins σ H s) : Inv X pins σ H s :=
  ⟨ok, I.os, I.bare, I.base, I.loc, I.cell, I.free, I.freeC, fun p hp => I.pin p (by
    rcases List.mem_append.mp hp with z | z
    · exact List.mem_append_left _ (List.mem_cons_of_mem _ z)
    · exact List.mem_append_right _ z), I.hok, I.len⟩
theorem gone_ok {M : Model} {A : Around} {E : Value → Shared → Prop} {pins : List (Addr × Obj)} {σ : St} {H : Hp} {s : Shared} {i : Nat} {y : Str} {Q : Unit → Shared → Prop} (I : Inv X pins σ H s) (hN : X.N.Nodup) (hi : X.N[i]? = some y) (hk : X.env.kindOf y = some .local)
    (h : ∀ s', Inv X pins (σ.set i none) H s' → Q () s') : wpAny M A (do bindName X.env y .none; unbindBehindTheSuite X.env y pos) Q E s := by
  obtain ⟨m, hn, hl⟩ := id I.loc
  refine wpAny_nameGoes_keeps hk hn (by rw [I.ok.kind]; rfl) fun h' v hn' hs => h _ ?_
  obtain ⟨oL, _, _, hoL, _⟩ := id hn
  have old : ∀ b o, X.s₀.heap.get? b = some o → b ≠ X.env.locals := fun b o e => Nat.ne_of_lt (Nat.lt_of_lt_of_le (Heap.lt_size e) I.ok.above)
  refine ⟨I.ok, I.os, I.bare, ⟨fun b o e n hb hx => ?_, fun b o e n hb hx => ?_, I.base.free, fun b o e hx => ?_, I.base.tups, I.base.frzs, I.base.tbls⟩, ⟨_, hn', fun j z w e1 e2 e3 => ?_⟩, fun z c e => ?_, I.free, I.freeC, fun p hp => ?_, fun b ob e => ?_, by rw [List.length_set]; exact I.len⟩
  · exact (hs.2 b (old b o e)).trans (I.base.keep b o e n hb hx)
  · obtain ⟨sl, e1⟩ := I.base.slot b o e n hb hx
    exact ⟨sl, (hs.2 b (old b o e)).trans e1⟩
  · obtain ⟨o', e1⟩ := I.base.there b o e hx
    exact ⟨o', (hs.2 b (old b o e)).trans e1⟩
  · rcases get_set_some e2 with ⟨_, e, _⟩ | ⟨nj, e2⟩
    · cases e
    · obtain ⟨u', r', q⟩ := hl j z w e1 e2 e3
      refine ⟨u', r', ?_⟩
      rcases q with ⟨k, e⟩ | ⟨k, c, e, zc⟩
      · refine .inl ⟨k, ?_⟩
        have ne : z ≠ y := fun e => nj (nodup_ix hN (e ▸ hi) e1)
        show (if z = y then v else m z) = some u'
        rw [if_neg ne]; exact e
      · exact .inr ⟨k, c, e, zc.sameBut hs (I.cne z c e)⟩
  · obtain ⟨w', z'⟩ := I.cell z c e
    exact ⟨w', z'.sameBut hs (I.cne z c e)⟩
  · obtain ⟨e, n, ne, nf, d⟩ := I.pin p hp
    exact ⟨(hs.2 p.1 ne).trans e, n, ne, nf, d⟩
  · refine (I.hok b ob e).stay (fun c w' hc q => (hs.2 c ?_).trans q) (fun _ q => q) fun _ _ q => q
    rintro rfl
    rcases hc with rfl | hc
    · rw [I.free] at e; cases e
    · rw [I.free] at hc; cases hc
theorem SR.unset {U O : AS} {H : Hp} {σ : St} {ρ : PEnv} {i : Nat} {v : Option V} (s : SR U O H σ ρ) : SR U O H (σ.set i v) (ρ.set i none) := by
  refine ⟨by simp [s.len], s.dU, s.dO, s.dis, fun j q fl h => ?_, fun j k q q' a ne h1 h2 h3 h4 => ?_⟩
  · rcases get_set_some h with ⟨_, e, _⟩ | ⟨ne, h⟩
    · cases e
    · obtain ⟨w, hw, ok⟩ := s.slot j q fl h
      exact ⟨w, by rw [set_other ne]; exact hw, ok⟩
  · rcases get_set_some h1 with ⟨_, e, _⟩ | ⟨n1, h1⟩
    · cases e
    rcases get_set_some h2 with ⟨_, e, _⟩ | ⟨n2, h2⟩
    · cases e
    rw [set_other n1] at h3
    rw [set_other n2] at h4
    exact s.inj j k q q' a ne h1 h2 h3 h4
end
end L2
namespace L2
open PySem PySem.Spec PyProof.Rows
end L2
namespace L2
open PySem PySem.Spec PyProof.Rows
def vLPut (i : Nat) (fk f : VX) : VF := fun ρ => (f ρ).bind fun q => (fk ρ).bind fun kk => wr i (fun p => match p, kk with
  | .lst ps, .int k => (ixN ps.length k).map fun j => .lst (ps.set j q)
  | _, _ => none) ρ
def isL : PV → Bool
  | .lst _ => true
  | .dct _ => true
  | _ => false
def vSetW (i : Nat) (f : VX) : VF := fun ρ => (f ρ).map fun p => .nx (ρ.set i (some (p, if isL p = true then .own else .shr)))
end L2
namespace L2
open PySem PySem.Spec PyProof.Rows
def rNeT (X : Cx) (n : Nat) : R2 := fun x y H Q => ∃ a b xs ys e, x = .ref a ∧ y = .ref b ∧ SqT X.K H a xs ∧ SqT X.K H b ys ∧ (∀ j x y, xs[j]? = some x → ys[j]? = some y → EqR X n H x y (e j)) ∧
  Q (.bl (!((List.range (min xs.length ys.length)).all e && decide (xs.length = ys.length)))) H
theorem op_ne_tup {X : Cx} (n : Nat) (hu : X.A.units + (n + 1) < cLine) : OpR X (compareOp .NotEq) (rNeT X n) := by
  intro pins s σ H x y v u Q I rx ry h
  obtain ⟨a, b, xs, ys, e, rfl, rfl, ha, hb, he, q⟩ := h
  cases rx; cases ry
  obtain ⟨its, rx, px, _⟩ := I.tuple ha
  obtain ⟨jts, ry, py, _⟩ := I.tuple hb
  have lx := rx.length
  have ly := ry.length
  have z := SeqAt.RcNeAt.tuples (A := X.A) (s := s) (e := e) (show s.heap.IsTuple a its.toArray from px) (show s.heap.IsTuple b jts.toArray from py) (by omega) (fun j h1 h2 => eq_items I rx ry he (by show X.A.units + 1 + n < cLine; omega) j h1 h2)
  refine z X.prog X.w _ _ (fin_bl I q ?_)
  rw [List.size_toArray, List.size_toArray, ← lx, ← ly]
  congr 2
noncomputable def pNeT (n : Nat) : PV → PV → Option PV
  | .tup ps, .tup qs => if simks n ps qs then some (.bl (!peq (.lst ps) (.lst qs))) else none
  | _, _ => none
theorem r2_neT {X : Cx} {n : Nat} : R2V .shr (rNeT X n) (pNeT n) := by
  intro U H p q z v w Q d hp hq e k
  cases p <;> cases q <;> simp only [pNeT] at e <;> first | cases e | skip
  · rename_i ps qs
    obtain ⟨h, rfl⟩ := some_if e
    obtain ⟨a, xs, rfl, ha, rx⟩ := rep_tup.mp (show Rep U H (.tup ps) v from hp)
    obtain ⟨b, ys, rfl, hb, ry⟩ := rep_tup.mp (show Rep U H (.tup qs) w from hq)
    refine ⟨a, b, xs, ys, fun j => peq (ps.getD j .non) (qs.getD j .non), rfl, rfl, SqT.of ha, SqT.of hb, fun j x y hx hy => ?_, ?_⟩
    · obtain ⟨p', e1, r1⟩ := rx.getV hx
      obtain ⟨q', e2, r2⟩ := ry.getV hy
      show EqR X n H x y (peq (ps.getD j .non) (qs.getD j .non))
      rw [getD_of e1, getD_of e2]
      exact eqR_rep n p' q' x y (simks_get h e1 e2) r1 r2
    · rw [rx.length, ry.length, tup_len]
      exact k _ H U (.refl d) (repB U H _)
end L2
namespace L2
open PySem PySem.Spec PyProof.Rows
end L2
namespace L2
open PySem PySem.Spec PyProof.Rows
end L2
namespace L2
open PySem PySem.Spec PyProof.Rows
section
variable {X : Cx} {scope : Scope} {N' : List Str} {src : List (Option Nat)} {pins : List (Addr × Obj)} {σ : St} {H : Hp} {s : Shared} {fp : List Addr} {C : Addr}
end
end L2
namespace L2
open PySem PySem.Spec PyProof.Rows
section
variable {X : Cx} {scope : Scope} {N' : List Str} {src : List (Option Nat)} {pins : List (Addr × Obj)} {σ τ : St} {H H' : Hp} {s s' : Shared} {fp : List Addr} {C D : Addr}
end
section
variable {X : Cx} {scope : Scope} {N' : List Str} {src : List (Option Nat)} {elt target iter : Expr} {ifs : List Expr} {pos : Pos} {g : TG} {tif : TT} {te : TE}
end
end L2
namespace L2
open PySem PySem.Spec PyProof.Rows
end L2
namespace L2
open PySem PySem.Spec PyProof.Rows PySem.SeqAt
def strsP : List PV → Option (List Str)
  | [] => some []
  | .str x :: ps => (strsP ps).map (x :: ·)
  | _ => none
theorem strsP_eq : ∀ {ps : List PV} {ss : List Str}, strsP ps = some ss → ps = ss.map PV.str
  | [], ss, h => by cases h; rfl
  | .str x :: ps, ss, h => by
    simp only [strsP] at h
    obtain ⟨r, hr, rfl⟩ := Option.map_eq_some_iff.mp h
    rw [strsP_eq hr]; rfl
  | .non :: ps, ss, h => nomatch h
  | .bl _ :: ps, ss, h => nomatch h
  | .int _ :: ps, ss, h => nomatch h
  | .lst _ :: ps, ss, h => nomatch h
  | .tup _ :: ps, ss, h => nomatch h
  | .dct _ :: ps, ss, h => nomatch h
  | .scr _ :: ps, ss, h => nomatch h
  | .adr _ :: ps, ss, h => nomatch h
theorem Reps.strs {U : AS} {H : Hp} : ∀ {ss : List Str} {xs : List V}, Reps U H (ss.map PV.str) xs → xs = ss.map V.str
  | [], xs, h => reps_nil.mp h
  | n :: ns, xs, h => by
    obtain ⟨x, r, rfl, h1, h2⟩ := reps_cons.mp h
    rw [rep_str.mp h1, Reps.strs h2]; rfl
def eqS (k : Str) : Value → Bool
  | .str x _ => x == k
  | _ => false
def eqB (k : Bool) : Value → Bool
  | .bool x => x == k
  | _ => false
theorem valsS_at {ss : List Str} : ∀ {us : List Value}, Vals (ss.map V.str) us → (∀ y ∈ us, ∃ x t, y = Value.str x t) ∧ ∀ k, us.countP (eqS k) = ss.count k := by
  induction ss with
  | nil => intro us h; cases h; exact ⟨fun y hy => (nomatch hy), fun k => rfl⟩
  | cons x ss ih =>
    intro us h
    cases h with
    | cons r t =>
      obtain ⟨h1, h2⟩ := ih t
      obtain ⟨tk, rfl⟩ := r
      refine ⟨fun y hy => ?_, fun k => ?_⟩
      · rcases List.mem_cons.mp hy with rfl | hy
        · exact ⟨_, _, rfl⟩
        · exact h1 y hy
      · rw [List.countP_cons, h2 k, List.count_cons]; rfl
theorem valsB_at {bs : List Bool} : ∀ {us : List Value}, Vals (bs.map V.bl) us → us = bs.map Value.bool := by
  induction bs with
  | nil => intro us h; cases h; rfl
  | cons b bs ih => intro us h; cases h with | cons r t => cases r; rw [ih t]; rfl
theorem countB_at (k : Bool) : ∀ (bs : List Bool), (bs.map Value.bool).countP (eqB k) = bs.count k
  | [] => rfl
  | b :: bs => by rw [List.map_cons, List.countP_cons, countB_at k bs, List.count_cons]; rfl
def rCount (K : PySem.W.Frag) : V → List V → Hp → VK → Prop := fun x vs H Q => ∃ l, x = .ref l ∧
  ((∃ (ss : List Str) (k : Str), vs = [.str k] ∧ SqL K H l (ss.map V.str) ∧ Q (.int (ss.count k : Nat)) H) ∨ ∃ (bs : List Bool) (k : Bool), vs = [.bl k] ∧ SqL K H l (bs.map V.bl) ∧ Q (.int (bs.count k : Nat)) H)
theorem mt_count {X : Cx} {K : PySem.W.Frag} (hK : X.K = K) : MtR X "list.count" (rCount K) := by
  subst hK
  intro pins s σ H x vs v us Q I rx rv h
  obtain ⟨l, rfl, h⟩ := h
  cases rx
  rcases h with ⟨ss, k, rfl, hq, q⟩ | ⟨bs, k, rfl, hq, q⟩
  · obtain ⟨u, rfl, ru⟩ := rv.one
    obtain ⟨t, rfl⟩ := ru
    obtain ⟨its, r', pl, hz⟩ := I.list hq
    obtain ⟨a1, a2⟩ := valsS_at r'
    obtain ⟨⟨oc, od, odt, osl⟩, ho, hc, n, hd⟩ := pl.isList
    simp only at hc hd
    subst hc hd
    refine call_meets F.slot_list_count ⟨_, ho, rfl⟩ F.entry_list_count (F.args_list_count_2 _ _) (list_countAt l its.toArray n od osl (.str k t) (eqS k)) ⟨ho, fun y hy => ?_, ?_⟩
    · obtain ⟨x, tx, rfl⟩ := a1 y (by simpa using hy)
      exact EqAt.str_str x tx k t
    · rw [List.toList_toArray, a2 k]
      exact ⟨.int _, H, I.tok _, ⟨_, rfl⟩, q⟩
  · obtain ⟨u, rfl, ru⟩ := rv.one
    cases ru
    obtain ⟨its, r', pl, hz⟩ := I.list hq
    have eb := valsB_at r'
    subst eb
    obtain ⟨⟨oc, od, odt, osl⟩, ho, hc, n, hd⟩ := pl.isList
    simp only at hc hd
    subst hc hd
    refine call_meets F.slot_list_count ⟨_, ho, rfl⟩ F.entry_list_count (F.args_list_count_2 _ _) (list_countAt l (bs.map Value.bool).toArray n od osl (.bool k) (eqB k)) ⟨ho, fun y hy => ?_, ?_⟩
    · obtain ⟨x, hx, rfl⟩ := List.mem_map.mp (by simpa using hy : y ∈ bs.map Value.bool)
      exact EqAt.bool_bool x k
    · rw [List.toList_toArray, countB_at k bs]
      exact ⟨.int _, H, I.tok _, ⟨_, rfl⟩, q⟩
end L2
namespace L2
open PySem PySem.Spec PyProof.Rows PySem.SeqAt
def rIndexB (K : PySem.W.Frag) : V → List V → Hp → VK → Prop := fun x vs H Q => ∃ l, x = .ref l ∧
  ∃ (bs : List Bool) (k : Bool) (j : Nat), vs = [.bl k] ∧ SqL K H l (bs.map V.bl) ∧ j < 1000000 ∧ bs[j]? = some k ∧ (∀ i, i < j → bs[i]? ≠ some k) ∧ Q (.int (j : Nat)) H
theorem mt_indexB {X : Cx} {K : PySem.W.Frag} (hK : X.K = K) : MtR X "list.index" (rIndexB K) := by
  subst hK
  intro pins s σ H x vs v us Q I rx rv h
  obtain ⟨l, rfl, bs, k, j, rfl, hq, hj, hjk, hno, q⟩ := h
  cases rx
  obtain ⟨u, rfl, ru⟩ := rv.one
  cases ru
  obtain ⟨its, r', pl, hz⟩ := I.list hq
  have eb := valsB_at r'
  subst eb
  obtain ⟨⟨oc, od, odt, osl⟩, ho, hc, n, hd⟩ := pl.isList
  simp only at hc hd
  subst hc hd
  obtain ⟨hjl, hjv⟩ := List.getElem?_eq_some_iff.mp hjk
  refine call_meets F.slot_list_index ⟨_, ho, rfl⟩ F.entry_list_index (F.args_list_index_2 _ _) (list_indexAt l (bs.map Value.bool).toArray n od osl (.bool k) (eqB k) j (by simpa using hjl) (by omega) (by simp [eqB, hjv]) fun i hi hlt => ?_) ⟨ho, fun y hy => ?_, ?_⟩
  · have hil : i < bs.length := by simpa using hi
    have := hno i hlt
    rw [List.getElem?_eq_getElem hil] at this
    simp only [List.getElem_toArray, List.getElem_map, eqB]
    cases hb : bs[i] <;> cases k <;> simp_all
  · obtain ⟨x, hx, rfl⟩ := List.mem_map.mp (by simpa using hy : y ∈ bs.map Value.bool)
    exact EqAt.bool_bool x k
  · exact ⟨.int _, H, I.tok _, ⟨_, rfl⟩, q⟩
def rIntB : List V → Hp → VK → Prop := fun xs H Q => ∃ b, xs = [.bl b] ∧ Q (.int (if b = true then 1 else 0)) H
theorem call_intB {X : Cx} : CallR X (.type "int") rIntB := by
  intro pins s σ H xs us Q I r h
  obtain ⟨b, rfl, q⟩ := h
  obtain ⟨u, rfl, rx⟩ := vals1 r
  cases rx
  exact call_int_bool ⟨.int _, H, I.tok _, ⟨_, rfl⟩, q⟩
def pIntB : List PV → Option PV
  | [.bl b] => some (.int (if b = true then 1 else 0))
  | _ => none
theorem rl_intB : RLV .shr rIntB pIntB := by
  intro U H ps z vs Q d hb e k
  match ps, e with
  | [.bl b], e =>
    cases e
    obtain ⟨v, rfl, hv⟩ := hb.one
    have := bor_bl hv
    subst this
    exact ⟨b, rfl, k _ H U (.refl d) (repI U H _)⟩
def xBM (g : PV → List PV → Option PV) (f : VX) (fa : VL) : VX := fun ρ => (f ρ).bind fun p => (fa ρ).bind fun qs => g p qs
def RMV (r : V → List V → Hp → VK → Prop) (g : PV → List PV → Option PV) : Prop := ∀ (U : AS) (H : Hp) (p : PV) (qs : List PV) (z : PV) (v : V) (ws : List V) (Q : VK), (∀ a, U a → H a ≠ none) → Bor U H p v → Bors U H qs ws → g p qs = some z →
  (∀ v' H' U', Ext U H U' H' → Rep U' H' z v' → Q v' H') → r v ws H Q
def isLst : PV → Bool
  | .lst _ => true
  | _ => false
theorem ve_bm {Kf : PySem.W.Frag} {m : Md} {r : V → List V → Hp → VK → Prop} {g : PV → List PV → Option PV} {to : TE} {t : TA} {f : VX} {fa : VL} (hg : ∀ p qs z, g p qs = some z → isLst p = true) (hr : RMV r g) (ho : VE m to f) (ha : VA true t fa) : VE .shr (tBM Kf "list" r to t) (xBM g f fa) := by
  intro U O H σ ρ Q z s e k
  obtain ⟨p, hp, e⟩ := Option.bind_eq_some_iff.mp e
  obtain ⟨qs, hq, e⟩ := Option.bind_eq_some_iff.mp e
  refine ho.bor U O H σ ρ _ p s hp fun v H1 U1 ex1 r1 => ?_
  have hl := hg p qs z e
  cases p with
  | lst ps =>
    obtain ⟨a, xs, rfl, hx, rx⟩ := r1
    refine ⟨.inl ⟨rfl, xs, SqL.of hx⟩, ha U1 O H1 σ ρ _ qs (s.ext ex1) hq fun ws H2 U2 ex2 r2 => ?_⟩
    exact hr U2 H2 (.lst ps) qs z (.ref a) ws Q ex2.dU ⟨a, xs, rfl, ex2.same _ _ hx, Reps.keeps ex2.keeps _ _ rx⟩ r2 e fun v' H' U' ex3 r3 => k v' H' U' ((ex1.trans ex2).trans ex3) r3
  | _ => cases hl
def pCount : PV → List PV → Option PV
  | .lst ps, [.str k] => (strsP ps).map fun ss => .int (ss.count k : Nat)
  | .lst ps, [.bl k] => (bools ps).map fun bs => .int (bs.count k : Nat)
  | _, _ => none
theorem pCount_l : ∀ p qs z, pCount p qs = some z → isLst p = true := by
  intro p qs z h
  cases p <;> first | rfl | (unfold pCount at h; cases h)
theorem rm_count {Kf : PySem.W.Frag} : RMV (rCount Kf) pCount := by
  intro U H p qs z v ws Q d hp hq e k
  match p, qs, e with
  | .lst ps, [.str c], e =>
    obtain ⟨ss, hs, rfl⟩ := Option.map_eq_some_iff.mp e
    obtain ⟨a, xs, rfl, ha, rx⟩ := hp
    obtain ⟨w, rfl, hw⟩ := hq.one
    rw [strsP_eq hs] at rx
    have := rx.strs
    subst this
    have := bor_str hw
    subst this
    exact ⟨a, rfl, .inl ⟨ss, c, rfl, SqL.of ha, k _ H U (.refl d) (repI U H _)⟩⟩
  | .lst ps, [.bl c], e =>
    obtain ⟨ss, hs, rfl⟩ := Option.map_eq_some_iff.mp e
    obtain ⟨a, xs, rfl, ha, rx⟩ := hp
    obtain ⟨w, rfl, hw⟩ := hq.one
    rw [bools_map hs] at rx
    have := rx.bls
    subst this
    have := bor_bl hw
    subst this
    exact ⟨a, rfl, .inr ⟨ss, c, rfl, SqL.of ha, k _ H U (.refl d) (repI U H _)⟩⟩
def pIndexB : PV → List PV → Option PV
  | .lst ps, [.bl k] => (bools ps).bind fun bs => if decide (bs.idxOf k < bs.length) && decide (bs.length ≤ 1000000) then some (.int (bs.idxOf k : Nat)) else none
  | _, _ => none
theorem pIndexB_l : ∀ p qs z, pIndexB p qs = some z → isLst p = true := by
  intro p qs z h
  cases p <;> first | rfl | (unfold pIndexB at h; cases h)
theorem rm_indexB {Kf : PySem.W.Frag} : RMV (rIndexB Kf) pIndexB := by
  intro U H p qs z v ws Q d hp hq e k
  match p, qs, e with
  | .lst ps, [.bl c], e =>
    obtain ⟨ss, hs, e⟩ := Option.bind_eq_some_iff.mp e
    obtain ⟨hc, rfl⟩ := some_if e
    simp only [Bool.and_eq_true, decide_eq_true_eq] at hc
    obtain ⟨a, xs, rfl, ha, rx⟩ := hp
    obtain ⟨w, rfl, hw⟩ := hq.one
    rw [bools_map hs] at rx
    have := rx.bls
    subst this
    have := bor_bl hw
    subst this
    refine ⟨a, rfl, ss, c, ss.idxOf c, rfl, SqL.of ha, by omega, ?_, fun i hi z => ?_, k _ H U (.refl d) (repI U H _)⟩
    · rw [List.getElem?_eq_getElem hc.1]
      exact congrArg some (List.getElem_idxOf hc.1)
    · obtain ⟨h1, h2⟩ := List.getElem?_eq_some_iff.mp z
      have := List.not_of_lt_findIdx (p := fun x => x == c) (xs := ss) hi
      rw [h2] at this
      simp at this
end L2
namespace PySem
open PyProof.Rows PySem.W
section
variable {prog : Program} {w : World} {A : Around} {R : Result → Shared → Prop} {I : Addr} {fp wr : List Addr} {n : Nat} {P : Nat → Value → Prop} {St : Nat → Heap → Prop}
end
end PySem
namespace L2
open PySem PySem.Spec PyProof.Rows PySem.SeqAt
section
variable {X : Cx} {id : String} {x : Str} {e : Expr} {es : List Expr} {kws : List Keyword} {ks : List Str} {t tk : TA} {r : List V → List V → Hp → VK → Prop} {p pos : Pos}
end
def maxZD (d : Int) : List Int → Int
  | [] => d
  | [x] => x
  | x :: y :: r => let m := maxZD d (y :: r); if m ≤ x then x else m
def xMaxD (fa fk : VL) : VX := fun ρ => (fa ρ).bind fun ps => (fk ρ).bind fun qs => match ps, qs with
  | [.lst ps], [.int d] => (intsP ps).map fun ns => .int (maxZD d ns)
  | _, _ => none
end L2
namespace HT
open PySem PyProof.Rows
section
open PySem.SeqAt
open PySem.AutoSeq1 (wpAny_loadPart')
open PySem.MeetsSeq PySem.MeetsSeq2 PySem.MeetsSeq3
end
end HT
namespace L2
open PySem PySem.Spec PyProof.Rows
end L2
namespace PySem.W
open PySem PySem.Spec PySem.Calls PyProof.Rows Builtin Builtin.ObjectAttr Builtin.Getset_descriptor
def ExAt (x D : Addr) (h : Heap) : Prop := ∃ o, h.get? x = some o ∧ o.cls = .ref D
theorem ExAt.look {M : Model} {h : Heap} {x D : Addr} (e : ExAt x D h) : Looks M h (typeOf (.ref x)) (.ref D) := by
  obtain ⟨o, h1, h2⟩ := e
  exact h2 ▸ (Looks.ld h1).andThen .now
theorem ex_find {K : Frag} {M : Model} {h : Heap} {x D : Addr} {name : Str} {a g : Value} (X : K.In h) (ha : findIn K (.ref D) name = some (some a)) (hg : specialIn K a "__get__" = some (some g)) (ht : takesIn K a = some true) : Looks M h (find (.ref x) (.ref D) name) (.bind g a) := by
  have l1 := looks_findIn (M := M) X ha
  have l2 : Looks M h (getOf (some a)) (some g) := looks_specialIn X hg
  have l3 : Looks M h (dataDescriptor? (some a) (some g)) (some (g, a)) := (looks_takesIn (M := M) X ht).andThen .now
  exact l1.andThen (l2.andThen (l3.andThen (Looks.tag .now)))
section
variable {prog : Program} {w : World} {A : Around} {E : Value → Shared → Prop} {s : Shared} {K : Frag} {x D : Addr}
theorem ex_hook {name : Str} {a g : Value} {tk : Tok} {Q : Fin → Shared → Prop} (X : K.In s.heap) (T : ExAt x D s.heap) (ha : findIn K (.ref D) name = some (some a)) (hg : specialIn K a "__get__" = some (some g)) (ht : takesIn K a = some true)
    (h : wpAny (model prog w) A (call g [a, .ref x, .ref D]) (fun v z => Q (.done (.ret v)) z) E s) :
    wpAny (model prog w) A (Builtin.«object.__getattribute__» ⟨[.ref x, .str name tk], []⟩) Q E s := by
  obtain ⟨h0, gg, d, t, os⟩ := s
  have t0 := T.look (M := model prog w)
  have t1 := ex_find (M := model prog w) (x := x) X ha hg ht
  unfold Builtin.«object.__getattribute__»
  refine wpAny_bind (m := slotArgs _ _ _) (wpAny_pure ?_)
  refine wpAny_bind (m := attrName _) (wpAny_pure ?_)
  refine wpAny_bind (t0.at (wpAny_bind (t1.at ?_)))
  show wpAny (model prog w) _ (bindTo g a (.ref x) (.ref D)) _ _ _
  unfold bindTo
  show wpAny (model prog w) _ (holding [a] (call g [a, .ref x, .ref D]) >>= ret) _ _ _
  exact wpAny_bind (wpAny_holding (wpAny_mono h (fun v z q => wpAny_pure q) fun _ _ q => q))
theorem ex_check {nm : Value} {Q : Unit → Shared → Prop} {h0 : Heap} {g : Array GenState} {d : Drawn} {t : Nat} {os : OsState} (t0 : Looks (model prog w) h0 (typeOf (.ref x)) (.ref D)) (t3 : Looks (model prog w) h0 (isSubtype (.ref D) (.type "BaseException")) true) (hq : Q () ⟨h0, g, d, t, os⟩) :
    wpAny (model prog w) A (checkBuiltinCall "BaseException.__getattribute__" ⟨[.ref x, nm], []⟩) Q E ⟨h0, g, d, t, os⟩ := by
  have hk : builtinKind "BaseException.__getattribute__" = some .slot := by decide +kernel
  have hsp : splitId "BaseException.__getattribute__" = some ("BaseException", "__getattribute__") := by decide +kernel
  have har := F.args_bexc_ga (.ref x) nm
  simp only [checkBuiltinCall, hk, hsp]
  have t4 : Looks (model prog w) h0 (isInstance (.ref x) (.type "BaseException")) true := t0.andThen t3
  refine wpAny_bind (t4.at ?_)
  repeat (first | assumption | wp_step)
theorem ex_open {name : Str} {Q : Option Value → Shared → Prop} (X : K.In s.heap) (T : ExAt x D s.heap) (hga : findIn K (.ref D) "__getattribute__" = some (some (.builtin "BaseException.__getattribute__"))) (hk : findIn K (.ref D) "__getattr__" = some none) (hb : mroIn K D (.type "BaseException") = some true)
    (h : wpAny (model prog w) A.in1 (Builtin.«object.__getattribute__» ⟨[.ref x, .str name s.toks], []⟩)
      (fun fin z => ∃ v, fin = .done (.ret v) ∧ wpAny (model prog w) A (handedOut v) (fun v z' => Q (some v) z') (fun _ _ => False) z) (fun _ _ => False) { s with toks := s.toks + 1 }) :
    wpAny (model prog w) A (getAttr? (.ref x) name) Q E s := by
  obtain ⟨h0, g, d, t, os⟩ := s
  have t0 := T.look (M := model prog w)
  have t1 := looks_findIn (M := model prog w) X hga
  have t2 := looks_findIn (M := model prog w) X hk
  have t3 := looks_mroIn (M := model prog w) X hb
  unfold getAttr? getAttrBy? getAttrBy
  refine wpAny_bind (wpAny_mkText (wpAny_bind (wpAny_attempt (wpAny_holding (wpAny_bind (t0.at (wpAny_bind (t1.at ?_))))))))
  show wpAny (model prog w) _ (getAttrByItsOwn (.ref x) (.str name t) (.ref D) (.builtin "BaseException.__getattribute__") false false) _ _ _
  unfold getAttrByItsOwn hookBefore callGetattribute boundAndCalled
  refine wpAny_bind (t2.at ?_)
  refine wpAny_bind (wpAny_attempt (wpAny_holding ?_))
  show wpAny (model prog w) _ (bindSpecial (.builtin "BaseException.__getattribute__") (.ref x) >>= _) _ _ _
  refine wpAny_bind (wpAny_of_eq (F.attr_ValueError.ga.bind _) ?_)
  show wpAny (model prog w) _ (call (.builtin "BaseException.__getattribute__") [.ref x, .str name t]) _ _ _
  refine wpAny_mono (E := fun _ _ => False) (wpAny_call (codeAny_call_builtin F.attr_ValueError.ga.plain F.entry_bexc_ga (ex_check (ExAt.look T) t3 (wpAny_mono h (fun fin z q => ?_) fun _ _ q => q.elim)))) (fun v z q => q) fun _ _ q => q.elim
  · obtain ⟨v, rfl, q⟩ := q
    exact wpAny_mono q (fun v z' hv => wpAny_pure hv) fun _ _ q => q.elim
theorem ex_get {R : Result → Shared → Prop} {tp : Value} (X : K.In s.heap) (T : ExAt x D s.heap) (hm : mroIn K D (.type "object") = some true)
    (h : R (.ok (.ret (.ref D))) s) : codeAny (model prog w) A (.call (.builtin "getset_descriptor.__get__") ⟨[.builtin "object.__class__", .ref x, tp], []⟩) R s := by
  obtain ⟨h0, g, dr, t, os⟩ := s
  have t0 := T.look (M := model prog w)
  have t1 := looks_mroIn (M := model prog w) X hm
  refine codeAny_call_builtin KF.slot_gs.plain KF.entry_gs (KF.slot_gs.check _ _ _ _ _ _ _ _ KF.type_class (KF.args_gs _ _ _) ?_)
  unfold Builtin.«getset_descriptor.__get__» descrGet
  rw [dga_obj]
  refine wpAny_bind (wpAny_pure ?_)
  unfold descrGetter descrCheckInstance descrNameAndClass isInstance
  simp only [KF.owner_class]
  repeat lk
  refine ⟨Code.quiet_builtin _ (by decide +kernel), codeAny_builtin KF.entry_class ?_⟩
  unfold Builtin.«object.__class__» shownTypeOf
  repeat lk
  exact h
structure ExCls (K : Frag) (D : Addr) : Prop where
  ga : findIn K (.ref D) "__getattribute__" = some (some (.builtin "BaseException.__getattribute__"))
  gn : findIn K (.ref D) "__getattr__" = some none
  hb : mroIn K D (.type "BaseException") = some true
  hd : hasDictIn K D = true
  ha : findIn K (.ref D) "__class__" = some (some (.builtin "object.__class__"))
  hn : specialIn K (.builtin "object.__class__") "__get__" = some (some (.builtin "getset_descriptor.__get__"))
  ht : takesIn K (.builtin "object.__class__") = some true
  hm : mroIn K D (.type "object") = some true
theorem kitx_ex (c : ExCls K D) : KitX K (.ref x) (.ref D) (ExAt x D) where
  ty := fun _ _ _ T => T.look
  it := fun _ _ X _ => by
    obtain ⟨cd, hc, _⟩ := any_some c.hd
    unfold clsIn at hc
    split at hc
    · rename_i ho
      intro A' Q' E' s' k q
      unfold isType loadHead
      exact wpAny_bind (wpAny_loadPart (k _ _ (X _ _ ho)) (wpAny_pure q))
    · cases hc
  ne := fun h tp dd its n sl X htp => by
    obtain ⟨cd, hc, _⟩ := any_some c.hd
    refine Bool.eq_false_iff.mpr fun q => ?_
    have e : D = tp := Value.ref.inj (beq_iff_eq.mp q)
    subst e
    unfold clsIn at hc
    split at hc
    · rename_i ho
      cases (X _ _ ho).symm.trans htp
    · cases hc
  ca := fun {prog w A E Q s} X T k => ex_open X T c.ga c.gn c.hb (ex_hook (s := { s with toks := s.toks + 1 }) X T c.ha c.hn c.ht
    (wpAny_call (ex_get (s := { s with toks := s.toks + 1 }) X T c.hm ⟨_, rfl, handed_on rfl k⟩)))
end
end PySem.W
namespace L2
open PySem PySem.Spec PyProof.Rows
def rIsX (a : Addr) (c : V) (b : Bool) : List V → Hp → VK → Prop := fun xs H Q => xs = [.ref a, c] ∧ Q (.bl b) H
theorem call_isX {X : Cx} {a : Addr} {oe : Obj} {C : Addr} {c : V} {u : Value} {b : Bool} (hp : (a, oe) ∈ X.pn) (hoe : oe.cls = .ref C) (hc : PySem.W.ExCls X.K C) (hu : ∀ u', RelV c u' → u' = u) (he : PySem.W.kitOne X.K (.ref C) u = some b) : CallR X (.builtin "isinstance") (rIsX a c b) := by
  intro pins s σ H xs us Q I r h
  obtain ⟨rfl, q⟩ := h
  obtain ⟨v1, v2, rfl, r1, r2⟩ := vals2 r
  obtain rfl : v1 = Value.ref a := r1
  cases hu v2 r2
  have hat := (I.pin (a, oe) (List.mem_append_left _ hp)).1
  exact PySem.W.kia_one (PySem.W.kitx_ex hc) I.kIn ⟨oe, hat, hoe⟩ he (fun z => nomatch z) fun tk => ⟨.bl b, H, I.tok tk, rfl, q⟩
def pIsX (a : Addr) (b : Bool) (p : PV) : Option PV := match p with
  | .adr c => if c = a then some (.bl b) else none
  | _ => none
theorem E_isX (a : Addr) (b : Bool) : pIsX a b (.adr a) = some (.bl b) := by unfold pIsX; simp
theorem ve_isX {a : Addr} {c : V} {b : Bool} {m : Md} {te : TE} {f : VX} (h : VE m te f) : VE .shr (tCB (rIsX a c b) (tCons te (tCons (tC c) tNil))) (x1 (pIsX a b) f) := by
  intro U O H σ ρ Q z s e k
  obtain ⟨p, hp, e2⟩ := Option.bind_eq_some_iff.mp e
  refine h.bor U O H σ ρ _ p s hp fun v H1 U1 ex1 r1 => ?_
  cases p with
  | adr d =>
    by_cases hd : d = a
    · subst hd
      rw [E_isX] at e2
      cases e2
      have hv : v = .ref d := (rep_adr (U := U1) (H := H1)).mp r1
      subst hv
      exact ⟨rfl, k _ H1 U1 ex1 (repB U1 H1 _)⟩
    · simp only [pIsX, if_neg hd] at e2
      cases e2
  | _ => simp only [pIsX] at e2; cases e2
end L2
namespace L2
open PySem PySem.Spec PyProof.Rows
structure RoomH (k : Nat) (A : Around) : Prop where
  dp : A.depth + 3 * k + 5 < recursionLimit
  un : A.units + 16 * k + 200 < cLine
theorem RoomH.deeper {k : Nat} {A : Around} (r : RoomH (k + 1) A) (env : Env) : RoomH k (A.deeper env) :=
  ⟨by have := r.dp; show A.depth + 1 + 3 * k + 5 < _; omega, by have := r.un; show A.units + 3 + 16 * k + 200 < _; omega⟩
def PinAt (a : Addr) (oe : Obj) (C : Addr) (outer : List Env) (H : Hp) (h : Heap) : Prop := h.get? a = some oe ∧ H a = none ∧ a ∉ frs outer ∧ (∀ v, oe.data ≠ .cell v) ∧ oe.cls = .ref C
structure FnOkH (P : Program) (w : World) (K : PySem.W.Frag) (mg : Str → Option Value) (base : Heap) (k : Nat) (f : Addr) (fd : FuncData) (ps : List Str) (C : Addr) (sp : Addr → Sp) : Prop where
  len : ∀ a vs H Q E, sp a vs H Q E → vs.length = ps.length
  run : ∀ (A : Around) (outer : List Env) (s : Shared) (H : Hp) (args : Args) (us : List Value) (vs : List V) (Q : VK) (E : XK) (a : Addr) (oe : Obj), RoomH k A → Env0 P w K mg base A outer s H → PinAt a oe C outer H s.heap → BindsTo s fd args (ps.zip us) → Vals vs us → sp a vs H Q E →
    codeAny (model P w) A (.call (.ref f) args) (CR CX0 outer P w H s Q E) s
def cxH (P : Program) (w : World) (K : PySem.W.Frag) (mg : Str → Option Value) (base : Heap) (N : List Str) (qual : Str) (scope : Scope) (f : Addr) (cd : Value) (A : Around) (outer : List Env) (s : Shared) (H : Hp) (E : XK) (a : Addr) (oe : Obj) : Cx :=
  { cxOf CX0 P w K mg base N qual scope f cd A outer s H E with calm := false, pn := [(a, oe)], xe := fun _ _ => False }
theorem inv_startH {P : Program} {w : World} {K : PySem.W.Frag} {mg : Str → Option Value} {base : Heap} {N ps : List Str} {qual : Str} {scope : Scope} {f : Addr} {cd : Value} {A : Around} {outer : List Env} {s s1 : Shared} {H : Hp} {E : XK} {us : List Value} {vs : List V} {a C : Addr} {oe : Obj}
    (S : FnScope N ps scope) (e0 : Env0 P w K mg base A outer s H) (hp : PinAt a oe C outer H s.heap) (hl : vs.length = ps.length) (r : Vals vs us)
    (x : InCallC s s.heap.objs.size (bindL (envOfC qual scope s.heap.objs.size f cd).kindOf (ps.zip us) fun _ => none) (cellsFrom (s.heap.objs.size + 1) scope.names []) (bindC (envOfC qual scope s.heap.objs.size f cd).kindOf (ps.zip us) fun _ => none) s1) :
    Inv (cxH P w K mg base N qual scope f cd A outer s H E a oe) [] (start N vs) H s1 := by
  have J := inv_start (CX := CX0) (E := E) (A := { A with handled := none }) S rfl ⟨e0.frames, e0.mod, e0.bs, e0.bsz, e0.funs, e0.frf, e0.hok, e0.bare⟩ hl r x
  obtain ⟨h1, tk, rfl, hk⟩ := x.done
  refine ⟨⟨J.ok.mod, J.ok.kind, J.ok.glob, J.ok.blt, J.ok.above, J.ok.inj, J.ok.has, J.ok.cab, (fun z => nomatch z), Around.frames_deeper e0.frames, J.ok.stk, J.ok.exf, J.ok.bs, J.ok.bsz, J.ok.noex, J.ok.exfs, J.ok.funs, J.ok.frf⟩,
    J.os, J.bare, J.base, J.loc, J.cell, J.free, J.freeC, fun p h => ?_, J.hok, J.len⟩
  have e : p = (a, oe) := by simpa [cxH] using h
  subst e
  exact ⟨hk _ _ hp.1, hp.2.1, Nat.ne_of_lt (Heap.lt_size hp.1), hp.2.2.1, hp.2.2.2.1⟩
theorem fn_ofH {P : Program} {w : World} {K : PySem.W.Frag} {mg : Str → Option Value} {base : Heap} {k : Nat} {x qual : Str} {st : Stmt} {f C : Addr} {fd : FuncData} {N ps : List Str} {sp : Addr → Sp} (F : Fun K x qual st f fd) (S : FnScope N ps (defScope st))
    (len : ∀ a vs H Q E, sp a vs H Q E → vs.length = ps.length)
    (hbody : ∀ (cdv : Value) (A : Around) (outer : List Env) (s : Shared) (H : Hp) (vs : List V) (Q : VK) (E : XK) (a : Addr) (oe : Obj), oe.cls = .ref C → RoomH k (A.deeper (envOfC qual (defScope st) s.heap.objs.size f cdv)) → sp a vs H Q E →
      ∃ t, PSs (cxH P w K mg base N qual (defScope st) f cdv A outer s H E a oe) (defBody st) t ∧ t { nx := fun _ H' => Q .non H', rt := Q } (start N vs) H) : FnOkH P w K mg base (k + 1) f fd ps C sp := by
  obtain ⟨oc, od, kV, doc, pm, an, cdv, ct, osl, rfl, lk, hcd⟩ := F.ex
  refine ⟨len, fun A outer s H args us vs Q E a oe hr e0 hp hb r hsp => ?_⟩
  have hl := len _ _ _ _ _ hsp
  have KX : K.In s.heap := e0.mod.kin.keeps fun b o e => (e0.bs b o e).1
  have lim : s.heap.NoLimit := e0.mod.nolimit.keeps fun b o e => (e0.bs b o e).1
  have hkind : ∀ y ∈ ps.zip us, (defScope st).names.lookup y.1 = some .local ∨ ((defScope st).names.lookup y.1 = some .cell ∧ ((cellsFrom (s.heap.objs.size + 1) (defScope st).names []).lookup y.1).isSome = true) := fun ⟨n, v⟩ hy => by
    rcases S.par n (List.of_mem_zip hy).1 with q | q
    · exact .inl q
    · exact .inr ⟨q, PySem.W.cellsFrom_some _ _ _ (.inl q)⟩
  have hdep : A.depth < recursionLimit := by have := hr.dp; omega
  refine codeAny_call_function hdep (KX _ _ lk) rfl S.co S.gen rfl (PySem.W.codeRec_of KX hcd) (hb _ _ _ _ ?_)
  refine wpAny_newFunctionEnv_cells S.kind hkind fun env he s1 x => ?_
  subst he
  refine ⟨lim.keeps x.toInCall.keep, codeAny_func ?_⟩
  obtain ⟨t, ht, hq⟩ := hbody cdv A outer s H vs Q E a oe hp.2.2.2.2 (hr.deeper _) hsp
  have I : Inv (cxH P w K mg base N qual (defScope st) f cdv A outer s H E a oe) [] (start N vs) H s1 := inv_startH S e0 hp hl r x
  refine wpAny_mono (ht [] s1 (start N vs) H _ I hq) (fun fl s' hs => ?_) fun e s' hs => False.elim hs
  have fin : ∀ {σ' : St} {H' : Hp} {v : V} {u : Value}, Inv (cxH P w K mg base N qual (defScope st) f cdv A outer s H E a oe) [] σ' H' s' → RelV v u → Q v H' → CE outer P w H s Q u s' :=
    fun {σ' H' v u} J rv q => ⟨v, H', J.os, J.bare, J.base, J.hok, rv, q⟩
  cases fl with
  | ret u =>
    obtain ⟨v, σ', H', J, rv, q⟩ := hs
    exact fin J rv q
  | next =>
    obtain ⟨σ', H', J, q⟩ := hs
    exact fin (v := V.non) (u := Value.none) J rfl q
  | brk =>
    obtain ⟨_, _, _, q⟩ := hs
    exact False.elim q
  | cont =>
    obtain ⟨_, _, _, q⟩ := hs
    exact False.elim q
section
variable {X : Cx} {k : Nat} {f C a : Addr} {oe : Obj} {fd : FuncData} {ps : List Str} {sp : Addr → Sp} {x : Str} {p pos : Pos} {e : Expr} {es : List Expr} {t : TA}
theorem pe_callH (F : FnOkH X.prog X.w X.K X.mg X.base k f fd ps C sp) (hr : RoomH k X.A) (hp : (a, oe) ∈ X.pn) (hoe : oe.cls = .ref C) (hg : Gl X x) (hm : X.mg x = some (.ref f)) (hk : PySem.W.keepIn X.K (.ref f) = true) (hb : Binds X.K fd ps [])
    (ha : PA X (e :: es) t) (hdb : (x == ("__debug__" : Str)) = false := by decide) (he : starEach (e :: es) X.env = (false, eval e X.env) :: starEach es X.env := by rfl) (hpl : (backTo pos (starEach es X.env)).any (·.1) = false := by rfl) :
    PE X (.Call (.Name x p) (e :: es) [] pos) (tCall (sp a) [] E0 t) := by
  intro pins s σ H Q I h
  refine wpAny_Call_Name_kw (ld_glob I hg hm ?_ hdb)
  refine PySem.W.callWith_K (h₀ := X.base) I.ok.mod.kin hk (thn (ha pos pins s σ H _ I h) fun us s1 ⟨vs, H1, I1, r, q⟩ => ⟨I1.kIn, ?_⟩) he hpl
  have q : sp a vs H1 Q E0 := by have q' : sp a (vs ++ []) H1 Q E0 := q; rwa [List.append_nil] at q'
  have hl : us.length = ps.length := by rw [← r.length]; exact F.len _ _ _ _ _ q
  obtain ⟨p1, p2, p3, p4, p5⟩ := I1.pin (a, oe) (List.mem_append_left _ hp)
  have pst : a ∉ frs X.stack := by
    rcases I1.ok.stk with z | ⟨z, z2⟩
    · rw [z]; exact p4
    · rw [z]
      unfold frs
      rw [List.filterMap_cons, z2]
      intro m
      rcases List.mem_cons.mp m with m | m
      · exact p3 m
      · exact p4 m
  have bb : BindsTo s1 fd ⟨us, []⟩ (ps.zip us) := by have := hb s1 us I1.kIn (by rw [List.append_nil]; exact hl); rwa [List.append_nil] at this
  refine wpAny_call (codeAny_mono (F.run X.A X.stack s1 H1 ⟨us, []⟩ us vs Q E0 a oe hr I1.env0 ⟨p1, p2, pst, p5, hoe⟩ bb r q) fun r s' hq => ?_)
  cases r with
  | error e => exact False.elim hq
  | ok fl =>
    cases fl with
    | ret u => exact I1.after hq
    | next => exact False.elim hq
    | brk => exact False.elim hq
    | cont => exact False.elim hq
end
def unsetO (i : Nat) : Out → Out
  | .nx ρ => .nx (ρ.set i none)
  | .bk ρ => .bk (ρ.set i none)
  | .ct ρ => .ct (ρ.set i none)
  | .rt p b => .rt p b
def vTry2 (Fb : VF) (Gb : VR) (hn : Nat → VF) : VF := fun ρ => match Gb ρ with
  | some (n, ρ') => hn n ρ'
  | none => Fb ρ
def HB2 (cl : Nat → Addr) (X : Cx) (hs : List ExceptHandler) (n : Nat) (F : VF) : Prop := ∀ (pins : List (Addr × Obj)) (s : Shared) (σ : St) (H : Hp) (U O : AS) (ρ : PEnv) (D : Ends) (a : Addr) (o : Out), Land X pins σ H a (cl n) s → SR U O H σ ρ → F ρ = some o → Post U O H D o →
  wpAny (model X.prog X.w) X.A (handleBy (.ref a) X.env hs) (SP X pins D) X.xe s
theorem vs_try2 {cl : Nat → Addr} {X : Cx} {body : List Stmt} {h0 : ExceptHandler} {hs : List ExceptHandler} {pos : Pos} {t : TS} {Fb : VF} {Gb : VR} {hn : Nat → VF} (hx : NoX X) (hex : X.ex = []) (hst : X.stack = X.env :: X.outer) (hf : X.env.frame = some X.env.locals)
    (hb : PSs X body t) (hv : VS t Fb) (hg : RXs false cl X body Gb) (hh : ∀ n, HB2 cl X (h0 :: hs) n (hn n)) : VS (tSem X (.Try body (h0 :: hs) [] [] pos)) (vTry2 Fb Gb hn) := by
  intro U O H σ ρ D o sr e q pins s I
  unfold vTry2 at e
  cases y : Gb ρ with
  | none =>
    rw [y] at e
    refine wpAny_Try_except (wpAny_mono (hb pins s σ H D I (hv U O H σ ρ D _ sr e q)) (fun f s1 sp => ?_) fun e' s1 zz => (hx e' s1 zz).elim)
    cases f with
    | next => exact wpAny_execs_nil sp
    | brk => exact sp
    | cont => exact sp
    | ret u => exact sp
  | some x =>
    obtain ⟨n, ρ'⟩ := x
    rw [y] at e
    refine wpAny_Try_except (wpAny_mono (hg pins s σ H U O ρ n ρ' I sr y) (fun _ _ f => f.elim) fun e' s1 xp => ?_)
    obtain ⟨U', O', H', σ', sr', tr, fl⟩ := xp
    rcases fl with ⟨a, B, t0, rfl, I', fl, kp⟩ | ⟨z, _⟩
    · rw [hst] at fl
      refine wpAny_looks_onW (by rw [I.ok.frames, hst]) hf fl fun h4 held4 up4 => ?_
      have I4 := I'.fly hex fl.1 kp held4.1 up4
      refine wpAny_landsW (s := { s1 with heap := h4 }) held4 fun h5 fl5 up5 => ?_
      have I5 := I4.fly hex held4.1 kp fl5.1 up5
      exact hh n pins _ σ' H' U' O' ρ' D a o ⟨B, t0, I5, by rw [hst]; exact fl5, kp⟩ sr' e (q.pre tr)
    · cases z
section
variable {cl : Nat → Addr} {X : Cx} {n : Nat} {F : VF} {x : Str} {np pos : Pos} {Cj : Addr}
theorem hb2_none {hs : List ExceptHandler} : HB2 cl X hs n vNone := fun _ _ _ _ _ _ _ _ _ _ _ _ e => nomatch e
theorem hb2_hit {i : Nat} {y : Str} {b₀ : Stmt} {suite : List Stmt} {rest : List ExceptHandler} {Fs : Addr → VF} (hex : X.ex = []) (hN : X.N.Nodup) (hi : X.N[i]? = some y) (hk : X.env.kindOf y = some .local) (hg : Gl X x) (hm : X.mg x = some (.ref Cj)) (he : PySem.W.exmOne X.K (.ref (cl n)) (.ref Cj) = some true)
    (hs : ∀ (a : Addr) (oe : Obj), oe.cls = .ref (cl n) → ∃ t, PSs (X.held a oe) (b₀ :: suite) t ∧ VS t (Fs a)) (hF : ∀ (a : Addr) (ρ : PEnv) (o : Out), i < ρ.length → F ρ = some o → ∃ o', Fs a (ρ.set i (some (.adr a, .shr))) = some o' ∧ o = unsetO i o')
    (hfn : X.fn y = true ∨ X.env.scope.names.lookup y = some .local := by first | exact .inl rfl | exact .inr rfl) (hd : (x == ("__debug__" : Str)) = false := by decide) : HB2 cl X (.ExceptHandler (some (.Name x np)) (some y) (b₀ :: suite) pos :: rest) n F := by
  intro pins s σ H U O ρ D a o L sr e q
  obtain ⟨B, t0, I, fl, kp⟩ := id L
  refine wpAny_handleBy_cons (codeAny_handlers_test (ld_globA I hg hm ?_ hd)) (by intro z; cases z)
  refine (PySem.W.exm_one I.kIn (look_at fl.there) he).at ?_
  refine codeAny_handlers_suite_as ?_
  refine lands_againW fl fun h6 fl6 up6 => ?_
  have I6 := I.fly hex fl.1 kp fl6.1 up6
  obtain ⟨oe, vs, hoe, hoc, hod, _⟩ := fl6.first
  have nst : a ∉ frs X.stack := fun z => by
    obtain ⟨_, o', ho', hnf⟩ := I6.stack.mem z
    have e := hoe.symm.trans ho'
    cases e
    exact hnf vs hod
  have nB : ∀ c, (c → ∃ o, B.get? a = some o) → ¬ c := fun c h z => by
    obtain ⟨o, e⟩ := h z
    rw [fl6.2.1] at e; cases e
  have hHa : H a = none := by
    cases z : H a with
    | none => rfl
    | some u => exact (nB (H a ≠ none) (fun z => kp a (.inl z) nst) (by rw [z]; intro y; cases y)).elim
  have hla : a ≠ X.env.locals := fun z => by
    obtain ⟨m, ⟨o', es, ep, ho', hd', _⟩, _⟩ := I6.loc
    rw [← z, hoe] at ho'; cases ho'
    rw [hod] at hd'; cases hd'
  have hfa : a ∉ X.fs := fun z => by
    obtain ⟨_, o0, ho0, _⟩ := I.ok.funs.mem z
    exact nB (X.s₀.heap.get? a ≠ none) (fun z => kp a (.inr (.inl z)) nst) (by rw [ho0]; intro y; cases y)
  have I7 : Inv (X.held a oe) pins σ H { s with heap := h6 } := I6.held ⟨hoe, hHa, hla, hfa, fun v z => by rw [hod] at z; cases z⟩
  refine store_ok (X := X.held a oe) (i := i) (v := .ref a) I7 hN hi (.inl hk) rfl (fun s8 I8 => ?_) hfn
  obtain ⟨t, ht, hv⟩ := hs a oe hoc
  have hiσ : i < σ.length := by rw [I.len]; exact (List.getElem?_eq_some_iff.mp hi).1
  obtain ⟨o', ho', rfl⟩ := hF a ρ o (by rw [← sr.len]; exact hiσ) e
  have sr8 : SR U O H (σ.set i (some (.ref a))) (ρ.set i (some (.adr a, .shr))) := sr.setS (rep_adr.mpr rfl)
  have hq := hv U O H _ _ { nx := fun σ' H' => D.nx (σ'.set i none) H', bk := fun σ' H' => D.bk (σ'.set i none) H', ct := fun σ' H' => D.ct (σ'.set i none) H', rt := D.rt } o' sr8 ho' (by
    cases o' with
    | nx ρ' => exact fun U' O' H' σ' s' t' => q U' O' H' _ s'.unset t'
    | bk ρ' => exact fun U' O' H' σ' s' t' => q U' O' H' _ s'.unset t'
    | ct ρ' => exact fun U' O' H' σ' s' t' => q U' O' H' _ s'.unset t'
    | rt p b => exact q)
  refine wpAny_mono (ht pins s8 _ H _ I8 hq) (fun f s9 sp => ?_) fun _ _ z => z.elim
  cases f with
  | next =>
    obtain ⟨σ', H', I9, z⟩ := sp
    exact gone_ok (I9.unheld I.ok) hN hi hk fun s' J => ⟨_, H', J, z⟩
  | brk =>
    obtain ⟨σ', H', I9, z⟩ := sp
    exact gone_ok (I9.unheld I.ok) hN hi hk fun s' J => ⟨_, H', J, z⟩
  | cont =>
    obtain ⟨σ', H', I9, z⟩ := sp
    exact gone_ok (I9.unheld I.ok) hN hi hk fun s' J => ⟨_, H', J, z⟩
  | ret u =>
    obtain ⟨v, σ', H', I9, r, z⟩ := sp
    exact gone_ok (I9.unheld I.ok) hN hi hk fun s' J => ⟨v, _, H', J, r, z⟩
end
def hLk2 : List (Nat × VF) → Nat → VF
  | [], _ => vNone
  | x :: r, n => if x.1 = n then x.2 else hLk2 r n
theorem hh2_nil {cl : Nat → Addr} {X : Cx} {hs : List ExceptHandler} : ∀ n, HB2 cl X hs n (hLk2 [] n) := fun _ => hb2_none
theorem hh2_cons {cl : Nat → Addr} {X : Cx} {hs : List ExceptHandler} {n : Nat} {F : VF} {l : List (Nat × VF)} (h : HB2 cl X hs n F) (r : ∀ m, HB2 cl X hs m (hLk2 l m)) : ∀ m, HB2 cl X hs m (hLk2 ((n, F) :: l) m) := by
  intro m
  unfold hLk2
  split
  · rename_i z
    have z : n = m := z
    subst z
    exact h
  · exact r m
def vUnset (i : Nat) : VF := fun ρ => some (.nx (ρ.set i none))
theorem adr_at {i : Nat} {a : Addr} {ρ : PEnv} (h : i < ρ.length) : xVarS i (ρ.set i (some (.adr a, .shr))) = some (.adr a) := by
  unfold xVarS
  rw [set_same h]
theorem hf_tup {i : Nat} {f : Addr → List PV → Option PV} {p q : PV} (hf : ∀ a, f a [.adr a] = some p) : ∀ (a : Addr) (ρ : PEnv) (o : Out), i < ρ.length → vRet (xC (.tup [p, q])) false ρ = some o → ∃ o', (vRet (xL mkTup (lCons (xL (f a) (lCons (xVarS i) lNil)) (lCons (xC q) lNil))) false) (ρ.set i (some (.adr a, .shr))) = some o' ∧ o = unsetO i o' := by
  intro a ρ o hl e
  have e1 : vRet (xC (.tup [p, q])) false ρ = some (.rt (.tup [p, q]) false) := rfl
  rw [e1] at e
  cases e
  refine ⟨.rt (.tup [p, q]) false, ?_, rfl⟩
  have h1 : xL (f a) (lCons (xVarS i) lNil) (ρ.set i (some (.adr a, .shr))) = some p := by
    unfold xL lCons
    rw [adr_at hl]
    exact hf a
  exact q_ret ((q_xL (q_lc h1 (q_l1 (p := q) rfl))).trans rfl)
end L2
namespace WB
open PySem L2
end WB
namespace WB
open PySem L2
end WB
namespace WB
open PySem L2
noncomputable def m__law_cell_at : VF := (vSeq (vIf (bOf (x2 pLt (xVarS 1) (xL pLen (lCons (xVarS 0) lNil))))
  (vRet (x2 pIxL (xVarS 0) (xVarS 1)) false)
  vSkip)
  (vRet (xC (.int (0))) false))
noncomputable def f__law_cell_at : List PV → Option PV := fnM 2 2 false m__law_cell_at
noncomputable def m__law_next : VF := (vSeq (vSetS 0 (x2 pMod (x2 pAdd (xVarS 0) (xC (.int (7919)))) (xC (.int (2147483647)))))
  (vRet (x2 pMod (x2 pAdd (x2 pAdd (x2 pMul (xVarS 0) (xVarS 0)) (x2 pMul (xC (.int (48271))) (xVarS 0))) (xC (.int (12345)))) (xC (.int (2147483629)))) false))
noncomputable def f__law_next : List PV → Option PV := fnM 1 1 false m__law_next
def cell (ns : List Int) (k : Nat) : Int := ns.getD k 0
theorem ca (ns : List Int) (k : Nat) : f__law_cell_at [.scr ns, .int (k : Int)] = some (.int (cell ns k)) := by
  refine q_fnrt (b := false) rfl ?_ rfl
  show m__law_cell_at [some (.scr ns, .shr), some (.int (k : Int), .shr)] = _
  have c1 : bOf (x2 pLt (xVarS 1) (xL pLen (lCons (xVarS 0) lNil))) [some (.scr ns, .shr), some (.int (k : Int), .shr)] = some (decide ((k : Int) < (ns.length : Nat))) := q_b ((q_x2 rfl ((q_xL (ps := [.scr ns]) rfl).trans (q_lens ns))).trans (q_lt _ _))
  by_cases h : k < ns.length
  · rw [decide_eq_true (by omega)] at c1
    refine q_rt ((q_ift c1).trans (q_ret ((q_x2 rfl rfl).trans ?_)))
    show (atI ns (k : Int)).map PV.int = _
    rw [q_at (List.getElem?_eq_getElem h)]
    unfold cell
    rw [List.getD_eq_getElem?_getD, List.getElem?_eq_getElem h]; rfl
  · rw [decide_eq_false (by omega)] at c1
    refine (q_nx ((q_iff c1).trans rfl)).trans ?_
    unfold cell
    rw [List.getD_eq_getElem?_getD, List.getElem?_eq_none (by omega)]; rfl
def nxt (s : Int) : Int := let t := (s + 7919) % 2147483647; (t * t + 48271 * t + 12345) % 2147483629
theorem nx (s : Int) : f__law_next [.int s] = some (.int (nxt s)) := by
  refine q_fnrt (b := false) rfl ?_ rfl
  show m__law_next [some (.int s, .shr)] = _
  have h1 := Int.emod_nonneg (s + 7919) (show (2147483647 : Int) ≠ 0 by omega)
  have h2 := Int.emod_lt_of_pos (s + 7919) (show (0 : Int) < 2147483647 by omega)
  refine (q_nx (q_set ((q_x2 ((q_x2 rfl rfl).trans (q_add s 7919)) rfl).trans (q_mod (s + 7919) 2147483647 (by omega))))).trans ?_
  show vRet _ _ [some (.int ((s + 7919) % 2147483647), .shr)] = some (.rt (.int (((s + 7919) % 2147483647 * ((s + 7919) % 2147483647) + 48271 * ((s + 7919) % 2147483647) + 12345) % 2147483629)) false)
  generalize (s + 7919) % 2147483647 = t at h1 h2
  refine q_ret ?_
  have a1 : x2 pMul (xVarS 0) (xVarS 0) [some (.int t, .shr)] = some (.int (t * t)) := (q_x2 rfl rfl).trans (q_mul t t h1 (by omega))
  have a2 : x2 pMul (xC (.int (48271))) (xVarS 0) [some (.int t, .shr)] = some (.int (48271 * t)) := (q_x2 rfl rfl).trans (q_mul 48271 t (by omega) (by omega))
  exact (q_x2 ((q_x2 ((q_x2 a1 a2).trans (q_add _ _)) rfl).trans (q_add _ _)) rfl).trans (q_mod (t * t + 48271 * t + 12345) 2147483629 (by omega))
theorem cut_to {α : Type} (f : α → PV) (l : List α) (k : Nat) : cutP (l.map f) none (some (k : Int)) = (l.take k).map f := by
  unfold cutP
  rw [HT.sIx_none, HT.sIx_nat, List.drop_zero, Nat.sub_zero, List.length_map, List.map_take]
  by_cases h : k ≤ l.length
  · rw [Nat.min_eq_left h]
  · rw [Nat.min_eq_right (by omega), List.take_of_length_le (by simp), List.take_of_length_le (by simp; omega)]
end WB
namespace WB
open PySem L2
end WB
namespace L2
open PySem
end L2
namespace WB
open PySem L2
end WB
namespace L2
open PySem
theorem nodef {α : Type} {a b : α} (h : a = b) : a = b := by cases h; exact rfl
def seqO (o : Option Out) (G : VF) : Option Out := match o with
  | some (.nx ρ) => G ρ
  | o => o
theorem E_seq (F G : VF) (ρ : PEnv) : vSeq F G ρ = seqO (F ρ) G := nodef rfl
theorem E_seq_nx (ρ : PEnv) (G : VF) : seqO (some (.nx ρ)) G = G ρ := nodef rfl
theorem E_seq_rt (p : PV) (b : Bool) (G : VF) : seqO (some (.rt p b)) G = some (.rt p b) := nodef rfl
theorem E_seq_bk (ρ : PEnv) (G : VF) : seqO (some (.bk ρ)) G = some (.bk ρ) := nodef rfl
theorem E_seq_ct (ρ : PEnv) (G : VF) : seqO (some (.ct ρ)) G = some (.ct ρ) := nodef rfl
def ifO (c : Option Bool) (F G : VF) (ρ : PEnv) : Option Out := match c with
  | some true => F ρ
  | some false => G ρ
  | none => none
theorem E_if (c : VB) (F G : VF) (ρ : PEnv) : vIf c F G ρ = ifO (c ρ) F G ρ := nodef rfl
theorem E_if_t (F G : VF) (ρ : PEnv) : ifO (some true) F G ρ = F ρ := nodef rfl
theorem E_if_f (F G : VF) (ρ : PEnv) : ifO (some false) F G ρ = G ρ := nodef rfl
def ifX (c : Option Bool) (F G : VX) (ρ : PEnv) : Option PV := match c with
  | some true => F ρ
  | some false => G ρ
  | none => none
theorem E_ifX (c : VB) (F G : VX) (ρ : PEnv) : xIf c F G ρ = ifX (c ρ) F G ρ := nodef rfl
theorem E_ifX_t (F G : VX) (ρ : PEnv) : ifX (some true) F G ρ = F ρ := nodef rfl
theorem E_ifX_f (F G : VX) (ρ : PEnv) : ifX (some false) F G ρ = G ρ := nodef rfl
def andO (c : Option Bool) (G : VB) (ρ : PEnv) : Option Bool := match c with
  | some true => G ρ
  | some false => some false
  | none => none
theorem E_and (c G : VB) (ρ : PEnv) : bAnd c G ρ = andO (c ρ) G ρ := nodef rfl
theorem E_and_t (G : VB) (ρ : PEnv) : andO (some true) G ρ = G ρ := nodef rfl
theorem E_and_f (G : VB) (ρ : PEnv) : andO (some false) G ρ = some false := nodef rfl
def orO (c : Option Bool) (G : VB) (ρ : PEnv) : Option Bool := match c with
  | some true => some true
  | some false => G ρ
  | none => none
theorem E_or (c G : VB) (ρ : PEnv) : bOr c G ρ = orO (c ρ) G ρ := nodef rfl
theorem E_or_t (G : VB) (ρ : PEnv) : orO (some true) G ρ = some true := nodef rfl
theorem E_or_f (G : VB) (ρ : PEnv) : orO (some false) G ρ = G ρ := nodef rfl
def bind1 (o : Option PV) (g : PV → Option PV) : Option PV := o.bind g
def bind2 (a b : Option PV) (g : PV → PV → Option PV) : Option PV := a.bind fun p => b.bind fun q => g p q
def bindL (o : Option (List PV)) (g : List PV → Option PV) : Option PV := o.bind g
def consO (o : Option PV) (r : Option (List PV)) : Option (List PV) := o.bind fun p => r.bind fun ps => some (p :: ps)
theorem E_x1 (g : PV → Option PV) (f : VX) (ρ : PEnv) : x1 g f ρ = bind1 (f ρ) g := nodef rfl
theorem E_x1s (p : PV) (g : PV → Option PV) : bind1 (some p) g = g p := nodef rfl
theorem E_x2 (g : PV → PV → Option PV) (f h : VX) (ρ : PEnv) : x2 g f h ρ = bind2 (f ρ) (h ρ) g := nodef rfl
theorem E_x2s (p q : PV) (g : PV → PV → Option PV) : bind2 (some p) (some q) g = g p q := nodef rfl
theorem E_xL (g : List PV → Option PV) (f : VL) (ρ : PEnv) : xL g f ρ = bindL (f ρ) g := nodef rfl
theorem E_xLs (p : List PV) (g : List PV → Option PV) : bindL (some p) g = g p := nodef rfl
theorem E_lc (f : VX) (r : VL) (ρ : PEnv) : lCons f r ρ = consO (f ρ) (r ρ) := nodef rfl
theorem E_lcs (p : PV) (ps : List PV) : consO (some p) (some ps) = some (p :: ps) := nodef rfl
theorem E_ln (ρ : PEnv) : lNil ρ = some [] := nodef rfl
theorem E_c (p : PV) (ρ : PEnv) : xC p ρ = some p := nodef rfl
def getO (o : Option (Option (PV × Fl))) : Option PV := match o with
  | some (some (p, _)) => some p
  | _ => none
def getS (o : Option (Option (PV × Fl))) : Option PV := match o with
  | some (some (p, .shr)) => some p
  | _ => none
theorem E_var (i : Nat) (ρ : PEnv) : xVar i ρ = getO ρ[i]? := nodef rfl
theorem E_var_s (p : PV) (fl : Fl) : getO (some (some (p, fl))) = some p := nodef rfl
theorem E_varS (i : Nat) (ρ : PEnv) : xVarS i ρ = getS ρ[i]? := nodef rfl
theorem E_varS_s (p : PV) : getS (some (some (p, .shr))) = some p := nodef rfl
def isBO (o : Option PV) : Option Bool := o.bind isB
theorem E_bOf (f : VX) (ρ : PEnv) : bOf f ρ = isBO (f ρ) := nodef rfl
theorem E_bOf_s (b : Bool) : isBO (some (.bl b)) = some b := nodef rfl
def notO (o : Option Bool) : Option Bool := o.map (!·)
theorem E_not (f : VB) (ρ : PEnv) : bNot f ρ = notO (f ρ) := nodef rfl
theorem E_not_s (b : Bool) : notO (some b) = some (!b) := nodef rfl
def blO (o : Option Bool) : Option PV := o.map PV.bl
theorem E_xB (f : VB) (ρ : PEnv) : xB f ρ = blO (f ρ) := nodef rfl
theorem E_xB_s (b : Bool) : blO (some b) = some (.bl b) := nodef rfl
theorem E_true (ρ : PEnv) : bTrue ρ = some true := nodef rfl
def retO (o : Option PV) (b : Bool) : Option Out := o.map fun p => .rt p b
theorem E_ret (f : VX) (b : Bool) (ρ : PEnv) : vRet f b ρ = retO (f ρ) b := nodef rfl
theorem E_ret_s (p : PV) (b : Bool) : retO (some p) b = some (.rt p b) := nodef rfl
def rtO (o : Option (Option (PV × Fl))) : Option Out := match o with
  | some (some (p, .own)) => some (.rt p true)
  | _ => none
theorem E_retO (i : Nat) (ρ : PEnv) : vRetO i ρ = rtO ρ[i]? := nodef rfl
theorem E_retO_s (p : PV) : rtO (some (some (p, .own))) = some (.rt p true) := nodef rfl
def setO (i : Nat) (fl : Fl) (o : Option PV) (ρ : PEnv) : Option Out := o.map fun p => .nx (ρ.set i (some (p, fl)))
theorem E_setS (i : Nat) (f : VX) (ρ : PEnv) : vSetS i f ρ = setO i .shr (f ρ) ρ := nodef rfl
theorem E_setO (i : Nat) (f : VX) (ρ : PEnv) : vSetO i f ρ = setO i .own (f ρ) ρ := nodef rfl
theorem E_set_s (i : Nat) (fl : Fl) (p : PV) (ρ : PEnv) : setO i fl (some p) ρ = some (.nx (ρ.set i (some (p, fl)))) := nodef rfl
def setW (i : Nat) (o : Option PV) (ρ : PEnv) : Option Out := o.map fun p => .nx (ρ.set i (some (p, if isL p = true then .own else .shr)))
theorem E_setW (i : Nat) (f : VX) (ρ : PEnv) : vSetW i f ρ = setW i (f ρ) ρ := nodef rfl
theorem E_setW_l (i : Nat) (ps : List PV) (ρ : PEnv) : setW i (some (.lst ps)) ρ = some (.nx (ρ.set i (some (.lst ps, .own)))) := nodef rfl
theorem E_setW_t (i : Nat) (ps : List PV) (ρ : PEnv) : setW i (some (.tup ps)) ρ = some (.nx (ρ.set i (some (.tup ps, .shr)))) := nodef rfl
theorem E_setW_b (i : Nat) (b : Bool) (ρ : PEnv) : setW i (some (.bl b)) ρ = some (.nx (ρ.set i (some (.bl b, .shr)))) := nodef rfl
theorem E_setW_n (i : Nat) (ρ : PEnv) : setW i (some .non) ρ = some (.nx (ρ.set i (some (.non, .shr)))) := nodef rfl
theorem E_setW_i (i : Nat) (b : Int) (ρ : PEnv) : setW i (some (.int b)) ρ = some (.nx (ρ.set i (some (.int b, .shr)))) := nodef rfl
def dropO (o : Option PV) (ρ : PEnv) : Option Out := o.map fun _ => .nx ρ
theorem E_drop (f : VX) (ρ : PEnv) : vDrop f ρ = dropO (f ρ) ρ := nodef rfl
theorem E_drop_s (p : PV) (ρ : PEnv) : dropO (some p) ρ = some (.nx ρ) := nodef rfl
theorem E_skip (ρ : PEnv) : vSkip ρ = some (.nx ρ) := nodef rfl
theorem E_brk (ρ : PEnv) : vBrk ρ = some (.bk ρ) := nodef rfl
theorem E_cnt (ρ : PEnv) : vCnt ρ = some (.ct ρ) := nodef rfl
def wrO (i : Nat) (g : PV → Option PV) (o : Option (Option (PV × Fl))) (ρ : PEnv) : Option Out := match o with
  | some (some (p, .own)) => (g p).map fun p' => .nx (ρ.set i (some (p', .own)))
  | _ => none
def appO (i : Nat) (q : Option PV) (o : Option (Option (PV × Fl))) (ρ : PEnv) : Option Out := q.bind fun q => wrO i (fun p => match p with
  | .lst ps => if small? ps.length then some (.lst (ps ++ [q])) else none
  | _ => none) o ρ
theorem E_app (i : Nat) (f : VX) (ρ : PEnv) : vAppend i f ρ = appO i (f ρ) ρ[i]? ρ := nodef rfl
theorem E_app_s {i : Nat} {q : PV} {ps : List PV} {ρ : PEnv} (h : ps.length ≤ 1000000) : appO i (some q) (some (some (.lst ps, .own))) ρ = some (.nx (ρ.set i (some (.lst (ps ++ [q]), .own)))) := by
  show Option.map _ (if small? ps.length = true then _ else _) = _
  rw [if_pos (q_sm h)]
  rfl
def extO (i : Nat) (q : Option PV) (o : Option (Option (PV × Fl))) (ρ : PEnv) : Option Out := q.bind fun q => wrO i (fun p => match p, q with
  | .lst ps, .lst qs => if small? (ps.length + qs.length) then some (.lst (ps ++ qs)) else none
  | _, _ => none) o ρ
theorem E_ext (i : Nat) (f : VX) (ρ : PEnv) : vExtend i f ρ = extO i (f ρ) ρ[i]? ρ := nodef rfl
theorem E_ext_s {i : Nat} {qs ps : List PV} {ρ : PEnv} (h : ps.length + qs.length ≤ 1000000) : extO i (some (.lst qs)) (some (some (.lst ps, .own))) ρ = some (.nx (ρ.set i (some (.lst (ps ++ qs), .own)))) := by
  show Option.map _ (if small? (ps.length + qs.length) = true then _ else _) = _
  rw [if_pos (q_sm h)]
  rfl
def augO (i : Nat) (g : Int → Int → Int) (a b : Option PV) (ρ : PEnv) : Option Out := match a, b with
  | some (.int x), some (.int y) => some (.nx (ρ.set i (some (.int (g x y), .shr))))
  | _, _ => none
theorem E_aug (i : Nat) (g : Int → Int → Int) (f : VX) (ρ : PEnv) : vAug i g f ρ = augO i g (xVar i ρ) (f ρ) ρ := nodef rfl
theorem E_aug_s (i : Nat) (g : Int → Int → Int) (x y : Int) (ρ : PEnv) : augO i g (some (.int x)) (some (.int y)) ρ = some (.nx (ρ.set i (some (.int (g x y), .shr)))) := nodef rfl
def unpO (tg : VTg) (o : Option PV) (ρ : PEnv) : Option Out := o.bind fun p => (tg p ρ).map Out.nx
theorem E_unp (tg : VTg) (f : VX) (ρ : PEnv) : vUnp tg f ρ = unpO tg (f ρ) ρ := nodef rfl
def nxO (o : Option PEnv) : Option Out := o.map Out.nx
theorem E_unp_s (tg : VTg) (p : PV) (ρ : PEnv) : unpO tg (some p) ρ = nxO (tg p ρ) := nodef rfl
theorem E_nxO (ρ : PEnv) : nxO (some ρ) = some (.nx ρ) := nodef rfl
theorem E_gN (i : Nat) (p : PV) (ρ : PEnv) : gN i p ρ = some (ρ.set i (some (p, .shr))) := nodef rfl
theorem E_gT (is : List Nat) (ps : List PV) (ρ : PEnv) : gT is (.tup ps) ρ = gAll is ps ρ := nodef rfl
theorem E_gA0 (ρ : PEnv) : gAll [] [] ρ = some ρ := nodef rfl
theorem E_gA (i : Nat) (is : List Nat) (p : PV) (ps : List PV) (ρ : PEnv) : gAll (i :: is) (p :: ps) ρ = gAll is ps (ρ.set i (some (p, .shr))) := nodef rfl
def parO (i j : Nat) (o : Option (List PV)) (ρ : PEnv) : Option Out := o.bind fun ps => match ps with
  | [p, q] => some (.nx ((ρ.set i (some (p, .shr))).set j (some (q, .shr))))
  | _ => none
theorem E_par (i j : Nat) (f : VL) (ρ : PEnv) : vPar i j f ρ = parO i j (f ρ) ρ := nodef rfl
theorem E_par_s (i j : Nat) (p q : PV) (ρ : PEnv) : parO i j (some [p, q]) ρ = some (.nx ((ρ.set i (some (p, .shr))).set j (some (q, .shr)))) := nodef rfl
def slO (o : Option PV) (lo hi : Option (Option Int)) : Option PV := o.bind fun p => lo.bind fun l => hi.bind fun u => match p with
  | .lst ps => some (.lst (cutP ps l u))
  | _ => none
theorem E_sl (f : VX) (lo hi : PEnv → Option (Option Int)) (ρ : PEnv) : xSl f lo hi ρ = slO (f ρ) (lo ρ) (hi ρ) := nodef rfl
theorem E_sl_s (ps : List PV) (l u : Option Int) : slO (some (.lst ps)) (some l) (some u) = some (.lst (cutP ps l u)) := nodef rfl
theorem E_oN (ρ : PEnv) : oNone ρ = some none := nodef rfl
def oS (o : Option PV) : Option (Option Int) := (o.bind isI).map some
theorem E_oS (f : VX) (ρ : PEnv) : oSome f ρ = oS (f ρ) := nodef rfl
theorem E_oS_s (i : Int) : oS (some (.int i)) = some (some i) := nodef rfl
def forO (o : Option (List PV)) (tg : VTg) (body : VF) (ρ : PEnv) : Option Out := o.bind fun xs => vLoop tg body xs ρ
theorem E_for (it : VL) (tg : VTg) (body : VF) (ρ : PEnv) : vFor it tg body ρ = forO (it ρ) tg body ρ := nodef rfl
theorem E_for_s (xs : List PV) (tg : VTg) (body : VF) (ρ : PEnv) : forO (some xs) tg body ρ = vLoop tg body xs ρ := nodef rfl
def chO (g g' : PV → PV → Option PV) (a b : Option PV) (fc : VX) (ρ : PEnv) : Option PV := a.bind fun p => b.bind fun q => match g p q with
  | some (.bl true) => (fc ρ).bind fun r => g' q r
  | some (.bl false) => some (.bl false)
  | _ => none
def chP (o : Option PV) (g' : PV → PV → Option PV) (q : PV) (fc : VX) (ρ : PEnv) : Option PV := match o with
  | some (.bl true) => bind1 (fc ρ) (g' q)
  | some (.bl false) => some (.bl false)
  | _ => none
theorem E_ch (g g' : PV → PV → Option PV) (fa fb fc : VX) (ρ : PEnv) : xChain g g' fa fb fc ρ = chO g g' (fa ρ) (fb ρ) fc ρ := nodef rfl
theorem E_ch_s (g g' : PV → PV → Option PV) (p q : PV) (fc : VX) (ρ : PEnv) : chO g g' (some p) (some q) fc ρ = chP (g p q) g' q fc ρ := nodef rfl
theorem E_ch_t (g' : PV → PV → Option PV) (q : PV) (fc : VX) (ρ : PEnv) : chP (some (.bl true)) g' q fc ρ = bind1 (fc ρ) (g' q) := nodef rfl
theorem E_ch_f (g' : PV → PV → Option PV) (q : PV) (fc : VX) (ρ : PEnv) : chP (some (.bl false)) g' q fc ρ = some (.bl false) := nodef rfl
def bmO (a : Option PV) (b : Option (List PV)) (g : PV → List PV → Option PV) : Option PV := a.bind fun p => b.bind fun qs => g p qs
theorem E_bm (g : PV → List PV → Option PV) (f : VX) (fa : VL) (ρ : PEnv) : xBM g f fa ρ = bmO (f ρ) (fa ρ) g := nodef rfl
theorem E_bm_s (p : PV) (qs : List PV) (g : PV → List PV → Option PV) : bmO (some p) (some qs) g = g p qs := nodef rfl
def mxO (a b : Option (List PV)) : Option PV := a.bind fun ps => b.bind fun qs => match ps, qs with
  | [.lst ps], [.int d] => (intsP ps).map fun ns => .int (maxZD d ns)
  | _, _ => none
theorem E_mx (fa fk : VL) (ρ : PEnv) : xMaxD fa fk ρ = mxO (fa ρ) (fk ρ) := nodef rfl
theorem E_mx_s (ns : List Int) (d : Int) : mxO (some [intsV ns]) (some [.int d]) = some (.int (maxZD d ns)) := by
  show (intsP (ns.map PV.int)).map _ = _
  rw [intsP_map]; rfl
def revO (a b : Option PV) : Option PV := a.bind fun p => b.bind fun q => match p, q with
  | .lst ps, .int i => if i = -1 then some (.lst ps.reverse) else none
  | _, _ => none
theorem E_rev (f g : VX) (ρ : PEnv) : xRev f g ρ = revO (f ρ) (g ρ) := nodef rfl
theorem E_rev_s (ps : List PV) : revO (some (.lst ps)) (some (.int (-1))) = some (.lst ps.reverse) := nodef rfl
theorem e_add (i j : Int) : pAdd (.int i) (.int j) = some (.int (i + j)) := nodef rfl
theorem e_sub (i j : Int) : pSub (.int i) (.int j) = some (.int (i - j)) := nodef rfl
theorem e_neg (i : Int) : pNeg (.int i) = some (.int (-i)) := nodef rfl
theorem e_eqi (i j : Int) : pEq (.int i) (.int j) = some (.bl (decide (i = j))) := nodef rfl
theorem e_eqs (i j : Str) : pEq (.str i) (.str j) = some (.bl (decide (i = j))) := nodef rfl
theorem e_eqb (i j : Bool) : pEq (.bl i) (.bl j) = some (.bl (decide (i = j))) := nodef rfl
theorem e_nei (i j : Int) : pNe (.int i) (.int j) = some (.bl (!decide (i = j))) := nodef rfl
theorem e_nes (i j : Str) : pNe (.str i) (.str j) = some (.bl (!decide (i = j))) := nodef rfl
theorem e_le (i j : Int) : pLe (.int i) (.int j) = some (.bl (decide (i ≤ j))) := nodef rfl
theorem e_lt (i j : Int) : pLt (.int i) (.int j) = some (.bl (decide (i < j))) := nodef rfl
theorem e_gt (i j : Int) : pGt (.int i) (.int j) = some (.bl (decide (j < i))) := nodef rfl
theorem e_ge (i j : Int) : pGe (.int i) (.int j) = some (.bl (decide (j ≤ i))) := nodef rfl
theorem e_max2 (i j : Int) : pMax2 [.int i, .int j] = some (.int (if j > i then j else i)) := nodef rfl
theorem e_isB (b : Bool) : isB (.bl b) = some b := nodef rfl
theorem e_isI (b : Int) : isI (.int b) = some b := nodef rfl
theorem e_lenl (ps : List PV) : pLen [.lst ps] = some (.int ps.length) := nodef rfl
theorem e_lent (ps : List PV) : pLen [.tup ps] = some (.int ps.length) := nodef rfl
theorem e_lens (ps : List Int) : pLen [.scr ps] = some (.int ps.length) := nodef rfl
theorem e_lenS {x : Str} (h : x.length ≤ 1000000) : pLenS [.str x] = some (.int x.length) := by simp only [pLenS]; rw [if_pos (q_sm h)]
theorem e_ixl (ps : List PV) (i : Int) : pIxL (.lst ps) (.int i) = atI ps i := nodef rfl
theorem e_ixt (ps : List PV) (i : Int) : pIxT (.tup ps) (.int i) = atI ps i := nodef rfl
theorem e_notN (i : Int) : pNotN (.int i) = some (.bl true) := nodef rfl
theorem e_notNn : pNotN .non = some (.bl false) := nodef rfl
theorem e_isN : pIsN .non = some (.bl true) := nodef rfl
theorem e_isNs (x : Str) : pIsN (.str x) = some (.bl false) := nodef rfl
theorem e_isNl (x : List PV) : pIsN (.lst x) = some (.bl false) := nodef rfl
theorem e_mk0 : mkLst [] = some (.lst []) := nodef rfl
theorem e_mk1 (p : PV) : mkLst [p] = some (.lst [p]) := nodef rfl
theorem e_mk2 (p q : PV) : mkLst [p, q] = some (.lst [p, q]) := nodef rfl
theorem e_mk3 (p q r : PV) : mkLst [p, q, r] = some (.lst [p, q, r]) := nodef rfl
theorem e_mt0 : mkTup [] = some (.tup []) := nodef rfl
theorem e_mt1 (p : PV) : mkTup [p] = some (.tup [p]) := nodef rfl
theorem e_mt2 (p q : PV) : mkTup [p, q] = some (.tup [p, q]) := nodef rfl
theorem e_mt3 (p q r : PV) : mkTup [p, q, r] = some (.tup [p, q, r]) := nodef rfl
theorem e_mod {i j : Int} (h : 0 < j) : pMod (.int i) (.int j) = some (.int (i % j)) := q_mod i j h
theorem e_div {i j : Int} (h : 0 < j) (h2 : j < 1073741824) : pDiv (.int i) (.int j) = some (.int (i / j)) := q_div i j h h2
theorem e_mul {i j : Int} (h : 0 ≤ i) (h2 : i < 4294967296) : pMul (.int i) (.int j) = some (.int (i * j)) := q_mul i j h h2
theorem e_mulR {i j : Int} (h : 0 ≤ j) (h2 : j < 4294967296) : pMul (.int i) (.int j) = some (.int (i * j)) := by
  have e : (2 : Int) ^ 64 = 18446744073709551616 := by decide
  have c : cMul i j = true := by
    unfold cMul
    rw [e, decide_eq_true (show -18446744073709551616 < j by omega), decide_eq_true (show j < 18446744073709551616 by omega), Bool.or_eq_true]
    exact .inr rfl
  unfold pMul pIIc
  simp only [c, if_true]
theorem e_ixs (ns : List Int) (i : Int) : pIxL (.scr ns) (.int i) = (atI ns i).map PV.int := nodef rfl
theorem e_ms {α β : Type} (a : α) (f : α → β) : (some a).map f = some (f a) := nodef rfl
theorem e_mk4 (p q r s : PV) : mkLst [p, q, r, s] = some (.lst [p, q, r, s]) := nodef rfl
theorem e_isiL (ps : List PV) : pIsi [("list", true)] (.lst ps) = some (.bl true) := nodef rfl
theorem e_isiT (ps : List PV) : pIsi [("tuple", true)] (.tup ps) = some (.bl true) := nodef rfl
theorem e_isiS (x : Str) : pIsi [("str", true)] (.str x) = some (.bl true) := nodef rfl
theorem e_intB (b : Bool) : pIntB [.bl b] = some (.int (if b = true then 1 else 0)) := nodef rfl
theorem e_list (ps : List PV) : pList [.lst ps] = some (.lst ps) := nodef rfl
theorem e_sm {n : Nat} (h : n ≤ 1000000) : small? n = true := decide_eq_true h
theorem e_cat {ps qs : List PV} (h : ps.length + qs.length ≤ 1000000) : pCat (.lst ps) (.lst qs) = some (.lst (ps ++ qs)) := q_cat ps qs h
theorem e_all (bs : List Bool) : pAll [.lst (bs.map PV.bl)] = some (.bl (bs.all id)) := by simp only [pAll]; rw [bools_of]; rfl
theorem e_map {α : Type} {tg : VTg} {elt : VX} (e : α → PV) (g : α → PV) (Inv : PEnv → Prop) : ∀ (xs : List α) (ρ : PEnv), Inv ρ → (∀ x ∈ xs, ∀ ρ, Inv ρ → ∃ ρ1, tg (e x) ρ = some ρ1 ∧ Inv ρ1 ∧ elt ρ1 = some (g x)) → vCompL tg bTrue elt (xs.map e) ρ = some (xs.map g)
  | [], ρ, _, _ => rfl
  | x :: xs, ρ, hI, h => by
    obtain ⟨ρ1, h1, h2, h3⟩ := h x List.mem_cons_self ρ hI
    have ih := e_map e g Inv xs ρ1 h2 fun y hy => h y (List.mem_cons_of_mem _ hy)
    rw [List.map_cons, vCompL, h1]
    simp only [bTrue, h3, ih]
    rfl
theorem e_comp {src : List (Option Nat)} {it : VL} {tg : VTg} {c : VB} {f : VX} {ρ : PEnv} {xs ys : List PV} (h : it ρ = some xs) (hs : xs.length ≤ 1000000) (h2 : vCompL tg c f xs (startR src ρ) = some ys) : xComp src it tg c f ρ = some (.lst ys) := q_comp h hs h2
end L2
namespace L2
open PySem
theorem RoomH.units {k : Nat} {A : Around} (r : RoomH k A) : A.units + 64 < cLine := by have := r.un; omega
theorem hu_ofH {A : Around} {k : Nat} (hr : RoomH k A) : A.units + 1 < cLine := Nat.lt_of_le_of_lt (Nat.add_le_add_left (by decide : 1 ≤ 64) _) hr.units
theorem hu4_ofH {A : Around} {k : Nat} (hr : RoomH k A) : A.units + (3 + 1) < cLine := Nat.lt_of_le_of_lt (Nat.add_le_add_left (by decide : 4 ≤ 64) _) hr.units
theorem Room.mark {k : Nat} {A : Around} (r : Room k A) (v : Option Value) : RoomH k (A.mark v) := ⟨r.dp, r.un⟩
end L2
namespace L2
open PySem PySem.Spec PyProof.Rows
section
variable {cl : Nat → Addr} {X : Cx} {k : Bool} {pos : Pos}
end
end L2
namespace L2
open PySem
end L2
namespace L2
open PySem PySem.Spec PyProof.Rows
end L2
namespace L2
open PySem PySem.Spec PyProof.Rows
def RXp (k : Bool) (cl : Nat → Addr) (X : Cx) (b : List Stmt) (G : VR) : Prop := ∀ (pins : List (Addr × Obj)) (s : Shared) (σ : St) (H : Hp) (U O : AS) (ρ : PEnv) (n : Nat) (ρ' : PEnv) (E : Value → Shared → Prop), Inv X pins σ H s → SR U O H σ ρ → G ρ = some (n, ρ') →
  PassesOwn (model X.prog X.w) X.A X.env E → (∀ e s', XPost k X pins U O H (cl n) ρ' e s' → E e s') → wpAny (model X.prog X.w) X.A (execs b X.env) (fun _ _ => False) E s
def RXp1 (k : Bool) (cl : Nat → Addr) (X : Cx) (b : Stmt) (G : VR) : Prop := ∀ (pins : List (Addr × Obj)) (s : Shared) (σ : St) (H : Hp) (U O : AS) (ρ : PEnv) (n : Nat) (ρ' : PEnv) (E : Value → Shared → Prop), Inv X pins σ H s → SR U O H σ ρ → G ρ = some (n, ρ') →
  PassesOwn (model X.prog X.w) X.A X.env E → (∀ e s', XPost k X pins U O H (cl n) ρ' e s' → E e s') → wpAny (model X.prog X.w) X.A (exec b X.env) (fun _ _ => False) E s
def gLoop (tg : VTg) (F : VF) (G : VR) : List PV → VR
  | [], _ => none
  | x :: xs, ρ => match tg x ρ with
    | none => none
    | some ρ1 => match G ρ1 with
      | some r => some r
      | none => match F ρ1 with
        | some (.nx ρ') => gLoop tg F G xs ρ'
        | some (.ct ρ') => gLoop tg F G xs ρ'
        | _ => none
def gFor (it : VL) (tg : VTg) (F : VF) (G : VR) : VR := fun ρ => (it ρ).bind fun xs => gLoop tg F G xs ρ
section
variable {k : Bool} {cl : Nat → Addr} {X : Cx} {pos : Pos}
theorem rxp_of {st : List Stmt} {G : VR} (h : RXs k cl X st G) : RXp k cl X st G := fun pins s σ H U O ρ n ρ' E I sr e _ hE => wpAny_mono (h pins s σ H U O ρ n ρ' I sr e) (fun _ _ q => q) hE
theorem rxp1_of {st : Stmt} {G : VR} (h : RX1 k cl X st G) : RXp1 k cl X st G := fun pins s σ H U O ρ n ρ' E I sr e _ hE => wpAny_mono (h pins s σ H U O ρ n ρ' I sr e) (fun _ _ q => q) hE
theorem rxp_cons {st : Stmt} {rest : List Stmt} {t : TS} {F : VF} {G1 G2 : VR} (hx : NoX X) (hs : PS X st t) (hv : VS t F) (h1 : RXp1 k cl X st G1) (h2 : RXp k cl X rest G2) : RXp k cl X (st :: rest) (gSeq F G1 G2) := by
  intro pins s σ H U O ρ n ρ' E I sr e hp hE
  unfold gSeq at e
  cases z : G1 ρ with
  | some x =>
    rw [z] at e
    cases e
    exact wpAny_execs_cons (wpAny_mono (h1 pins s σ H U O ρ n ρ' E I sr z hp hE) (fun _ _ q => q.elim) fun _ _ q => q)
  | none =>
    rw [z] at e
    cases y : F ρ with
    | none => rw [y] at e; cases e
    | some o =>
      rw [y] at e
      cases o with
      | nx ρ1 =>
        have hq := hv U O H σ ρ { nx := fun σ1 H1 => ∃ U1 O1, SR U1 O1 H1 σ1 ρ1 ∧ Tr U O H U1 O1 H1, rt := fun _ _ => False } _ sr y fun U1 O1 H1 σ1 s1 t1 => ⟨U1, O1, s1, t1⟩
        refine wpAny_execs_cons (wpAny_mono (hs pins s σ H _ I hq) (fun f s1 q => ?_) fun e' s1 q => (hx e' s1 q).elim)
        cases f with
        | next =>
          obtain ⟨σ1, H1, I1, U1, O1, sr1, t1⟩ := q
          exact h2 pins s1 σ1 H1 U1 O1 ρ1 n ρ' E I1 sr1 e hp fun e' s' q => hE e' s' (q.pre t1)
        | brk => obtain ⟨_, _, _, q⟩ := q; exact False.elim q
        | cont => obtain ⟨_, _, _, q⟩ := q; exact False.elim q
        | ret u => obtain ⟨_, _, _, _, _, q⟩ := q; exact False.elim q
      | bk ρ1 => cases e
      | ct ρ1 => cases e
      | rt p fr => cases e
theorem rxp_one {st : Stmt} {G1 : VR} (h1 : RXp1 k cl X st G1) {rest : List Stmt} : RXp k cl X (st :: rest) G1 := fun pins s σ H U O ρ n ρ' E I sr e hp hE =>
  wpAny_execs_cons (wpAny_mono (h1 pins s σ H U O ρ n ρ' E I sr e hp hE) (fun _ _ q => q.elim) fun _ _ q => q)
theorem rxp_if {c : Expr} {a b : List Stmt} {tc : TT} {fc : VB} {G1 G2 : VR} (hx : NoX X) (hc : PT X c tc) (hv : VT tc fc) (h1 : RXp k cl X a G1) (h2 : RXp k cl X b G2) : RXp1 k cl X (.If c a b pos) (gIf fc G1 G2) := by
  intro pins s σ H U O ρ n ρ' E I sr e hp hE
  unfold gIf at e
  cases z : fc ρ with
  | none => rw [z] at e; cases e
  | some d =>
    rw [z] at e
    have hq := hv U O H σ ρ (fun d' H1 => d' = d ∧ ∃ U1, Ext U H U1 H1) d sr z fun H' U' ex => ⟨rfl, U', ex⟩
    refine wpAny_If (wpAny_mono (hc pins s σ H _ I hq) (fun d' s1 ⟨H1, I1, ed, U1, ex⟩ => ?_) fun e' s1 q => (hx e' s1 q).elim)
    subst ed
    cases d' with
    | true => exact h1 pins s1 σ H1 U1 O ρ n ρ' E I1 (sr.ext ex) e hp fun e' s' q => hE e' s' (q.pre ex.tr)
    | false => exact h2 pins s1 σ H1 U1 O ρ n ρ' E I1 (sr.ext ex) e hp fun e' s' q => hE e' s' (q.pre ex.tr)
theorem XPost.unpinned {pins pl : List (Addr × Obj)} {U O : AS} {H : Hp} {C : Addr} {ρ' : PEnv} {e : Value} {s' : Shared} (h : XPost k X (pins ++ pl) U O H C ρ' e s') : XPost k X pins U O H C ρ' e s' := by
  obtain ⟨U', O', H', σ', sr, tr, f⟩ := h
  refine ⟨U', O', H', σ', sr, tr, ?_⟩
  rcases f with ⟨a, B, t0, rfl, I, fl, kp⟩ | ⟨hk, a, args, s₂, h', rfl, I, rfl, hm⟩
  · refine .inl ⟨a, B, t0, rfl, I.unpinned, fl, fun b c n => kp b ?_ n⟩
    rcases c with c | c | ⟨p, hp, rfl⟩
    · exact .inl c
    · exact .inr (.inl c)
    · exact .inr (.inr ⟨p, (List.mem_append.mp hp).elim (List.mem_append_left _) fun z => List.mem_append_right _ (List.mem_append_left _ z), rfl⟩)
  · exact .inr ⟨hk, a, args, s₂, h', rfl, I.unpinned, rfl, hm⟩
theorem rxp_for {tg iter : Expr} {body : List Stmt} {wi : TI} {g : TG} {tb : TS} {it : VL} {tgm : VTg} {F : VF} {G : VR} (hx : NoX X) (hc : X.calm = true) (hi : PI X tg iter wi) (hvi : VI wi it) (hg : PG X tg g) (hvg : VG g tgm) (hb : PSs X body tb) (hvb : VS tb F) (hxb : RXp k cl X body G)
    (hs : ∀ x, foldedSetIterable iter X.env x = pure x := by intro _; rfl) : RXp1 k cl X (.For tg iter body [] pos) (gFor it tgm F G) := by
  intro pins s σ H U O ρ n ρ' E I sr e hp hE
  obtain ⟨xs, hxs, e⟩ := Option.bind_eq_some_iff.mp e
  have thx : ∀ {α : Type} {t : Sem α} {Q Q' : α → Shared → Prop} {s : Shared}, wpAny (model X.prog X.w) X.A t Q X.xe s → (∀ a s1, Q a s1 → Q' a s1) → wpAny (model X.prog X.w) X.A t Q' E s := fun h hQ => wpAny_mono h hQ fun e' s' q => (hx e' s' q).elim
  have hR := hvi U O H σ ρ (fun J H1 => ∃ U1, Ext U H U1 H1 ∧ Walk U1 H1 J xs) xs sr hxs fun J H' U' ex wk => ⟨U', ex, wk⟩
  refine wpAny_For (thx (hi pins s σ H _ I hR) fun v s1 h1 => thx h1 fun itv s2 h2 => ?_) hs
  obtain ⟨itA, fp, tn, J, H2, ei, I2, T, st2, f2, U1, ex, wk⟩ := h2
  subst ei
  have sr1 := sr.ext ex
  have stat : ∀ {H' : Hp}, (∀ b ∈ fp, H' b = none) → ∀ b ∈ fp, FpOk X pins H' b := fun hn b hb => ⟨hn b hb, (f2 b hb).2⟩
  refine codeAny_forLoop_any (fun m s' => ∃ i σ' H' U' O' ρ1, Inv X pins σ' H' s' ∧ tn i s'.heap ∧ (∀ b ∈ fp, H' b = none) ∧ SR U' O' H' σ' ρ1 ∧ Tr U1 O H2 U' O' H' ∧ i ≤ xs.length ∧ m = xs.length - i ∧ gLoop tgm F G (xs.drop i) ρ1 = some (n, ρ')) ?_ xs.length ⟨0, σ, H2, U1, O, ρ, I2, st2, fun b hb => (f2 b hb).1, sr1, .refl sr1.dU, Nat.zero_le _, rfl, by simpa using e⟩
  rintro m s3 ⟨i, σ3, H3, U3, O3, ρ3, I3, st3, fr3, sr3, tr3, hi3, rfl, e3⟩
  have kp : Keeps U1 H2 U3 H3 := tr3.keeps sr1.dis sr1.dO
  cases hxi : xs[i]? with
  | none =>
    have hl : xs.length ≤ i := List.getElem?_eq_none_iff.mp hxi
    rw [List.drop_of_length_le hl] at e3
    cases e3
  | some x =>
    have hl := (List.getElem?_eq_some_iff.mp hxi).1
    obtain ⟨hgo, hy⟩ := wk.go i U3 H3 kp sr3.dU x hxi
    rw [drop_get hxi] at e3
    unfold gLoop at e3
    refine wpAny_passesOwn hp (thx (T.item X rfl rfl rfl hc i pins s3 σ3 H3 X.xe I3 (stat fr3) st3 hgo) fun r s4 ⟨u, hr, h4⟩ => ?_)
    subst hr
    refine wpAny_passesOwn hp (thx h4 fun _ s5 ⟨v, H5, I5, r5, y5, st5, fr5⟩ => ?_)
    have I5' := I5.pinned (stat fr5) (T.obj _ _ st5)
    obtain ⟨U5, ex5, rp5⟩ := hy v H5 y5
    cases z : tgm x ρ3 with
    | none => rw [z] at e3; cases e3
    | some ρ1 =>
      simp only [z] at e3
      have hgq := hvg U5 O3 H5 σ3 ρ3 ρ1 x v (fun σ' H' => H' = H5 ∧ SR U5 O3 H' σ' ρ1) (sr3.ext ex5) rp5 z fun σ' s' => ⟨rfl, s'⟩
      refine wpAny_passesOwn hp (thx (hg _ s5 σ3 H5 v u _ I5' r5 hgq) fun _ s6 ⟨σ6, H6, I6, eh, sr6⟩ => ?_)
      subst eh
      have tr5 : Tr U1 O H2 U5 O3 H6 := tr3.trans ex5.tr
      cases zg : G ρ1 with
      | some r =>
        simp only [zg] at e3
        cases e3
        exact wpAny_passesOwn hp (wpAny_mono (hxb _ s6 σ6 H6 U5 O3 ρ1 n ρ' E I6 sr6 zg hp fun e' s' q => hE e' s' ((q.unpinned).pre (ex.tr.trans tr5))) (fun _ _ q => q.elim) fun _ _ q => q)
      | none =>
        simp only [zg] at e3
        have again : ∀ {ρ4 : PEnv} {s7 : Shared}, gLoop tgm F G (xs.drop (i + 1)) ρ4 = some (n, ρ') → (∃ σ7 H7, Inv X (pins ++ pinsAt fp s5.heap) σ7 H7 s7 ∧ ∃ U7 O7, SR U7 O7 H7 σ7 ρ4 ∧ Tr U5 O3 H6 U7 O7 H7) → ∃ m, m < xs.length - i ∧ ∃ i σ' H' U' O' ρ1, Inv X pins σ' H' s7 ∧ tn i s7.heap ∧ (∀ b ∈ fp, H' b = none) ∧ SR U' O' H' σ' ρ1 ∧ Tr U1 O H2 U' O' H' ∧ i ≤ xs.length ∧ m = xs.length - i ∧ gLoop tgm F G (xs.drop i) ρ1 = some (n, ρ') := fun {ρ4 s7} e4 ⟨σ7, H7, I7, U7, O7, sr7, t7⟩ => by
          refine ⟨xs.length - (i + 1), by omega, i + 1, σ7, H7, U7, O7, ρ4, I7.unpinned, T.keep _ _ _ st5 fun b hb o e => (I7.pin (b, o) (List.mem_append_right _ (List.mem_append_right _ (mem_pinsAt hb e)))).1, fun b hb => ?_, sr7, tr5.trans t7, hl, rfl, e4⟩
          obtain ⟨o, e, d⟩ := T.obj _ _ st5 b hb
          exact (I7.pin (b, o) (List.mem_append_right _ (List.mem_append_right _ (mem_pinsAt hb e)))).2.1
        cases zb : F ρ1 with
        | none => simp only [zb] at e3; cases e3
        | some ob =>
          simp only [zb] at e3
          cases ob with
          | nx ρ4 =>
            have hq := hvb U5 O3 H6 σ6 ρ1 { nx := fun σ7 H7 => ∃ U7 O7, SR U7 O7 H7 σ7 ρ4 ∧ Tr U5 O3 H6 U7 O7 H7, rt := fun _ _ => False } _ sr6 zb fun U7 O7 H7 σ7 s7 t7 => ⟨U7, O7, s7, t7⟩
            refine wpAny_passesOwn hp (thx (hb _ s6 σ6 H6 _ I6 hq) fun f s7 q7 => ?_)
            cases f with
            | next => exact again e3 q7
            | brk => obtain ⟨_, _, _, q⟩ := q7; exact False.elim q
            | cont => obtain ⟨_, _, _, q⟩ := q7; exact False.elim q
            | ret u => obtain ⟨_, _, _, _, _, q⟩ := q7; exact False.elim q
          | ct ρ4 =>
            have hq := hvb U5 O3 H6 σ6 ρ1 { nx := fun _ _ => False, ct := fun σ7 H7 => ∃ U7 O7, SR U7 O7 H7 σ7 ρ4 ∧ Tr U5 O3 H6 U7 O7 H7, rt := fun _ _ => False } _ sr6 zb fun U7 O7 H7 σ7 s7 t7 => ⟨U7, O7, s7, t7⟩
            refine wpAny_passesOwn hp (thx (hb _ s6 σ6 H6 _ I6 hq) fun f s7 q7 => ?_)
            cases f with
            | next => obtain ⟨_, _, _, q⟩ := q7; exact False.elim q
            | brk => obtain ⟨_, _, _, q⟩ := q7; exact False.elim q
            | cont => exact again e3 q7
            | ret u => obtain ⟨_, _, _, _, _, q⟩ := q7; exact False.elim q
          | bk ρ4 => cases e3
          | rt p fr => cases e3
end
theorem Fun.okXp {P : Program} {w : World} {K : PySem.W.Frag} {mg : Str → Option Value} {base : Heap} {x qual : Str} {st : Stmt} {f : Addr} {fd : FuncData} {N ps : List Str} {k : Nat} {cl : Nat → Addr} {G : VR} (F : Fun K x qual st f fd) (S : FnScope N ps (defScope st))
    (hbody : ∀ (cdv : Value) (A : Around) (outer : List Env) (s : Shared) (H : Hp) (E : XK), Room k (A.deeper (envOfC qual (defScope st) s.heap.objs.size f cdv)) → RXp true cl (cxOf CX0 P w K mg base N qual (defScope st) f cdv A outer s H E).nox (defBody st) G) :
    FnOk P w K mg base (CX1 P w) (k + 1) f fd ps (spX cl (gnM ps.length N.length G)) := by
  obtain ⟨oc, od, kV, doc, pm, an, cdv, ct, osl, rfl, lk, hcd⟩ := F.ex
  refine fn_of lk hcd S (fun vs H Q E h => ?_) fun A outer s H vs Q E hr hsp => ?_
  · obtain ⟨U, qs, n, d, r, e, _⟩ := h
    unfold gnM at e
    split at e
    · rename_i h; rw [r.length, h]
    · cases e
  refine ⟨fun D σ H1 => ∃ U ρ n ρ', SR U (fun _ => False) H1 σ ρ ∧ G ρ = some (n, ρ') ∧ ∀ H2 U2, Ext U H1 U2 H2 → E (.ref (cl n)) none H2, ?_, ?_⟩
  · intro pins s1 σ H1 D I ⟨U, ρ, n, ρ', sr, e, q⟩
    refine wpAny_mono (hbody cdv A outer s H E hr pins s1 σ H1 U _ ρ n ρ' _ (I.wish _) sr e PassesOwn.leaving fun e' s' xp => ?_) (fun _ _ z => z.elim) fun e' s' z => z
    obtain ⟨U', O', H', σ', sr', tr, fl⟩ := xp
    have ex : Ext U H1 U' H' := ⟨fun a o h => tr.fr a o h fun z => z, tr.mono, fun a h => (tr.new a h).elim .inl fun z => z.elim (fun z => z.elim) .inr, tr.dU⟩
    have q' := q H' U' ex
    rcases fl with ⟨a, B, t0, rfl, I', fl, kp⟩ | ⟨_, a, args, s2, h', rfl, I', rfl, hm⟩
    · exact leave_fly (X := (cxOf CX0 P w K mg base N qual (defScope st) f cdv A outer s H E).nox) I' rfl rfl rfl fl kp q'
    · exact leave_made (X := (cxOf CX0 P w K mg base N qual (defScope st) f cdv A outer s H E).nox) I' rfl rfl rfl hm q'
  · obtain ⟨U, qs, n, d, r, e, q⟩ := hsp
    unfold gnM at e
    split at e
    · obtain ⟨⟨n', ρ'⟩, hg, e⟩ := Option.map_eq_some_iff.mp e
      cases e
      exact ⟨U, _, _, ρ', SR.init (N := N) d r, hg, q⟩
    · cases e
end L2
namespace L2
open PySem PySem.Spec PyProof.Rows
def PairQ (O : AS) (H : Hp) (U' : AS) (H' : Hp) (p q : PV) (v : V) : Prop := ∃ t x y, v = .ref t ∧ H' t = some (.tup [x, y]) ∧ Rep U' H' p x ∧ (if isL q = true then ∃ a, y = .ref a ∧ ¬ U' a ∧ (H a = none ∨ O a) ∧ Top U' H' q a else Rep U' H' q y)
theorem PairQ.pre {U O U1 O1 U' : AS} {H H1 H' : Hp} {p q : PV} {v : V} (t : Tr U O H U1 O1 H1) (r : PairQ O1 H1 U' H' p q v) : PairQ O H U' H' p q v := by
  obtain ⟨c, x, y, e, h1, h2, h3⟩ := r
  refine ⟨c, x, y, e, h1, h2, ?_⟩
  split
  · rename_i hq
    rw [if_pos hq] at h3
    obtain ⟨a, ea, nu, h, tp⟩ := h3
    refine ⟨a, ea, nu, ?_, tp⟩
    rcases h with h | h
    · exact .inl (t.back h)
    · rcases t.own a h with h | h
      · exact .inr h
      · exact .inl h
  · rename_i hq
    rw [if_neg hq] at h3
    exact h3
end L2
namespace L2
open PySem
def gnO (o : Option Out) (G : VR) : Option (Nat × PEnv) := match o with
  | some (.nx ρ) => G ρ
  | _ => none
def gsO (o : Option (Nat × PEnv)) (F : VF) (G : VR) (ρ : PEnv) : Option (Nat × PEnv) := match o with
  | some x => some x
  | none => gnO (F ρ) G
theorem E_gs (F : VF) (G1 G2 : VR) (ρ : PEnv) : gSeq F G1 G2 ρ = gsO (G1 ρ) F G2 ρ := nodef rfl
theorem E_gs_s (x : Nat × PEnv) (F : VF) (G : VR) (ρ : PEnv) : gsO (some x) F G ρ = some x := nodef rfl
theorem E_gs_n (F : VF) (G : VR) (ρ : PEnv) : gsO none F G ρ = gnO (F ρ) G := nodef rfl
theorem E_gn (ρ : PEnv) (G : VR) : gnO (some (.nx ρ)) G = G ρ := nodef rfl
def giO (c : Option Bool) (F G : VR) (ρ : PEnv) : Option (Nat × PEnv) := match c with
  | some true => F ρ
  | some false => G ρ
  | none => none
theorem E_gi (c : VB) (F G : VR) (ρ : PEnv) : gIf c F G ρ = giO (c ρ) F G ρ := nodef rfl
theorem E_gi_t (F G : VR) (ρ : PEnv) : giO (some true) F G ρ = F ρ := nodef rfl
theorem E_gi_f (F G : VR) (ρ : PEnv) : giO (some false) F G ρ = G ρ := nodef rfl
def gxO (o : Option Nat) (ρ : PEnv) : Option (Nat × PEnv) := o.map fun n => (n, ρ)
theorem E_gx (g : PEnv → Option Nat) (ρ : PEnv) : gX g ρ = gxO (g ρ) ρ := nodef rfl
theorem E_gx_s (n : Nat) (ρ : PEnv) : gxO (some n) ρ = some (n, ρ) := nodef rfl
theorem E_gx_n (ρ : PEnv) : gxO none ρ = none := nodef rfl
def gcO (o : Option (List PV)) (g : List PV → Option Nat) : Option Nat := o.bind g
theorem E_gc (g : List PV → Option Nat) (fa : VL) (ρ : PEnv) : gCall g fa ρ = gcO (fa ρ) g := nodef rfl
theorem E_gc_s (ps : List PV) (g : List PV → Option Nat) : gcO (some ps) g = g ps := nodef rfl
theorem E_gr (n : Nat) (ρ : PEnv) : gRaise n ρ = some (n, ρ) := nodef rfl
theorem E_g0 (ρ : PEnv) : gNone ρ = none := nodef rfl
def tryO (o : Option (Nat × PEnv)) (F : VF) (hn : Nat → VF) (ρ : PEnv) : Option Out := match o with
  | some x => hn x.1 x.2
  | none => F ρ
theorem E_try (F : VF) (G : VR) (hn : Nat → VF) (ρ : PEnv) : vTry2 F G hn ρ = tryO (G ρ) F hn ρ := by unfold vTry2 tryO; cases G ρ <;> rfl
theorem E_try_s (n : Nat) (r : PEnv) (F : VF) (hn : Nat → VF) (ρ : PEnv) : tryO (some (n, r)) F hn ρ = hn n r := nodef rfl
theorem E_try_n (F : VF) (hn : Nat → VF) (ρ : PEnv) : tryO none F hn ρ = F ρ := nodef rfl
theorem E_hl (n : Nat) (F : VF) (l : List (Nat × VF)) : hLk2 ((n, F) :: l) n = F := by unfold hLk2; simp
theorem E_hl2 {n m : Nat} {F : VF} {l : List (Nat × VF)} (h : n ≠ m) : hLk2 ((n, F) :: l) m = hLk2 l m := by rw [hLk2]; simp [h]
theorem E_uns (i : Nat) (ρ : PEnv) : vUnset i ρ = some (.nx (ρ.set i none)) := nodef rfl
theorem gn_at {k n : Nat} {G : VR} {ps : List PV} {r : Option Nat} (hl : ps.length = k) (h : (G (initR n ps)).map (·.1) = r) : gnM k n G ps = r := by unfold gnM; rw [if_pos hl]; exact h
def lpO (i : Nat) (q kk : Option PV) (o : Option (Option (PV × Fl))) (ρ : PEnv) : Option Out := q.bind fun q => kk.bind fun kk => wrO i (fun p => match p, kk with
  | .lst ps, .int k => (ixN ps.length k).map fun j => .lst (ps.set j q)
  | _, _ => none) o ρ
theorem E_lp (i : Nat) (fk f : VX) (ρ : PEnv) : vLPut i fk f ρ = lpO i (f ρ) (fk ρ) ρ[i]? ρ := nodef rfl
theorem E_lp_s {i : Nat} {q : PV} {k : Nat} {ps : List PV} {ρ : PEnv} (h : k < ps.length) : lpO i (some q) (some (.int (k : Nat))) (some (some (.lst ps, .own))) ρ = some (.nx (ρ.set i (some (.lst (ps.set k q), .own)))) := by
  have e : ixN ps.length (k : Int) = some k := by
    unfold ixN
    rw [if_pos (by omega), if_pos (by omega), Int.toNat_natCast]
  show Option.map _ (Option.map _ (ixN ps.length (k : Int))) = _
  rw [e]; rfl
end L2
namespace L2
open PySem
structure QE (X : Cx) (m : Md) (e : Expr) (f : VX) : Prop where
  h : ∃ t, PE X e t ∧ VE m t f
structure QT (X : Cx) (e : Expr) (f : VB) : Prop where
  h : ∃ t, PT X e t ∧ VT t f
structure QW (X : Cx) (e : Expr) (f : VB) : Prop where
  h : ∃ t, PW X e t ∧ VT t f
structure QF (X : Cx) (es : List Expr) (f : VB) : Prop where
  h : ∃ t, PIfs X es t ∧ VT t f
structure QA (X : Cx) (b : Bool) (es : List Expr) (f : VL) : Prop where
  h : ∃ t, PA X es t ∧ VA b t f
structure QI (X : Cx) (tg e : Expr) (f : VL) : Prop where
  h : ∃ t, PI X tg e t ∧ VI t f
structure QJ (X : Cx) (tg e : Expr) (f : VL) : Prop where
  h : ∃ t, PI X tg e t ∧ VIb t f
structure QG (X : Cx) (tg : Expr) (f : VTg) : Prop where
  h : ∃ t, PG X tg t ∧ VG t f
structure QO (X : Cx) (e : Option Expr) (f : PEnv → Option (Option Int)) : Prop where
  h : ∃ t, PO X e t ∧ VO t f
structure QS (X : Cx) (st : Stmt) (F : VF) : Prop where
  h : ∃ t, PS X st t ∧ VS t F
structure QB (X : Cx) (st : List Stmt) (F : VF) : Prop where
  h : ∃ t, PSs X st t ∧ VS t F
structure OB (X : Cx) (o : Operator) (m : Md) (g : PV → PV → Option PV) : Prop where
  h : ∃ r, OpR X (binaryOp o) r ∧ R2V m r g
structure OC (X : Cx) (o : CmpOp) (m : Md) (g : PV → PV → Option PV) : Prop where
  h : ∃ r, OpR X (compareOp o) r ∧ R2V m r g
structure I2 (X : Cx) (m : Md) (g : PV → PV → Option PV) : Prop where
  h : ∃ r, IxR X r ∧ R2V m r g
structure C2 (X : Cx) (v : Value) (m : Md) (g : List PV → Option PV) : Prop where
  h : ∃ r, CallR X v r ∧ RLV m r g
structure CF (P : Program) (w : World) (K : PySem.W.Frag) (mg : Str → Option Value) (base : Heap) (CX : CXT) (x : Str) (k : Nat) (sp : Sp) : Prop where
  h : ∃ a d ps, FnOk P w K mg base CX k a d ps sp ∧ mg x = some (.ref a) ∧ PySem.W.keepIn K (.ref a) = true ∧ Binds K d ps []
structure Df (K : PySem.W.Frag) (mg : Str → Option Value) (x : Str) (st : Stmt) (ps : List Str) : Prop where
  h : ∃ a d, mg x = some (.ref a) ∧ Fun K x x st a d ∧ Binds K d ps []
structure Blt (mg : Str → Option Value) (l : List Str) : Prop where
  h : ∀ x, l.contains x = true → mg x = none
structure CSc (X : Cx) (outer : List (Str × NameKind)) (N : List Str) : Prop where
  ho : ∀ x, X.env.kindOf x = outer.lookup x
  hN : X.N = N
section
variable {X : Cx} {m ma mb mc : Md} {a b c e elt target iter : Expr} {es ifs : List Expr} {pos p p2 : Pos} {f g h : VX} {fa fb : VL} {k n i j : Nat} {x y : Str} {l : List Str}
theorem qvS (q : PE X (.Name x p) (tVar i)) : QE X .shr (.Name x p) (xVarS i) := ⟨_, q, ve_varS⟩
theorem qint {i : Int} : QE X .shr (.Constant (.int i) k p) (xC (.int i)) := ⟨_, pe_int, ve_int⟩
theorem qstr {i : Str} : QE X .shr (.Constant (.str i) k p) (xC (.str i)) := ⟨_, pe_str, ve_str⟩
theorem qbl {i : Bool} : QE X .shr (.Constant (.bool i) k p) (xC (.bl i)) := ⟨_, pe_bl, ve_bl⟩
theorem qop {op : Operator} {o : PV → PV → Option PV} (ho : OB X op m o) (ha : QE X ma a f) (hb : QE X mb b g) : QE X m (.BinOp a op b p) (x2 o f g) := by
  obtain ⟨_, o1, o2⟩ := ho.h; obtain ⟨_, a1, a2⟩ := ha.h; obtain ⟨_, b1, b2⟩ := hb.h
  exact ⟨_, pe_op o1 a1 b1, ve_op o2 a2 b2⟩
theorem qcmp {op : CmpOp} {o : PV → PV → Option PV} (ho : OC X op m o) (ha : QE X ma a f) (hb : QE X mb b g) (hm : behindInMarks op b = false) : QE X m (.Compare a [op] [b] p) (x2 o f g) := by
  obtain ⟨_, o1, o2⟩ := ho.h; obtain ⟨_, a1, a2⟩ := ha.h; obtain ⟨_, b1, b2⟩ := hb.h
  exact ⟨_, pe_cmpR o1 a1 b1 hm, ve_op o2 a2 b2⟩
theorem qtcmp {op : CmpOp} {o : PV → PV → Option PV} (ho : OC X op m o) (ha : QE X ma a f) (hb : QE X mb b g) (hm : behindInMarks op b = false) : QT X (.Compare a [op] [b] p) (bOf (x2 o f g)) := by
  obtain ⟨_, o1, o2⟩ := ho.h; obtain ⟨_, a1, a2⟩ := ha.h; obtain ⟨_, b1, b2⟩ := hb.h
  exact ⟨_, pt_cmpR o1 a1 b1 hm, vt_test (ve_op o2 a2 b2)⟩
theorem qand (ha : QE X ma a f) (hb : QE X mb (.BoolOp .And (b :: es) p) g) : QE X .shr (.BoolOp .And (a :: b :: es) p) (xB (bAnd (bOf f) (bOf g))) := by
  obtain ⟨_, a1, a2⟩ := ha.h; obtain ⟨_, b1, b2⟩ := hb.h; exact ⟨_, pe_and a1 b1, ve_and a2 b2⟩
theorem qor (ha : QE X ma a f) (hb : QE X mb (.BoolOp .Or (b :: es) p) g) : QE X .shr (.BoolOp .Or (a :: b :: es) p) (xB (bOr (bOf f) (bOf g))) := by
  obtain ⟨_, a1, a2⟩ := ha.h; obtain ⟨_, b1, b2⟩ := hb.h; exact ⟨_, pe_or a1 b1, ve_or a2 b2⟩
theorem qone {op : BoolOp} (ha : QE X m a f) : QE X m (.BoolOp op [a] p) f := by
  obtain ⟨_, a1, a2⟩ := ha.h; exact ⟨_, pe_one a1, a2⟩
theorem qnot (ha : QE X ma a f) : QE X .shr (.UnaryOp .Not a p) (xB (bNot (bOf f))) := by
  obtain ⟨_, a1, a2⟩ := ha.h; exact ⟨_, pe_not a1, ve_not a2⟩
theorem qife {fc : VB} (hc : QT X c fc) (ha : QE X m a f) (hb : QE X m b g) : QE X m (.IfExp c a b p) (xIf fc f g) := by
  obtain ⟨_, c1, c2⟩ := hc.h; obtain ⟨_, a1, a2⟩ := ha.h; obtain ⟨_, b1, b2⟩ := hb.h; exact ⟨_, pe_ifExp c1 a1 b1, ve_if c2 a2 b2⟩
theorem qlst (ha : QA X false es fa) : QE X .fr (.List es p) (xL mkLst fa) := by
  obtain ⟨_, a1, a2⟩ := ha.h; exact ⟨_, pe_lst a1, ve_lst a2⟩
theorem qtup (ha : QA X false es fa) : QE X .shr (.Tuple es k p) (xL mkTup fa) := by
  obtain ⟨_, a1, a2⟩ := ha.h; exact ⟨_, pe_tup a1, ve_tup a2⟩
theorem QE.sh (ha : QE X .fr a f) : QE X .shr a f := by
  obtain ⟨_, a1, a2⟩ := ha.h; exact ⟨_, a1, a2.shr⟩
theorem qix {o : PV → PV → Option PV} (ho : I2 X m o) (ha : QE X ma a f) (hb : QE X mb b g) (hs : PlainIx b) : QE X m (.Subscript a b p) (x2 o f g) := by
  obtain ⟨_, o1, o2⟩ := ho.h; obtain ⟨_, a1, a2⟩ := ha.h; obtain ⟨_, b1, b2⟩ := hb.h
  exact ⟨_, pe_ix o1 a1 b1 hs, ve_op o2 a2 b2⟩
theorem qsl {lo hi : Option Expr} {fl fh : PEnv → Option (Option Int)} (ha : QE X ma a f) (hl : QO X lo fl) (hh : QO X hi fh) : QE X .fr (.Subscript a (.Slice lo hi none p2) p) (xSl f fl fh) := by
  obtain ⟨_, a1, a2⟩ := ha.h; obtain ⟨_, b1, b2⟩ := hl.h; obtain ⟨_, c1, c2⟩ := hh.h
  exact ⟨_, pe_slice (sl_listK rfl) a1 b1 c1, ve_slL a2 b2 c2⟩
theorem qo0 : QO X none oNone := ⟨_, po_none, vo_none⟩
theorem qo1 (ha : QE X ma a f) : QO X (some a) (oSome f) := by
  obtain ⟨_, a1, a2⟩ := ha.h; exact ⟨_, po_some a1, vo_some a2⟩
theorem qa0 {b : Bool} : QA X b [] lNil := ⟨_, pa_nil, va_nil⟩
theorem qaS (ha : QE X .shr e f) (hr : QA X false es fa) (hs : starEach (e :: es) X.env = (false, eval e X.env) :: starEach es X.env := by rfl) : QA X false (e :: es) (lCons f fa) := by
  obtain ⟨_, a1, a2⟩ := ha.h; obtain ⟨_, b1, b2⟩ := hr.h; exact ⟨_, pa_cons a1 b1 hs, va_consS a2 b2⟩
theorem qaB (ha : QE X ma e f) (hr : QA X true es fa) (hs : starEach (e :: es) X.env = (false, eval e X.env) :: starEach es X.env := by rfl) : QA X true (e :: es) (lCons f fa) := by
  obtain ⟨_, a1, a2⟩ := ha.h; obtain ⟨_, b1, b2⟩ := hr.h; exact ⟨_, pa_cons a1 b1 hs, va_consB a2 b2⟩
def pvV : PV → Option V
  | .non => some .non | .bl b => some (.bl b) | .int i => some (.int i) | .str s => some (.str s) | _ => none
def pvVs : List PV → Option (List V)
  | [] => some []
  | p :: r => match pvV p, pvVs r with
    | some v, some vs => some (v :: vs)
    | _, _ => none
theorem consts_of : ∀ {ps : List PV} {vs : List V}, pvVs ps = some vs → Consts vs ps
  | [], vs, e => by cases e; exact .nil
  | p :: r, vs, e => by
    unfold pvVs at e
    split at e
    · rename_i v ws h1 h2
      cases e
      refine .cons ?_ (consts_of h2)
      unfold pvV at h1
      split at h1 <;> first | (cases h1; rfl) | cases h1
    · cases e
theorem qks {vs : List V} {ps : List PV} (h1 : constVs es = some vs) (h2 : pvVs ps = some vs) : QA X false es (fun _ => some ps) := ⟨_, pa_consts h1, va_ks (consts_of h2)⟩
theorem qtv (ha : QE X m a f) (he : ∀ whole, isTrue a X.env whole = (do let v ← whole; standAt a.pos; holding [v] (truthy v)) := by intro _; rfl) : QT X a (bOf f) := by
  obtain ⟨_, a1, a2⟩ := ha.h; exact ⟨_, pt_val a1 he, vt_val a2⟩
theorem qtnot {fa : VB} (ha : QT X a fa) : QT X (.UnaryOp .Not a p) (bNot fa) := by
  obtain ⟨_, a1, a2⟩ := ha.h; exact ⟨_, pt_not a1, vt_not a2⟩
theorem qwor {fa fb : VB} (ha : QT X a fa) (hb : QW X (.BoolOp .Or (b :: es) p) fb) : QW X (.BoolOp .Or (a :: b :: es) p) (bOr fa fb) := by
  obtain ⟨_, a1, a2⟩ := ha.h; obtain ⟨_, b1, b2⟩ := hb.h; exact ⟨_, pw_or a1 b1, vt_or a2 b2⟩
theorem qwand {fa fb : VB} (ha : QT X a fa) (hb : QW X (.BoolOp .And (b :: es) p) fb) : QW X (.BoolOp .And (a :: b :: es) p) (bAnd fa fb) := by
  obtain ⟨_, a1, a2⟩ := ha.h; obtain ⟨_, b1, b2⟩ := hb.h; exact ⟨_, pw_and a1 b1, vt_and a2 b2⟩
theorem qwor1 {fa : VB} (ha : QT X a fa) : QW X (.BoolOp .Or [a] p) fa := by
  obtain ⟨_, a1, a2⟩ := ha.h; exact ⟨_, pw_or1 a1, a2⟩
theorem qwand1 {fa : VB} (ha : QT X a fa) : QW X (.BoolOp .And [a] p) fa := by
  obtain ⟨_, a1, a2⟩ := ha.h; exact ⟨_, pw_and1 a1, a2⟩
theorem qtw {fa : VB} (ha : QW X a fa) : QT X a fa := by
  obtain ⟨_, a1, a2⟩ := ha.h; exact ⟨_, PW.pt a1, a2⟩
theorem qf0 : QF X [] bTrue := ⟨_, pifs_nil, vt_all⟩
theorem qil (ha : QE X .shr a f) : QI X target a (itL f) := by
  obtain ⟨_, a1, a2⟩ := ha.h; exact ⟨_, pi_listK rfl a1, vi_list a2⟩
theorem qir1 (hb : Blt X.mg l) (ha : QA X true [a] fa) (hl : l.contains "range" = true := by rfl) (hg : Gl X "range" := by rfl) (hs : starEach [a] X.env = [(false, eval a X.env)] := by rfl) : QI X target (.Call (.Name "range" p) [a] [] pos) (itR1 fa) := by
  obtain ⟨_, a1, a2⟩ := ha.h; exact ⟨_, pi_range1 hg (hb.h _ hl) a1 hs, vi_rng1 a2⟩
theorem qgn (hN : X.N.Nodup) (hi : X.N[i]? = some x := by rfl) (hx : Loc X.env.scope x := by first | exact Or.inl rfl | exact Or.inr rfl) (hf : X.fn x = true ∨ X.env.scope.names.lookup x = some .local := by first | exact .inl rfl | exact .inr rfl) : QG X (.Name x p) (gN i) := ⟨_, pg_name hN hi hx hf, vg_name⟩
theorem QE.all {ι : Type} {Y : ι → Cx} (h : ∀ i, QE (Y i) m e f) : ∃ t, (∀ i, PE (Y i) e t) ∧ VE m t f :=
  ⟨fun σ H Q => ∀ i, (Classical.choose (h i).h) σ H Q, fun i pins s σ H Q I hw => (Classical.choose_spec (h i).h).1 pins s σ H Q I (hw i), fun U O H σ ρ Q p sr ef k i => (Classical.choose_spec (h i).h).2 U O H σ ρ Q p sr ef k⟩
theorem QF.all {ι : Type} {Y : ι → Cx} {f : VB} (h : ∀ i, QF (Y i) es f) : ∃ t, (∀ i, PIfs (Y i) es t) ∧ VT t f :=
  ⟨fun σ H Q => ∀ i, (Classical.choose (h i).h) σ H Q, fun i pins s σ H Q I hw => (Classical.choose_spec (h i).h).1 pins s σ H Q I (hw i), fun U O H σ ρ Q p sr ef k i => (Classical.choose_spec (h i).h).2 U O H σ ρ Q p sr ef k⟩
theorem QG.all {ι : Type} {Y : ι → Cx} {f : VTg} (h : ∀ i, QG (Y i) e f) : ∃ t, (∀ i, PG (Y i) e t) ∧ VG t f :=
  ⟨fun v σ H Q => ∀ i, (Classical.choose (h i).h) v σ H Q, fun i u v s pins σ H Q I r hw => (Classical.choose_spec (h i).h).1 u v s pins σ H Q I r (hw i), fun U O H σ ρ ρ' p v K sr r ef k i => (Classical.choose_spec (h i).h).2 U O H σ ρ ρ' p v K sr r ef k⟩
def tgN1 : Expr → Option Str
  | .Name x _ => some x
  | _ => none
def tgN : Expr → List Str
  | .Name x _ => [x]
  | .Tuple es _ _ => es.filterMap tgN1
  | _ => []
def compN (tg : Expr) (src : List (Option Nat)) (N : List Str) : List Str := tgN tg ++ src.filterMap fun o => o.bind fun i => N[i]?
def compOkA (scope : Scope) (outer : List (Str × NameKind)) (N : List Str) (tg : Expr) (src : List (Option Nat)) : Bool := compOk scope.names outer N (compN tg src N) src && decide (compN tg src N).Nodup && (match scope.kind with | .function => true | _ => false)
theorem compOkA_of {scope : Scope} {outer : List (Str × NameKind)} {N : List Str} {src : List (Option Nat)} (cs : CSc X outer N) (hok : compOkA scope outer N target src = true) : CompScope X scope (compN target src N) src ∧ (compN target src N).Nodup := by
  unfold compOkA at hok
  simp only [Bool.and_eq_true, decide_eq_true_eq] at hok
  obtain ⟨⟨h1, h2⟩, h3⟩ := hok
  refine ⟨CompScope.of outer N ?_ cs.ho cs.hN h1, h2⟩
  cases hk : scope.kind <;> rw [hk] at h3 <;> first | rfl | cases h3
structure QC (X : Cx) (elt target iter : Expr) (ifs : List Expr) (scope : Scope) (N' : List Str) (src : List (Option Nat)) (f : VX) : Prop where
  S : CompScope X scope N' src
  h : ∃ wi g tif te, PI X target iter wi ∧ (∀ C s H fp, PG (cxComp X scope N' C s H fp) target g) ∧ (∀ C s H fp, PIfs (cxComp X scope N' C s H fp) ifs tif) ∧ (∀ C s H fp, PE (cxComp X scope N' C s H fp) elt te) ∧ VE .fr (tComp src wi g tif te) f
theorem qc {scope : Scope} {outer : List (Str × NameKind)} {N : List Str} {src : List (Option Nat)} {it : VL} {tg : VTg} {cond : VB} (cs : CSc X outer N) (hok : compOkA scope outer N target src = true) (hi : QI X target iter it ∨ QJ X target iter it)
    (hg : ∀ C s H fp, (cxComp X scope (compN target src N) C s H fp).N.Nodup → QG (cxComp X scope (compN target src N) C s H fp) target tg) (hif : ∀ C s H fp, QF (cxComp X scope (compN target src N) C s H fp) ifs cond) (he : ∀ C s H fp, QE (cxComp X scope (compN target src N) C s H fp) .shr elt f) :
    QC X elt target iter ifs scope (compN target src N) src (xComp src it tg cond f) := by
  obtain ⟨S, nd⟩ := compOkA_of cs hok
  obtain ⟨_, g1, g2⟩ := QG.all (Y := fun (z : Addr × Shared × Hp × List Addr) => cxComp X scope (compN target src N) z.1 z.2.1 z.2.2.1 z.2.2.2) fun z => hg _ _ _ _ nd
  obtain ⟨_, f1, f2⟩ := QF.all (Y := fun (z : Addr × Shared × Hp × List Addr) => cxComp X scope (compN target src N) z.1 z.2.1 z.2.2.1 z.2.2.2) fun z => hif _ _ _ _
  obtain ⟨_, e1, e2⟩ := QE.all (Y := fun (z : Addr × Shared × Hp × List Addr) => cxComp X scope (compN target src N) z.1 z.2.1 z.2.2.1 z.2.2.2) fun z => he _ _ _ _
  refine ⟨S, ?_⟩
  rcases hi with hi | hi <;> obtain ⟨_, i1, i2⟩ := hi.h
  · exact ⟨_, _, _, _, i1, fun C s H fp => g1 (C, s, H, fp), fun C s H fp => f1 (C, s, H, fp), fun C s H fp => e1 (C, s, H, fp), ve_comp i2 g2 f2 e2⟩
  · exact ⟨_, _, _, _, i1, fun C s H fp => g1 (C, s, H, fp), fun C s H fp => f1 (C, s, H, fp), fun C s H fp => e1 (C, s, H, fp), ve_compB i2 g2 f2 e2⟩
theorem qcomp {scope : Scope} {N' : List Str} {src : List (Option Nat)} (q : QC X elt target iter ifs scope N' src f) (hc : X.calm = true := by rfl) (hs : ∀ x, foldedSetIterable iter X.env x = pure x := by intro _; rfl) : QE X .fr (.ListComp elt [⟨target, iter, ifs, 0⟩] scope p) f := by
  obtain ⟨wi, g, tif, te, h1, h2, h3, h4, h5⟩ := q.h
  exact ⟨_, pe_comp q.S hc h1 h2 h3 h4 hs, h5⟩
theorem qcS {f : List PV → Option PV} (F : CF X.prog X.w X.K X.mg X.base CX0 x k (spV false f)) (hr : Room j X.A) (hk : k ≤ j) (ha : QA X false (e :: es) fa) (hg : Gl X x := by rfl) (hdb : (x == ("__debug__" : Str)) = false := by decide) (he : starEach (e :: es) X.env = (false, eval e X.env) :: starEach es X.env := by rfl) (hpl : (backTo pos (starEach es X.env)).any (·.1) = false := by rfl) :
    QE X .shr (.Call (.Name x p) (e :: es) [] pos) (xL f fa) := by
  obtain ⟨_, _, _, F1, F2, F3, F4⟩ := F.h; obtain ⟨_, a1, a2⟩ := ha.h
  exact ⟨_, pe_call F1 (hr.mono hk) hg F2 F3 F4 .nil pass0 a1 hdb he hpl, ve_callS a2⟩
theorem qb {id : String} {o : List PV → Option PV} (hB : Blt X.mg l) (hc : C2 X (.builtin id) m o) (ha : QA X true (e :: es) fa) (hl : l.contains x = true := by rfl) (hv : bootBuiltins x = some (.builtin id) := by decide +kernel) (hg : Gl X x := by rfl) (hn : x ≠ "__name__" := by decide) (hdb : (x == ("__debug__" : Str)) = false := by decide)
    (he : starEach (e :: es) X.env = (false, eval e X.env) :: starEach es X.env := by rfl) (hpl : (backTo pos (starEach es X.env)).any (·.1) = false := by rfl) : QE X m (.Call (.Name x p) (e :: es) [] pos) (xL o fa) := by
  obtain ⟨_, c1, c2⟩ := hc.h; obtain ⟨_, a1, a2⟩ := ha.h
  exact ⟨_, pe_callB c1 hg (hB.h _ hl) hv a1 hn hdb he hpl, ve_cb c2 a2⟩
theorem qbT {T : String} {o : List PV → Option PV} (hB : Blt X.mg l) (hc : C2 X (.type T) m o) (ha : QA X true (e :: es) fa) (hl : l.contains x = true := by rfl) (hv : bootBuiltins x = some (.type T) := by decide +kernel) (hg : Gl X x := by rfl) (hn : x ≠ "__name__" := by decide) (hdb : (x == ("__debug__" : Str)) = false := by decide)
    (he : starEach (e :: es) X.env = (false, eval e X.env) :: starEach es X.env := by rfl) (hpl : (backTo pos (starEach es X.env)).any (·.1) = false := by rfl) : QE X m (.Call (.Name x p) (e :: es) [] pos) (xL o fa) := by
  obtain ⟨_, c1, c2⟩ := hc.h; obtain ⟨_, a1, a2⟩ := ha.h
  exact ⟨_, pe_callTy c1 hg (hB.h _ hl) hv a1 hn hdb he hpl, ve_cb c2 a2⟩
theorem qisi {T : String} {tab : List (String × Bool)} (hB : Blt X.mg l) (ha : QE X ma a f) (ht : ∀ t b, tab.lookup t = some b → PySem.W.kitOne X.K (.type t) (.type T) = some b) (hl : l.contains "isinstance" = true := by rfl) (hlx : l.contains x = true := by rfl) (hv : bootBuiltins "isinstance" = some (.builtin "isinstance") := by decide +kernel) (hvx : bootBuiltins x = some (.type T) := by decide +kernel) (hg : Gl X "isinstance" := by rfl) (hgx : Gl X x := by rfl) (hnx : x ≠ "__name__" := by decide) (hdx : (x == ("__debug__" : Str)) = false := by decide)
    (he : starEach [a, .Name x p2] X.env = (false, eval a X.env) :: starEach [.Name x p2] X.env := by rfl) (he2 : starEach [.Name x p2] X.env = (false, eval (.Name x p2) X.env) :: starEach [] X.env := by rfl) (hpl : (backTo pos (starEach [.Name x p2] X.env)).any (·.1) = false := by rfl) : QE X .shr (.Call (.Name "isinstance" p) [a, .Name x p2] [] pos) (x1 (pIsi tab) f) := by
  obtain ⟨_, a1, a2⟩ := ha.h
  exact ⟨_, pe_callB (call_isiK rfl) hg (hB.h _ hl) hv (pa_cons a1 (pa_cons (pe_bltn (v := .ty T) hgx (hB.h _ hlx) hvx rfl hnx hdx) pa_nil he2) he) (by decide) (by decide) he hpl, ve_isi ht a2⟩
theorem qnever {st : Stmt} : QS X st vNone := ⟨_, ps_never, vs_never⟩
theorem qretS (ha : QE X .shr a f) : QS X (.Return (some a) p) (vRet f false) := by
  obtain ⟨_, a1, a2⟩ := ha.h; exact ⟨_, ps_ret a1, vs_retS a2⟩
theorem qif {fc : VB} {s t : List Stmt} {F G : VF} (hc : QT X c fc) (ha : QB X s F) (hb : QB X t G) : QS X (.If c s t p) (vIf fc F G) := by
  obtain ⟨_, c1, c2⟩ := hc.h; obtain ⟨_, a1, a2⟩ := ha.h; obtain ⟨_, b1, b2⟩ := hb.h; exact ⟨_, ps_if c1 a1 b1, vs_if c2 a2 b2⟩
theorem qsetS (hN : X.N.Nodup) (ha : QE X .shr a f) (hi : X.N[i]? = some x := by rfl) (hx : Loc X.env.scope x := by first | exact Or.inl rfl | exact Or.inr rfl) (hs : swapsWith a (some (.Name x p)) pos.line X.env = pure false := by rfl) (hf : X.fn x = true ∨ X.env.scope.names.lookup x = some .local := by first | exact .inl rfl | exact .inr rfl) : QS X (.Assign [.Name x p] a pos) (vSetS i f) := by
  obtain ⟨_, a1, a2⟩ := ha.h; exact ⟨_, ps_set hN hi hx a1 hs hf, vs_setS a2⟩
theorem qsetC {scope : Scope} {N' : List Str} {src : List (Option Nat)} (hN : X.N.Nodup) (q : QC X elt target iter ifs scope N' src f) (hj : X.N[j]? = some y := by rfl) (hy : X.env.scope.names.lookup y = some .local := by rfl) (hc : X.calm = true := by rfl) (hsw : swapsWith (.ListComp elt [⟨target, iter, ifs, 0⟩] scope pos) (some (.Name y p)) p2.line X.env = pure true := by rfl)
    (hs : ∀ x, foldedSetIterable iter X.env x = pure x := by intro _; rfl) : QS X (.Assign [.Name y p] (.ListComp elt [⟨target, iter, ifs, 0⟩] scope pos) p2) (vSetS j f) ∧ QS X (.Assign [.Name y p] (.ListComp elt [⟨target, iter, ifs, 0⟩] scope pos) p2) (vSetO j f) := by
  obtain ⟨wi, g, tif, te, h1, h2, h3, h4, h5⟩ := q.h
  exact ⟨⟨_, ps_setcomp hN hj hy q.S hc h1 h2 h3 h4 hsw hs, vs_setcompS h5⟩, ⟨_, ps_setcomp hN hj hy q.S hc h1 h2 h3 h4 hsw hs, vs_setcompO h5⟩⟩
theorem qsetC1 {scope : Scope} {N' : List Str} {src : List (Option Nat)} (hN : X.N.Nodup) (q : QC X elt target iter ifs scope N' src f) (hj : X.N[j]? = some y) (hy : X.env.scope.names.lookup y = some .local) (hc : X.calm = true) (hsw : swapsWith (.ListComp elt [⟨target, iter, ifs, 0⟩] scope pos) (some (.Name y p)) p2.line X.env = pure true)
    (hs : ∀ x, foldedSetIterable iter X.env x = pure x) : QS X (.Assign [.Name y p] (.ListComp elt [⟨target, iter, ifs, 0⟩] scope pos) p2) (vSetS j f) := (qsetC hN q hj hy hc hsw hs).1
theorem qfor {s : List Stmt} {F : VF} {it : VL} {tg : VTg} (hi : QI X target iter it) (hg : QG X target tg) (hb : QB X s F) (hp : PassesOwn (model X.prog X.w) X.A X.env X.xe) (hc : X.calm = true := by rfl) (hs : ∀ x, foldedSetIterable iter X.env x = pure x := by intro _; rfl) : QS X (.For target iter s [] pos) (vFor it tg F) := by
  obtain ⟨_, c1, c2⟩ := hi.h; obtain ⟨_, a1, a2⟩ := hg.h; obtain ⟨_, b1, b2⟩ := hb.h; exact ⟨_, ps_for hp hc c1 a1 b1 hs, vs_for c2 a2 b2⟩
theorem qb0 : QB X [] vSkip := ⟨_, pss_nil, vs_skip⟩
theorem qb1 {st : Stmt} {F : VF} (h : QS X st F) : QB X [st] F := by
  obtain ⟨_, c1, c2⟩ := h.h; exact ⟨_, pss_one c1, c2⟩
theorem qbc {st : Stmt} {s : List Stmt} {F G : VF} (h : QS X st F) (r : QB X s G) : QB X (st :: s) (vSeq F G) := by
  obtain ⟨_, c1, c2⟩ := h.h; obtain ⟨_, r1, r2⟩ := r.h; exact ⟨_, pss_cons c1 r1, vs_seq c2 r2⟩
end
end L2
namespace L2
open PySem
section
variable {X : Cx} {m ma mb mc : Md} {a b c e elt target iter : Expr} {es ifs : List Expr} {pos p p2 ap : Pos} {f g h : VX} {fa fb : VL} {k n i j : Nat} {x y : Str} {l : List Str}
theorem o_add : OB X .Add .shr pAdd := ⟨_, op_add, r2_add⟩
theorem o_sub : OB X .Sub .shr pSub := ⟨_, op_sub, r2_sub⟩
theorem o_mul : OB X .Mult .shr pMul := ⟨_, op_mul, r2_mul⟩
theorem o_div : OB X .FloorDiv .shr pDiv := ⟨_, op_fdiv, r2_div⟩
theorem o_mod : OB X .Mod .shr pMod := ⟨_, op_mod, r2_mod⟩
theorem o_eq : OC X .Eq .shr pEq := ⟨_, op_eq, r2_eq⟩
theorem o_ne : OC X .NotEq .shr pNe := ⟨_, op_ne, r2_ne⟩
theorem o_lt : OC X .Lt .shr pLt := ⟨_, op_lt, r2_lt⟩
theorem o_le : OC X .LtE .shr pLe := ⟨_, op_le, r2_le⟩
theorem o_neL (hr : Room k X.A) : OC X .NotEq .shr (pEqL 3 true) := ⟨_, op_ne_list 3 (hu4_of hr), r2_eqL⟩
theorem c_len : C2 X (.builtin "len") .shr pLen := ⟨_, cl_len_seqK rfl, rl_len⟩
theorem c_list : C2 X (.type "list") .fr pList := ⟨_, cl_list_ofK rfl, rl_list⟩
theorem c_max2 (hc : X.calm = true) : C2 X (.builtin "max") .shr pMax2 := ⟨_, call_max2 hc, rl_max2⟩
theorem c_maxL (hc : X.calm = true) : C2 X (.builtin "max") .shr pMaxL := ⟨_, call_maxL rfl hc, rl_maxL⟩
theorem c_intB : C2 X (.type "int") .shr pIntB := ⟨_, call_intB, rl_intB⟩
theorem x_list : I2 X .shr pIxL := ⟨_, ix_listK rfl, r2_ixL⟩
theorem x_tup : I2 X .shr pIxT := ⟨_, ix_tupK rfl, r2_ixT⟩
structure RB (pm k : Bool) (cl : Nat → Addr) (X : Cx) (b : List Stmt) (G : VR) : Prop where
  h : if pm = true then RXp k cl X b G else RXs k cl X b G
structure R1 (pm k : Bool) (cl : Nat → Addr) (X : Cx) (b : Stmt) (G : VR) : Prop where
  h : if pm = true then RXp1 k cl X b G else RX1 k cl X b G
structure RE (cl : Nat → Addr) (X : Cx) (e : Expr) (g : PEnv → Option Nat) : Prop where
  h : EX cl X e g
variable {pm r : Bool} {cl : Nat → Addr} {G G' : VR} {F : VF} {st : Stmt} {s t : List Stmt} {u : PEnv → Option Nat}
theorem R1.of (h : RX1 r cl X st G) : R1 pm r cl X st G := ⟨by cases pm <;> first | exact h | exact rxp1_of h⟩
theorem rq0 : R1 pm r cl X st gNone := .of rx_none
theorem rb0 : RB pm r cl X s gNone := ⟨by cases pm <;> first | exact rxs_none | exact rxp_of rxs_none⟩
theorem rb1 (h : R1 pm r cl X st G) : RB pm r cl X (st :: s) G := ⟨by cases pm <;> first | exact rxs_one h.h | exact rxp_one h.h⟩
theorem rbc (hx : NoX X) (q : QS X st F) (h : R1 pm r cl X st G) (h2 : RB pm r cl X s G') : RB pm r cl X (st :: s) (gSeq F G G') := by
  obtain ⟨_, a1, a2⟩ := q.h
  exact ⟨by cases pm <;> first | exact rxs_cons hx a1 a2 h.h h2.h | exact rxp_cons hx a1 a2 h.h h2.h⟩
theorem rif {fc : VB} (hx : NoX X) (q : QT X c fc) (h : RB pm r cl X s G) (h2 : RB pm r cl X t G') : R1 pm r cl X (.If c s t p) (gIf fc G G') := by
  obtain ⟨_, a1, a2⟩ := q.h
  exact ⟨by cases pm <;> first | exact rx_if hx a1 a2 h.h h2.h | exact rxp_if hx a1 a2 h.h h2.h⟩
theorem rfor {it : VL} {tg : VTg} (hx : NoX X) (hi : QI X target iter it) (hg : QG X target tg) (hb : QB X s F) (h : RB true r cl X s G) (hc : X.calm = true := by rfl) (hs : ∀ x, foldedSetIterable iter X.env x = pure x := by intro _; rfl) : R1 true r cl X (.For target iter s [] p) (gFor it tg F G) := by
  obtain ⟨_, i1, i2⟩ := hi.h; obtain ⟨_, g1, g2⟩ := hg.h; obtain ⟨_, b1, b2⟩ := hb.h
  exact ⟨rxp_for hx hc i1 i2 g1 g2 b1 b2 h.h hs⟩
theorem rret (h : RE cl X e u) : R1 pm r cl X (.Return (some e) pos) (gX u) := .of (rx_ret h.h)
theorem rcall {g : List PV → Option Nat} (hx : NoX X) (F : CF X.prog X.w X.K X.mg X.base (CX1 X.prog X.w) x k (spX cl g)) (hr : Room j X.A) (hk : k ≤ j) (ha : QA X false (e :: es) fa) (hex : X.ex = [] := by rfl) (hg : Gl X x := by rfl) (hdb : (x == ("__debug__" : Str)) = false := by decide) (he : starEach (e :: es) X.env = (false, eval e X.env) :: starEach es X.env := by rfl) (hpl : (backTo pos (starEach es X.env)).any (·.1) = false := by rfl) :
    RE cl X (.Call (.Name x p) (e :: es) [] pos) (gCall g fa) := by
  obtain ⟨_, _, _, F1, F2, F3, F4⟩ := F.h; obtain ⟨_, a1, a2⟩ := ha.h
  exact ⟨ex_call hx hex F1 (hr.mono hk) hg F2 F3 F4 a1 a2 hdb he hpl⟩
structure Xc (K : PySem.W.Frag) (mg : Str → Option Value) (cl : Nat → Addr) (x : Str) (n : Nat) : Prop where
  m : mg x = some (.ref (cl n))
  e : PySem.W.excIn K (cl n) [.type "ValueError", .type "Exception", .type "BaseException", .type "object"] "ValueError.__new__" = true
theorem rraise (hx : NoX X) (hc : Xc X.K X.mg cl x n) (ha : QA X false (e :: es) fa) (hn : ∃ ps, ∀ ρ, fa ρ = some ps ∧ ps.length ≤ 10) (hcm : X.calm = true := by rfl) (hg : Gl X x := by rfl) (hdb : (x == ("__debug__" : Str)) = false := by decide) (he : starEach (e :: es) X.env = (false, eval e X.env) :: starEach es X.env := by rfl) (hpl : (backTo p2 (starEach es X.env)).any (·.1) = false := by rfl) :
    R1 pm true cl X (.Raise (some (.Call (.Name x p) (e :: es) [] p2)) none pos) (gRaise n) := by
  obtain ⟨_, a1, a2⟩ := ha.h
  exact .of (rx_raise hx hcm PySem.F.excBase_ValueError hg hc.m hc.e a1 a2 hn hdb he hpl)
variable {P : Program} {w : World} {K : PySem.W.Frag} {mg : Str → Option Value} {base : Heap}
theorem okQ {st : Stmt} {N ps : List Str} {fr : Bool} (D : Df K mg x st ps) (S : FnScope N ps (defScope st))
    (hb : ∀ (a : Addr) (cdv : Value) (A : Around) (outer : List Env) (s : Shared) (H : Hp) (E : XK), Room k (cxOf CX0 P w K mg base N x (defScope st) a cdv A outer s H E).nox.A → CSc (cxOf CX0 P w K mg base N x (defScope st) a cdv A outer s H E).nox (defScope st).names N → (cxOf CX0 P w K mg base N x (defScope st) a cdv A outer s H E).nox.N.Nodup →
      QB (cxOf CX0 P w K mg base N x (defScope st) a cdv A outer s H E).nox (defBody st) F) : CF P w K mg base CX0 x (k + 1) (spV fr (fnM ps.length N.length fr F)) := by
  obtain ⟨a, d, h1, h2, h3⟩ := D.h
  refine ⟨a, d, ps, ?_, h1, h2.kp, h3⟩
  refine h2.ok S (spV_len rfl) fun cdv A outer s H vs Q E hr h => ?_
  obtain ⟨_, q1, q2⟩ := (hb a cdv A outer s H E hr ⟨fun _ => rfl, rfl⟩ S.nd).h
  exact ⟨_, q1, fnV q2 h⟩
theorem badQ {st : Stmt} {N ps : List Str} (D : Df K mg x st ps) (S : FnScope N ps (defScope st))
    (hb : ∀ (a : Addr) (cdv : Value) (A : Around) (outer : List Env) (s : Shared) (H : Hp) (E : XK), Room k (cxOf CX0 P w K mg base N x (defScope st) a cdv A outer s H E).nox.A → CSc (cxOf CX0 P w K mg base N x (defScope st) a cdv A outer s H E).nox (defScope st).names N → (cxOf CX0 P w K mg base N x (defScope st) a cdv A outer s H E).nox.N.Nodup →
      NoX (cxOf CX0 P w K mg base N x (defScope st) a cdv A outer s H E).nox → RB true true cl (cxOf CX0 P w K mg base N x (defScope st) a cdv A outer s H E).nox (defBody st) G) : CF P w K mg base (CX1 P w) x (k + 1) (spX cl (gnM ps.length N.length G)) := by
  obtain ⟨a, d, h1, h2, h3⟩ := D.h
  exact ⟨a, d, ps, h2.okXp S fun cdv A outer s H E hr => (hb a cdv A outer s H E hr ⟨fun _ => rfl, rfl⟩ S.nd fun _ _ z => z).h, h1, h2.kp, h3⟩
end
end L2
namespace L2
open PySem
theorem qtry {cl : Nat → Addr} {X : Cx} {body : List Stmt} {h0 : ExceptHandler} {hs : List ExceptHandler} {pos : Pos} {Fb : VF} {Gb : VR} {hn : Nat → VF} (hx : NoX X) (hex : X.ex = []) (hst : X.stack = X.env :: X.outer) (hf : X.env.frame = some X.env.locals) (hb : QB X body Fb) (hg : RB false false cl X body Gb) (hh : ∀ n, HB2 cl X (h0 :: hs) n (hn n)) : QS X (.Try body (h0 :: hs) [] [] pos) (vTry2 Fb Gb hn) := by
  obtain ⟨_, b1, b2⟩ := hb.h
  exact ⟨_, ps_sem, vs_try2 hx hex hst hf b1 b2 hg.h hh⟩
end L2
namespace L2
open PySem
structure CFH (P : Program) (w : World) (K : PySem.W.Frag) (mg : Str → Option Value) (base : Heap) (x : Str) (k : Nat) (C : Addr) (sp : Addr → Sp) : Prop where
  h : ∃ a d ps, FnOkH P w K mg base k a d ps C sp ∧ mg x = some (.ref a) ∧ PySem.W.keepIn K (.ref a) = true ∧ Binds K d ps []
theorem pe_callHc {X : Cx} {k : Nat} {C : Addr} {sp : Addr → Sp} {a : Addr} {oe : Obj} {x : Str} {e : Expr} {es : List Expr} {p pos : Pos} {t : TA} (F : CFH X.prog X.w X.K X.mg X.base x k C sp) (hr : RoomH k X.A) (hp : (a, oe) ∈ X.pn) (hoe : oe.cls = .ref C) (hg : Gl X x)
    (ha : PA X (e :: es) t) (hdb : (x == ("__debug__" : Str)) = false := by decide) (he : starEach (e :: es) X.env = (false, eval e X.env) :: starEach es X.env := by rfl) (hpl : (backTo pos (starEach es X.env)).any (·.1) = false := by rfl) :
    PE X (.Call (.Name x p) (e :: es) [] pos) (tCall (sp a) [] E0 t) := by
  obtain ⟨_, _, _, F1, F2, F3, F4⟩ := F.h
  exact pe_callH F1 hr hp hoe hg F2 F3 F4 ha hdb he hpl
theorem okL {P : Program} {w : World} {K : PySem.W.Frag} {mg : Str → Option Value} {base : Heap} {k : Nat} {x : Str} {F : VF} {st : Stmt} {N ps : List Str} {a : Addr} {d : FuncData} (D : Fun K x x st a d) (S : FnScope N ps (defScope st))
    (hb : ∀ (cdv : Value) (A : Around) (outer : List Env) (s : Shared) (H : Hp) (E : XK), Room k (cxOf CX0 P w K mg base N x (defScope st) a cdv A outer s H E).nox.A → CSc (cxOf CX0 P w K mg base N x (defScope st) a cdv A outer s H E).nox (defScope st).names N → (cxOf CX0 P w K mg base N x (defScope st) a cdv A outer s H E).nox.N.Nodup →
      QB (cxOf CX0 P w K mg base N x (defScope st) a cdv A outer s H E).nox (defBody st) F) : FnOk P w K mg base CX0 (k + 1) a d ps (spV false (fnM ps.length N.length false F)) := by
  refine D.ok S (spV_len rfl) fun cdv A outer s H vs Q E hr h => ?_
  obtain ⟨_, q1, q2⟩ := (hb cdv A outer s H E hr ⟨fun _ => rfl, rfl⟩ S.nd).h
  exact ⟨_, q1, fnV q2 h⟩
end L2
namespace L2
open PySem
def xSlT (f : VX) (lo hi : PEnv → Option (Option Int)) : VX := fun ρ => (f ρ).bind fun p => (lo ρ).bind fun l => (hi ρ).bind fun u => match p with
  | .tup ps => if HT.sIx ps.length 0 l = 0 ∧ HT.sIx ps.length ps.length u = ps.length then none else some (.tup (cutP ps l u))
  | _ => none
theorem ve_slT {Kf : PySem.W.Frag} {m : Md} {te : TE} {tl th : TO} {f : VX} {lo hi : PEnv → Option (Option Int)} (h : VE m te f) (hl : VO tl lo) (hh : VO th hi) : VE .shr (tSl (rSlT Kf) te tl th) (xSlT f lo hi) := by
  intro U O H σ ρ Q z s e k
  obtain ⟨p, hp, e⟩ := Option.bind_eq_some_iff.mp e
  obtain ⟨l, hlo, e⟩ := Option.bind_eq_some_iff.mp e
  obtain ⟨u, hhi, e⟩ := Option.bind_eq_some_iff.mp e
  cases p with
  | tup ps =>
    simp only at e
    split at e
    · cases e
    rename_i hc
    cases e
    refine h.bor U O H σ ρ _ _ s hp fun v H1 U1 ex1 r1 => hl U1 O H1 σ ρ _ l (s.ext ex1) hlo fun H2 U2 ex2 => hh U2 O H2 σ ρ _ u ((s.ext ex1).ext ex2) hhi fun H3 U3 ex3 => ?_
    obtain ⟨a, xs, rfl, ha, rx⟩ := rep_tup.mp (Bor.keeps (p := .tup ps) (ex2.trans ex3).keeps (ex2.trans ex3).same r1)
    refine ⟨a, xs, rfl, SqT.of ha, by rw [rx.length]; exact hc, fun p hp => ?_⟩
    have rc : Reps U3 H3 (cutP ps l u) (cutV xs l u) := by
      unfold cutP cutV
      rw [rx.length]
      exact Reps.take _ (Reps.drop _ rx)
    obtain ⟨e2, r2⟩ := new_tup ex3.dU hp rc
    exact k _ _ U3 ((ex1.trans (ex2.trans ex3)).trans e2) r2
  | _ => cases e
section
variable {X : Cx} {m ma mb mc : Md} {a b c e elt target iter : Expr} {es ifs : List Expr} {pos p p2 ap : Pos} {f g h : VX} {fa fb : VL} {k n i j : Nat} {x y : Str} {l : List Str}
theorem qslT {lo hi : Option Expr} {fl fh : PEnv → Option (Option Int)} (ha : QE X ma a f) (hl : QO X lo fl) (hh : QO X hi fh) : QE X .shr (.Subscript a (.Slice lo hi none p2) p) (xSlT f fl fh) := by
  obtain ⟨_, a1, a2⟩ := ha.h; obtain ⟨_, b1, b2⟩ := hl.h; obtain ⟨_, c1, c2⟩ := hh.h
  exact ⟨_, pe_slice sl_tup a1 b1 c1, ve_slT a2 b2 c2⟩
theorem hu9_of {A : Around} {k : Nat} (hr : Room k A) : A.units + (8 + 1) < cLine := Nat.lt_of_le_of_lt (Nat.add_le_add_left (by decide : 9 ≤ 64) _) hr.units
theorem o_neT8 (hr : Room k X.A) : OC X .NotEq .shr (pNeT 8) := ⟨_, op_ne_tup 8 (hu9_of hr), r2_neT⟩
theorem qit (ha : QE X m a f) : QI X target a (itT f) := by
  obtain ⟨_, a1, a2⟩ := ha.h; exact ⟨_, pi_tupK rfl a1, vi_tup a2⟩
theorem ex_tupC {cl : Nat → Addr} {u : PEnv → Option Nat} (hx : NoX X) (h : EX cl X b u) (hs : starEach [.Constant (.str x) i p2, b] X.env = (false, eval (.Constant (.str x) i p2) X.env) :: starEach [b] X.env := by rfl) (hs2 : starEach [b] X.env = (false, eval b X.env) :: starEach [] X.env := by rfl) : EX cl X (.Tuple [.Constant (.str x) i p2, b] k p) u := by
  intro pins s σ H U O ρ n I sr e
  refine wpAny_Tuple_spliced ?_
  rw [hs]
  show wpAny _ _ (spliced ((false, eval (.Constant (.str x) i p2) X.env) :: backTo p (starEach [b] X.env))) _ _ s
  refine Calls.spliced_cons ?_
  refine wpAny_mono (pe_str pins s σ H (fun v H1 => v = .str x ∧ H1 = H) I ⟨rfl, rfl⟩) (fun v s1 ⟨y, H1, I1, r1, q1, q2⟩ => ?_) fun e' s1 zz => (hx e' s1 zz).elim
  subst q2
  rw [hs2]
  show wpAny _ _ (spliced ((false, eval b X.env) :: backTo p (starEach [] X.env))) _ _ s1
  refine Calls.spliced_cons ?_
  exact wpAny_mono (h pins s1 σ H1 U O ρ n I1 sr e) (fun _ _ q => q.elim) fun _ _ q => q
theorem rtup {cl : Nat → Addr} {u : PEnv → Option Nat} (hx : NoX X) (h : RE cl X b u) (hs : starEach [.Constant (.str x) i p2, b] X.env = (false, eval (.Constant (.str x) i p2) X.env) :: starEach [b] X.env := by rfl) (hs2 : starEach [b] X.env = (false, eval b X.env) :: starEach [] X.env := by rfl) : RE cl X (.Tuple [.Constant (.str x) i p2, b] k p) u := ⟨ex_tupC hx h.h hs hs2⟩
end
theorem CF.none {P : Program} {w : World} {K : PySem.W.Frag} {mg : Str → Option Value} {base : Heap} {x : Str} {st : Stmt} {ps : List Str} {k : Nat} {fr : Bool} (D : Df K mg x st ps) : CF P w K mg base CX0 x k (spV fr fun _ => Option.none) := by
  obtain ⟨a, d, h1, h2, h3⟩ := D.h
  refine ⟨a, d, ps, ⟨fun vs H Q E h => ?_, fun A outer s H args us vs Q E hr e0 b r h => ?_⟩, h1, h2.kp, h3⟩
  · obtain ⟨_, _, _, _, _, z, _⟩ := h; cases z
  · obtain ⟨_, _, _, _, _, z, _⟩ := h; cases z
end L2
local macro_rules | `(tactic| tm_at "qO") => `(tactic| first | with_reducible apply L2.o_add | with_reducible apply L2.o_sub | with_reducible apply L2.o_mul | with_reducible apply L2.o_div | with_reducible apply L2.o_mod )
local macro_rules | `(tactic| tm_at "qOC") => `(tactic| first | with_reducible apply L2.o_eq | with_reducible apply L2.o_ne | with_reducible apply L2.o_lt | with_reducible apply L2.o_le | with_reducible apply L2.o_neL | with_reducible apply L2.o_neT8)
local macro_rules | `(tactic| tm_at "qC") => `(tactic| first | with_reducible apply L2.c_len | with_reducible apply L2.c_list | with_reducible apply L2.c_max2 | with_reducible apply L2.c_maxL | with_reducible apply L2.c_intB)
local macro_rules | `(tactic| tm_at "qX") => `(tactic| first | with_reducible apply L2.x_list | with_reducible apply L2.x_tup )
local macro_rules | `(tactic| tm_at "q") => `(tactic| first | ((intros; with_reducible show L2.QE _ _ _ _); (first | exact L2.qint | exact L2.qstr | apply L2.qvS | (apply L2.qop; tm_at "qO") | (apply L2.qix; tm_at "qX") | (apply L2.qcmp; tm_at "qOC") | (apply L2.qcS; assumption) | exact L2.qbl | apply L2.qlst | apply L2.qtup | (apply L2.qb; assumption; tm_at "qC") | (apply L2.qbT; assumption; tm_at "qC") | (apply L2.qcomp; apply L2.qc; assumption) | apply L2.qsl | apply L2.qslT | apply L2.qand | apply L2.qor | apply L2.qone | apply L2.qnot | apply L2.qife | apply L2.qisi | (apply L2.QE.sh; first | apply L2.qlst | (apply L2.qcomp; apply L2.qc; assumption) | apply L2.qsl | (apply L2.qop; tm_at "qO") | (apply L2.qb; assumption; tm_at "qC") | (apply L2.qbT; assumption; tm_at "qC") )) <;> tm_at "q") | ((intros; with_reducible show L2.QA _ _ _ _); (first | exact L2.qa0 | apply L2.qaS | apply L2.qaB | apply L2.qks ) <;> tm_at "q") | ((intros; with_reducible show L2.PE _ _ _); (first | apply L2.pv) <;> tm_at "q") | ((intros; with_reducible show L2.QS _ _ _); (first | apply L2.qif | apply L2.qretS | exact L2.qnever | (apply L2.qsetC1; assumption; apply L2.qc; assumption) | apply L2.qsetS | apply L2.qfor ) <;> tm_at "q") | ((intros; with_reducible show L2.QB _ _ _); (first | exact L2.qb0 | apply L2.qb1 | apply L2.qbc) <;> tm_at "q") | ((intros; with_reducible show L2.QT _ _ _); (first | (apply L2.qtcmp; tm_at "qOC") | apply L2.qtnot | (apply L2.qtw; first | apply L2.qwor | apply L2.qwand) | apply L2.qtv) <;> tm_at "q") | ((intros; with_reducible show L2.QW _ _ _); (first | apply L2.qwor | apply L2.qwand | apply L2.qwor1 | apply L2.qwand1) <;> tm_at "q") | ((intros; with_reducible show L2.QF _ _ _); (first | exact L2.qf0 ) <;> tm_at "q") | ((intros; with_reducible show L2.QI _ _ _ _); (first | apply L2.qil | apply L2.qit | apply L2.qir1 ) <;> tm_at "q") | ((intros; with_reducible show L2.QG _ _ _); (first | apply L2.qgn ) <;> tm_at "q") | ((intros; with_reducible show L2.QO _ _ _); (first | exact L2.qo0 | apply L2.qo1) <;> tm_at "q") | ((intros; with_reducible show L2.RB _ _ _ _ _ _); (first | exact L2.rb0 | apply L2.rbc | apply L2.rb1) <;> tm_at "q") | ((intros; with_reducible show L2.R1 _ _ _ _ _ _); (first | exact L2.rq0 | apply L2.rif | apply L2.rfor | apply L2.rret | apply L2.rraise) <;> tm_at "q") | ((intros; with_reducible show L2.RE _ _ _ _); (first | apply L2.rtup | (apply L2.rcall; exact fun _ _ z => z; assumption) ) <;> tm_at "q") | ((with_reducible show (_ == _) = false); decide) | ((with_reducible show List.contains _ _ = true); decide +kernel) | ((with_reducible show L2.compOkA _ _ _ _ _ = true); decide +kernel) | ((with_reducible show PySem.bootBuiltins _ = _); decide +kernel) | ((with_reducible show L2.OC _ _ _ _); (tm_at "qOC") <;> tm_at "q") | exact rfl | exact fun _ => rfl | assumption | exact Or.inl rfl | exact Or.inr rfl | exact Or.inr (Or.inl rfl) | exact Or.inr (Or.inr rfl) | exact L2.nomark _ | decide | exact PySem.PassesOwn.never | exact fun _ _ z => z | exact fun _ _ => rfl | exact ⟨_, fun _ => ⟨rfl, by decide⟩⟩ | omega | decide +kernel | with_unfolding_all rfl | (apply Or.inl; tm_at "q") | exact fun t b h => L2.lk2 (P := fun t b => PySem.W.kitOne _ (.type t) (.type "bool") = some b) rfl rfl h | exact fun t b h => L2.lk2 (P := fun t b => PySem.W.kitOne _ (.type t) (.type "int") = some b) rfl rfl h | exact fun a b => L2.pe_rev rfl a b | (trace_state; fail))
local macro_rules | `(tactic| tm_at "qsc") => `(tactic| exact ⟨rfl, rfl, rfl, by decide +kernel, rfl, by decide +kernel, by decide +kernel⟩)
local macro_rules | `(tactic| tm_at "qD") => `(tactic| (intros; tm_at "q"))
local macro_rules | `(tactic| walk_at "evd") => `(tactic| (first | omega | (simp only [List.length_map, List.length_append, List.length_cons, List.length_nil, List.length_replicate, List.length_range, List.length_take, List.length_drop, List.length_reverse] at *; omega)))
local macro_rules | `(tactic| walk_at "ev") => `(tactic| simp (discharger := walk_at "evd") only [L2.E_seq, L2.E_seq_nx, L2.E_seq_rt, L2.E_seq_bk, L2.E_seq_ct, L2.E_if, L2.E_if_t, L2.E_if_f, L2.E_ifX, L2.E_ifX_t, L2.E_ifX_f, L2.E_and, L2.E_and_t, L2.E_and_f, L2.E_or, L2.E_or_t, L2.E_or_f, L2.E_x1, L2.E_x1s, L2.E_x2, L2.E_x2s, L2.E_xL, L2.E_xLs, L2.E_lc, L2.E_lcs, L2.E_ln, L2.E_c, L2.E_var, L2.E_var_s, L2.E_varS, L2.E_varS_s, L2.E_bOf, L2.E_bOf_s, L2.E_not, L2.E_not_s, L2.E_xB, L2.E_xB_s, L2.E_true, L2.E_ret, L2.E_ret_s, L2.E_retO, L2.E_retO_s, L2.E_setS, L2.E_setO, L2.E_set_s, L2.E_setW, L2.E_setW_l, L2.E_setW_t, L2.E_setW_b, L2.E_setW_n, L2.E_setW_i, L2.E_drop, L2.E_drop_s, L2.E_skip, L2.E_brk, L2.E_cnt, L2.E_app, L2.E_app_s, L2.E_ext, L2.E_ext_s, L2.E_aug, L2.E_aug_s, L2.E_unp, L2.E_unp_s, L2.E_nxO, L2.E_gN, L2.E_gT, L2.E_gA0, L2.E_gA, L2.E_par, L2.E_par_s, L2.E_sl, L2.E_sl_s, L2.E_oN, L2.E_oS, L2.E_oS_s, L2.E_for, L2.E_for_s, L2.E_ch, L2.E_ch_s, L2.E_ch_t, L2.E_ch_f, L2.E_bm, L2.E_bm_s, L2.E_mx, L2.E_mx_s, L2.E_rev, L2.E_rev_s, L2.e_add, L2.e_sub, L2.e_neg, L2.e_eqi, L2.e_eqs, L2.e_eqb, L2.e_nei, L2.e_nes, L2.e_le, L2.e_lt, L2.e_gt, L2.e_ge, L2.e_max2, L2.e_isB, L2.e_isI, L2.e_lenl, L2.e_lent, L2.e_lens, L2.e_lenS, L2.e_ixl, L2.e_ixt, L2.e_notN, L2.e_notNn, L2.e_isN, L2.e_isNs, L2.e_isNl, L2.e_mk0, L2.e_mk1, L2.e_mk2, L2.e_mk3, L2.e_mt0, L2.e_mt1, L2.e_mt2, L2.e_mt3, L2.e_mod, L2.e_div, L2.e_mul, L2.e_mulR, L2.e_ixs, L2.e_ms, L2.e_mk4, L2.e_isiL, L2.e_isiT, L2.e_isiS, L2.e_intB, L2.e_list, L2.e_sm, L2.e_cat, L2.e_all, decide_true, decide_false, List.map_cons, List.map_nil, List.cons_append, List.nil_append, List.length_cons, List.length_nil, Nat.reduceAdd, Nat.reduceSub, List.getElem?_cons_zero, List.getElem?_cons_succ, List.set_cons_zero, List.set_cons_succ, if_true, if_false, Bool.false_eq_true, Bool.not_true, Bool.not_false, Bool.and_false, Bool.and_true, Bool.true_and, Bool.false_and])
namespace K47
open PySem L2
def top (i : Nat) : Stmt := PySem.Challenge.pw_pasthall_k47_led.main.body.getD i (.Pass ⟨0, 0, 0, 0⟩)
abbrev s__law_kind : Stmt := top 17
abbrev s__law_next : Stmt := top 15
abbrev s__law_drawn_plan : Stmt := top 16
abbrev s__law_cell_at : Stmt := top 13
abbrev s_led : Stmt := top 10
abbrev s__law_tried : Stmt := top 18
abbrev s_length : Stmt := top 11
abbrev s__law_whole : Stmt := top 14
abbrev s__law_length : Stmt := top 19
abbrev s_law : Stmt := top 20
set_option genInjectivity false in
structure Prg (K : PySem.W.Frag) (mg : Str → Option Value) where
  bl : Blt mg ["ValueError", "bool", "int", "isinstance", "len", "list", "max", "range"]
  c_PastError : Addr
  mc_PastError : mg "PastError" = some (.ref c_PastError)
  c_BadRow : Addr
  mc_BadRow : mg "BadRow" = some (.ref c_BadRow)
  c_NoFit : Addr
  mc_NoFit : mg "NoFit" = some (.ref c_NoFit)
  c_BadTree : Addr
  mc_BadTree : mg "BadTree" = some (.ref c_BadTree)
  c_BadWeb : Addr
  mc_BadWeb : mg "BadWeb" = some (.ref c_BadWeb)
  c_NoVersion : Addr
  mc_NoVersion : mg "NoVersion" = some (.ref c_NoVersion)
  c_Clash : Addr
  mc_Clash : mg "Clash" = some (.ref c_Clash)
  c_NoAsking : Addr
  mc_NoAsking : mg "NoAsking" = some (.ref c_NoAsking)
  ec_NoAsking : PySem.W.excIn K c_NoAsking [.type "ValueError", .type "Exception", .type "BaseException", .type "object"] "ValueError.__new__" = true
  xm_NoAsking_PastError : PySem.W.exmOne K (.ref c_NoAsking) (.ref c_PastError) = some true
  kb_NoAsking_BadRow : PySem.W.kitOne K (.ref c_NoAsking) (.ref c_BadRow) = some false
  kb_NoAsking_BadTree : PySem.W.kitOne K (.ref c_NoAsking) (.ref c_BadTree) = some false
  kb_NoAsking_BadWeb : PySem.W.kitOne K (.ref c_NoAsking) (.ref c_BadWeb) = some false
  kb_NoAsking_Clash : PySem.W.kitOne K (.ref c_NoAsking) (.ref c_Clash) = some false
  kb_NoAsking_NoAsking : PySem.W.kitOne K (.ref c_NoAsking) (.ref c_NoAsking) = some true
  kb_NoAsking_NoFit : PySem.W.kitOne K (.ref c_NoAsking) (.ref c_NoFit) = some false
  kb_NoAsking_NoVersion : PySem.W.kitOne K (.ref c_NoAsking) (.ref c_NoVersion) = some false
  kb_NoAsking_PastError : PySem.W.kitOne K (.ref c_NoAsking) (.ref c_PastError) = some true
  kb_NoAsking_ValueError : PySem.W.kitOne K (.ref c_NoAsking) (.type "ValueError") = some true
  ex_NoAsking : PySem.W.ExCls K c_NoAsking
  D__law_kind : Df K mg "_law_kind" s__law_kind ["e"]
  D__law_next : Df K mg "_law_next" s__law_next ["seed"]
  D__law_drawn_plan : Df K mg "_law_drawn_plan" s__law_drawn_plan ["seed", "deep", "most"]
  D__law_cell_at : Df K mg "_law_cell_at" s__law_cell_at ["script", "k"]
  D_led : Df K mg "led" s_led ["plan", "answers"]
  D__law_tried : Df K mg "_law_tried" s__law_tried ["told", "answers"]
  D_length : Df K mg "length" s_length ["plan"]
  D__law_whole : Df K mg "_law_whole" s__law_whole ["found"]
  D__law_length : Df K mg "_law_length" s__law_length ["told"]
def Prg.cl {K : PySem.W.Frag} {mg : Str → Option Value} (T : Prg K mg) : Nat → Addr
  | 0 => T.c_PastError
  | 1 => T.c_BadRow
  | 2 => T.c_NoFit
  | 3 => T.c_BadTree
  | 4 => T.c_BadWeb
  | 5 => T.c_NoVersion
  | 6 => T.c_Clash
  | 7 => T.c_NoAsking
  | _ => 0
theorem Prg.X_NoAsking {K : PySem.W.Frag} {mg : Str → Option Value} (T : Prg K mg) : Xc K mg T.cl "NoAsking" 7 := ⟨T.mc_NoAsking, T.ec_NoAsking⟩
noncomputable def m__law_kind_NoAsking (a : Addr) : VF := (vSeq (vIf (bOr (bNot (bOf (x1 (pIsX a true) (xVarS 0)))) (bNot (bOf (x1 (pIsX a true) (xVarS 0)))))
  (vRet (xC (.str "other")) false)
  vSkip)
  (vSeq (vSetS 1 (xL mkLst (lCons (x1 (pIsX a false) (xVarS 0)) (lCons (x1 (pIsX a false) (xVarS 0)) (lCons (x1 (pIsX a true) (xVarS 0)) lNil)))))
  (vSeq (vSetS 2 (xL mkLst (lCons (x1 (pIsX a false) (xVarS 0)) (lCons (x1 (pIsX a false) (xVarS 0)) (lCons (x1 (pIsX a false) (xVarS 0)) (lCons (x1 (pIsX a false) (xVarS 0)) lNil))))))
  (vSeq (vIf (bOr (bOf (x2 pNe (xBM pCount (xVarS 1) (lCons (xC (.bl true)) lNil)) (xC (.int (1))))) (bOf (x2 (pIn false) (xC (.bl true)) (xVarS 2))))
  (vRet (xC (.str "other")) false)
  vSkip)
  (vRet (x2 pIxL (xL mkLst (fun _ => some [(.str "web"), (.str "version"), (.str "asking")])) (xBM pIndexB (xVarS 1) (lCons (xC (.bl true)) lNil))) false)))))
noncomputable def f__law_kind_NoAsking (a : Addr) : List PV → Option PV := fnM 1 3 false (m__law_kind_NoAsking a)
theorem wh__law_kind_NoAsking (a : Addr) : f__law_kind_NoAsking a [.adr a] = some (.str "asking") := by
  refine q_fnrt (b := false) rfl ?_ rfl
  show m__law_kind_NoAsking a [some (.adr a, .shr), none, none] = _
  unfold m__law_kind_NoAsking
  (repeat (first | walk_at "ev" | simp (discharger := walk_at "evd") only [E_isX]))
  rfl
noncomputable def m__law_next : VF := (vSeq (vSetS 0 (x2 pMod (x2 pAdd (xVarS 0) (xC (.int (7919)))) (xC (.int (2147483647)))))
  (vRet (x2 pMod (x2 pAdd (x2 pAdd (x2 pMul (xVarS 0) (xVarS 0)) (x2 pMul (xC (.int (48271))) (xVarS 0))) (xC (.int (12345)))) (xC (.int (2147483629)))) false))
noncomputable def f__law_next : List PV → Option PV := fnM 1 1 false m__law_next
noncomputable def m__law_drawn_plan (r : List PV → Option PV) : VF := (vSeq (vSetS 0 (xL f__law_next (lCons (xVarS 0) lNil)))
  (vSeq (vIf (bOr (bOf (x2 pEq (xVarS 1) (xC (.int (0))))) (bOf (x2 pEq (x2 pMod (x2 pDiv (xVarS 0) (xC (.int (7)))) (xC (.int (3)))) (xC (.int (0))))))
  (vRet (xL mkTup (lCons (xC (.str "found")) (lCons (x2 pMod (x2 pDiv (xVarS 0) (xC (.int (64)))) (xVarS 2)) lNil))) false)
  vSkip)
  (vSeq (vSetS 3 (xL r (lCons (xL f__law_next (lCons (x2 pAdd (xVarS 0) (xC (.int (11)))) lNil)) (lCons (x2 pSub (xVarS 1) (xC (.int (1)))) (lCons (xVarS 2) lNil)))))
  (vRet (xL mkTup (lCons (xC (.str "ask")) (lCons (x2 pMod (x2 pDiv (xVarS 0) (xC (.int (64)))) (xVarS 2)) (lCons (xVarS 3) (lCons (xL r (lCons (xL f__law_next (lCons (x2 pAdd (xVarS 0) (xC (.int (23)))) lNil)) (lCons (x2 pSub (xVarS 1) (xC (.int (1)))) (lCons (xVarS 2) lNil)))) lNil))))) false))))
noncomputable def f__law_drawn_plan : Nat → List PV → Option PV
  | 0 => fun _ => none
  | n + 1 => fnM 3 4 false (m__law_drawn_plan (f__law_drawn_plan n))
noncomputable def m__law_cell_at : VF := (vSeq (vIf (bOf (x2 pLt (xVarS 1) (xL pLen (lCons (xVarS 0) lNil))))
  (vRet (x2 pIxL (xVarS 0) (xVarS 1)) false)
  vSkip)
  (vRet (xC (.int (0))) false))
noncomputable def f__law_cell_at : List PV → Option PV := fnM 2 2 false m__law_cell_at
noncomputable def m_led : VF := (vSeq (vSetS 2 (xVarS 0))
  (vSeq (vFor (itL (xVarS 1)) (gN 3)
  (vSeq (vIf (bOf (x2 pEq (x2 pIxT (xVarS 2) (xC (.int (0)))) (xC (.str "found"))))
  vNone
  vSkip)
  (vSetS 2 (xIf (bOf (xVarS 3)) (x2 pIxT (xVarS 2) (xC (.int (3)))) (x2 pIxT (xVarS 2) (xC (.int (2))))))))
  (vRet (xVarS 2) false)))
noncomputable def f_led : List PV → Option PV := fnM 2 4 false m_led
noncomputable def g_led : VR := (gSeq (vSetS 2 (xVarS 0))
  gNone
  (gFor (itL (xVarS 1)) (gN 3)
  (vSeq (vIf (bOf (x2 pEq (x2 pIxT (xVarS 2) (xC (.int (0)))) (xC (.str "found"))))
  vNone
  vSkip)
  (vSetS 2 (xIf (bOf (xVarS 3)) (x2 pIxT (xVarS 2) (xC (.int (3)))) (x2 pIxT (xVarS 2) (xC (.int (2)))))))
  (gIf (bOf (x2 pEq (x2 pIxT (xVarS 2) (xC (.int (0)))) (xC (.str "found"))))
  (gRaise 7)
  gNone)))
noncomputable def x_led : List PV → Option Nat := gnM 2 4 g_led
noncomputable def m__law_tried : VF := (vTry2 (vRet (xL mkTup (lCons (xC (.str "led")) (lCons (xL f_led (lCons (xVarS 0) (lCons (xVarS 1) lNil))) lNil))) false)
  (gX (gCall x_led (lCons (xVarS 0) (lCons (xVarS 1) lNil))))
  (hLk2 [(7, (vRet (xC (.tup [(.str "asking"), PV.non])) false))]))
noncomputable def f__law_tried : List PV → Option PV := fnM 2 3 false m__law_tried
noncomputable def m_length (r : List PV → Option PV) : VF := (vSeq (vIf (bOf (x2 pEq (x2 pIxT (xVarS 0) (xC (.int (0)))) (xC (.str "found"))))
  (vRet (xC (.int (0))) false)
  vSkip)
  (vRet (x2 pAdd (xC (.int (1))) (xL pMaxL (lCons (xComp [none] (itT (xSlT (xVarS 0) (oSome (xC (.int (2)))) oNone)) (gN 0) bTrue (xL r (lCons (xVarS 0) lNil))) lNil))) false))
noncomputable def f_length : Nat → List PV → Option PV
  | 0 => fun _ => none
  | n + 1 => fnM 1 1 false (m_length (f_length n))
noncomputable def m__law_whole : VF := (vRet (xB (bAnd (bOf (x1 (pIsi [("int", true), ("bool", true)]) (xVarS 0))) (bOf (xB (bNot (bOf (x1 (pIsi [("bool", true), ("int", false)]) (xVarS 0)))))))) false)
noncomputable def f__law_whole : List PV → Option PV := fnM 1 1 false m__law_whole
noncomputable def m__law_length (r : List PV → Option PV) : VF := (vSeq (vIf (bOf (x2 pEq (x2 pIxT (xVarS 0) (xC (.int (0)))) (xC (.str "found"))))
  (vRet (xC (.int (0))) false)
  vSkip)
  (vRet (x2 pAdd (xC (.int (1))) (xL pMax2 (lCons (xL r (lCons (x2 pIxT (xVarS 0) (xC (.int (2)))) lNil)) (lCons (xL r (lCons (x2 pIxT (xVarS 0) (xC (.int (3)))) lNil)) lNil)))) false))
noncomputable def f__law_length : Nat → List PV → Option PV
  | 0 => fun _ => none
  | n + 1 => fnM 1 1 false (m__law_length (f__law_length n))
noncomputable def m_law : VF := (vSeq (vSetS 1 (xL (f__law_drawn_plan 6) (lCons (xL f__law_cell_at (lCons (xVarS 0) (lCons (xC (.int (0))) lNil))) (lCons (xC (.int (4))) (lCons (xC (.int (10))) lNil)))))
  (vSeq (vSetS 2 (xL f__law_cell_at (lCons (xVarS 0) (lCons (xC (.int (1))) lNil))))
  (vSeq (vSetS 3 (xComp [none, some 2] (itR1 (lCons (x2 pMod (xL f__law_cell_at (lCons (xVarS 0) (lCons (xC (.int (2))) lNil))) (xC (.int (6)))) lNil)) (gN 0) bTrue (x2 pEq (x2 pMod (x2 pDiv (xVarS 1) (x2 pIxL (xL mkLst (fun _ => some [(.int (1)), (.int (2)), (.int (4)), (.int (8)), (.int (16))])) (xVarS 0))) (xC (.int (2)))) (xC (.int (1))))))
  (vSeq (vSetS 4 (xVarS 1))
  (vSeq (vSetS 5 (xC (.str "led")))
  (vSeq (vSetS 6 (xC (.int (0))))
  (vSeq (vFor (itL (xVarS 3)) (gN 7)
  (vIf (bOf (x2 pEq (x2 pIxT (xVarS 4) (xC (.int (0)))) (xC (.str "found"))))
  (vSetS 5 (xC (.str "asking")))
  (vSeq (vSetS 6 (x2 pAdd (xVarS 6) (xC (.int (1)))))
  (vSetS 4 (x2 pIxT (xVarS 4) (x2 pAdd (xC (.int (2))) (xL pIntB (lCons (xVarS 7) lNil))))))))
  (vSeq (vIf (bOf (x2 pEq (x2 pMod (xL f__law_cell_at (lCons (xVarS 0) (lCons (xC (.int (3))) lNil))) (xC (.int (2)))) (xC (.int (1)))))
  (vSeq (vSetS 3 (xSl (xVarS 3) oNone (oSome (xVarS 6))))
  (vSetS 5 (xC (.str "led"))))
  vSkip)
  (vSeq (vSetS 8 (xL pList (lCons (xVarS 3) lNil)))
  (vSeq (vSetS 9 (xL f__law_tried (lCons (xVarS 1) (lCons (xVarS 8) lNil))))
  (vSeq (vIf (bOr (bOf (x2 (pEqL 3 true) (xVarS 8) (xVarS 3))) (bOf (x2 pNe (x2 pIxT (xVarS 9) (xC (.int (0)))) (xVarS 5))))
  (vRet (xC (.bl false)) false)
  vSkip)
  (vSeq (vIf (bAnd (bOf (x2 pEq (xVarS 5) (xC (.str "led")))) (bOf (x2 (pNeT 8) (x2 pIxT (xVarS 9) (xC (.int (1)))) (xVarS 4))))
  (vRet (xC (.bl false)) false)
  vSkip)
  (vSeq (vSetS 10 (xL (f_length 6) (lCons (xVarS 1) lNil)))
  (vSeq (vIf (bOr (bNot (bOf (xL f__law_whole (lCons (xVarS 10) lNil)))) (bOf (x2 pNe (xVarS 10) (xL (f__law_length 6) (lCons (xVarS 1) lNil)))))
  (vRet (xC (.bl false)) false)
  vSkip)
  (vRet (xB (bOr (bOf (x2 pEq (xVarS 5) (xC (.str "asking")))) (bOf (x2 pLe (x2 pAdd (xL (f_length 6) (lCons (xVarS 4) lNil)) (xL pLen (lCons (xVarS 3) lNil))) (xVarS 10))))) false)))))))))))))))
noncomputable def f_law : List PV → Option PV := fnM 1 11 false m_law
section
variable {P : Program} {w : World} {K : PySem.W.Frag} {mg : Str → Option Value} {base : Heap}
theorem sc__law_kind : FnScope ["e", "marks", "others"] ["e"] (defScope s__law_kind) := by tm_at "qsc"
theorem okH__law_kind_NoAsking (T : Prg K mg) : CFH P w K mg base "_law_kind" 1 T.c_NoAsking (fun a => spV false (f__law_kind_NoAsking a)) := by
  obtain ⟨a0, d0, h1, h2, h3⟩ := T.D__law_kind.h
  refine ⟨a0, d0, _, ?_, h1, h2.kp, h3⟩
  refine fn_ofH h2 sc__law_kind (fun a => by unfold f__law_kind_NoAsking; exact spV_len rfl) (fun cdv A outer s H vs Q E a oe hoe hr h => ?_)
  have sc := sc__law_kind
  have hu := hu_ofH hr
  have hu4 := hu4_ofH hr
  have hpin : (a, oe) ∈ (cxH P w K mg base ["e", "marks", "others"] "_law_kind" (defScope s__law_kind) a0 cdv A outer s H E a oe).pn := List.mem_cons_self
  exact ⟨_, (@pss_cons _ _ _ _ _ (ps_if (PW.pt (pw_or (pt_not (pt_val (pe_callB (call_isX (a := a) (oe := oe) (C := T.c_NoAsking) (c := .ty "ValueError") (u := .type "ValueError") hpin hoe T.ex_NoAsking (fun _ h => h) T.kb_NoAsking_ValueError) (by rfl) (T.bl.h _ (by rfl)) (by decide +kernel) (pa_cons (pv 0) (pa_cons (pe_bltn (v := .ty "ValueError") (by rfl) (T.bl.h _ (by rfl)) (by decide +kernel) rfl) pa_nil))))) (pw_or1 (pt_not (pt_val (pe_callB (call_isX (a := a) (oe := oe) (C := T.c_NoAsking) (c := .ref T.c_PastError) (u := .ref T.c_PastError) hpin hoe T.ex_NoAsking (fun _ h => h) T.kb_NoAsking_PastError) (by rfl) (T.bl.h _ (by rfl)) (by decide +kernel) (pa_cons (pv 0) (pa_cons (pe_glob (v := .ref T.c_PastError) (by rfl) T.mc_PastError rfl) pa_nil)))))))) (@pss_one _ _ _ (ps_ret pe_str)) pss_nil)
      (@pss_cons _ _ _ _ _ (ps_set (i := 1) sc.nd rfl (Or.inl rfl) (pe_lst (pa_cons (pe_callB (call_isX (a := a) (oe := oe) (C := T.c_NoAsking) (c := .ref T.c_BadWeb) (u := .ref T.c_BadWeb) hpin hoe T.ex_NoAsking (fun _ h => h) T.kb_NoAsking_BadWeb) (by rfl) (T.bl.h _ (by rfl)) (by decide +kernel) (pa_cons (pv 0) (pa_cons (pe_glob (v := .ref T.c_BadWeb) (by rfl) T.mc_BadWeb rfl) pa_nil))) (pa_cons (pe_callB (call_isX (a := a) (oe := oe) (C := T.c_NoAsking) (c := .ref T.c_NoVersion) (u := .ref T.c_NoVersion) hpin hoe T.ex_NoAsking (fun _ h => h) T.kb_NoAsking_NoVersion) (by rfl) (T.bl.h _ (by rfl)) (by decide +kernel) (pa_cons (pv 0) (pa_cons (pe_glob (v := .ref T.c_NoVersion) (by rfl) T.mc_NoVersion rfl) pa_nil))) (pa_cons (pe_callB (call_isX (a := a) (oe := oe) (C := T.c_NoAsking) (c := .ref T.c_NoAsking) (u := .ref T.c_NoAsking) hpin hoe T.ex_NoAsking (fun _ h => h) T.kb_NoAsking_NoAsking) (by rfl) (T.bl.h _ (by rfl)) (by decide +kernel) (pa_cons (pv 0) (pa_cons (pe_glob (v := .ref T.c_NoAsking) (by rfl) T.mc_NoAsking rfl) pa_nil))) pa_nil)))))
      (@pss_cons _ _ _ _ _ (ps_set (i := 2) sc.nd rfl (Or.inl rfl) (pe_lst (pa_cons (pe_callB (call_isX (a := a) (oe := oe) (C := T.c_NoAsking) (c := .ref T.c_BadRow) (u := .ref T.c_BadRow) hpin hoe T.ex_NoAsking (fun _ h => h) T.kb_NoAsking_BadRow) (by rfl) (T.bl.h _ (by rfl)) (by decide +kernel) (pa_cons (pv 0) (pa_cons (pe_glob (v := .ref T.c_BadRow) (by rfl) T.mc_BadRow rfl) pa_nil))) (pa_cons (pe_callB (call_isX (a := a) (oe := oe) (C := T.c_NoAsking) (c := .ref T.c_NoFit) (u := .ref T.c_NoFit) hpin hoe T.ex_NoAsking (fun _ h => h) T.kb_NoAsking_NoFit) (by rfl) (T.bl.h _ (by rfl)) (by decide +kernel) (pa_cons (pv 0) (pa_cons (pe_glob (v := .ref T.c_NoFit) (by rfl) T.mc_NoFit rfl) pa_nil))) (pa_cons (pe_callB (call_isX (a := a) (oe := oe) (C := T.c_NoAsking) (c := .ref T.c_BadTree) (u := .ref T.c_BadTree) hpin hoe T.ex_NoAsking (fun _ h => h) T.kb_NoAsking_BadTree) (by rfl) (T.bl.h _ (by rfl)) (by decide +kernel) (pa_cons (pv 0) (pa_cons (pe_glob (v := .ref T.c_BadTree) (by rfl) T.mc_BadTree rfl) pa_nil))) (pa_cons (pe_callB (call_isX (a := a) (oe := oe) (C := T.c_NoAsking) (c := .ref T.c_Clash) (u := .ref T.c_Clash) hpin hoe T.ex_NoAsking (fun _ h => h) T.kb_NoAsking_Clash) (by rfl) (T.bl.h _ (by rfl)) (by decide +kernel) (pa_cons (pv 0) (pa_cons (pe_glob (v := .ref T.c_Clash) (by rfl) T.mc_Clash rfl) pa_nil))) pa_nil))))))
      (@pss_cons _ _ _ _ _ (ps_if (PW.pt (pw_or (pt_cmpR op_ne (pe_bmK (K := K) rfl PySem.F.plainAttrs_list PySem.F.slot_list_count PySem.F.type_list_count (mt_count (K := K) rfl) (pv 1) (pa_cons pe_bl pa_nil)) pe_int (nomark _)) (pw_or1 (pt_cmpR (op_in_seqK (K := K) rfl) pe_bl (pv 2) (by rfl))))) (@pss_one _ _ _ (ps_ret pe_str)) pss_nil)
      (@pss_one _ _ _ (ps_ret (pe_ix (ix_listK (K := K) rfl) (pe_lst (pa_consts rfl)) (pe_bmK (K := K) rfl PySem.F.plainAttrs_list PySem.F.slot_list_index PySem.F.type_list_index (mt_indexB (K := K) rfl) (pv 1) (pa_cons pe_bl pa_nil)) (fun _ _ => rfl)))))))), fnV (vs_seq (vs_if (vt_or (vt_not (vt_val (ve_isX (ve_varS (i := 0))))) (vt_not (vt_val (ve_isX (ve_varS (i := 0)))))) (vs_retS ve_str) vs_skip)
      (vs_seq (vs_setS (VE.shr (ve_lst (va_consS (ve_isX (ve_varS (i := 0))) (va_consS (ve_isX (ve_varS (i := 0))) (va_consS (ve_isX (ve_varS (i := 0))) va_nil))))))
      (vs_seq (vs_setS (VE.shr (ve_lst (va_consS (ve_isX (ve_varS (i := 0))) (va_consS (ve_isX (ve_varS (i := 0))) (va_consS (ve_isX (ve_varS (i := 0))) (va_consS (ve_isX (ve_varS (i := 0))) va_nil)))))))
      (vs_seq (vs_if (vt_or (vt_test (ve_op r2_ne (ve_bm pCount_l rm_count (ve_varS (i := 1)) (va_consB ve_bl va_nil)) ve_int)) (vt_test (ve_op r2_in ve_bl (ve_varS (i := 2))))) (vs_retS ve_str) vs_skip)
      (vs_retS (ve_op r2_ixL (ve_lst (va_ks (.cons rfl (.cons rfl (.cons rfl .nil))))) (ve_bm pIndexB_l rm_indexB (ve_varS (i := 1)) (va_consB ve_bl va_nil)))))))) h⟩
theorem sc__law_next : FnScope ["seed"] ["seed"] (defScope s__law_next) := by tm_at "qsc"
theorem ok__law_next (T : Prg K mg) : CF P w K mg base CX0 "_law_next" 1 (spV false f__law_next) := by
  have := T.bl
  exact okQ T.D__law_next sc__law_next (by tm_at "qD")
theorem sc__law_drawn_plan : FnScope ["seed", "deep", "most", "good"] ["seed", "deep", "most"] (defScope s__law_drawn_plan) := by tm_at "qsc"
theorem ok__law_drawn_plan (T : Prg K mg) : ∀ n : Nat, CF P w K mg base CX0 "_law_drawn_plan" (2 + n) (spV false (f__law_drawn_plan n))
  | 0 => CF.none T.D__law_drawn_plan
  | n + 1 => by
    have := T.bl; have := @ok__law_next P w K mg base T; have := ok__law_drawn_plan T n
    exact okQ (k := 2 + n) T.D__law_drawn_plan sc__law_drawn_plan (by tm_at "qD")
theorem sc__law_cell_at : FnScope ["script", "k"] ["script", "k"] (defScope s__law_cell_at) := by tm_at "qsc"
theorem ok__law_cell_at (T : Prg K mg) : CF P w K mg base CX0 "_law_cell_at" 1 (spV false f__law_cell_at) := by
  have := T.bl
  exact okQ T.D__law_cell_at sc__law_cell_at (by tm_at "qD")
theorem sc_led : FnScope ["plan", "answers", "left", "answer"] ["plan", "answers"] (defScope s_led) := by tm_at "qsc"
theorem ok_led (T : Prg K mg) : CF P w K mg base CX0 "led" 1 (spV false f_led) := by
  have := T.bl; have := T.X_NoAsking
  exact okQ T.D_led sc_led (by tm_at "qD")
theorem bad_led (T : Prg K mg) : CF P w K mg base (CX1 P w) "led" 1 (spX T.cl x_led) := by
  have := T.bl; have := T.X_NoAsking
  exact badQ T.D_led sc_led (by tm_at "qD")
theorem sc__law_tried : FnScope ["told", "answers", "e"] ["told", "answers"] (defScope s__law_tried) := by tm_at "qsc"
theorem ok__law_tried (T : Prg K mg) : CF P w K mg base CX0 "_law_tried" 2 (spV false f__law_tried) := by
  have := T.bl; have := @ok_led P w K mg base T; have := @bad_led P w K mg base T; have := T.X_NoAsking
  exact okQ T.D__law_tried sc__law_tried fun a cdv A outer s H E hr cs nd => by
    have sc := sc__law_tried
    exact (qb1 (qtry (fun _ _ z => z) rfl rfl rfl (by tm_at "q") (by tm_at "q") (hh2_cons (hb2_hit (cl := T.cl) (X := (cxOf CX0 P w K mg base ["told", "answers", "e"] "_law_tried" (defScope s__law_tried) a cdv A outer s H E).nox) (n := 7) (i := 2) (F := (vRet (xC (.tup [(.str "asking"), PV.non])) false)) (Fs := (fun a => vRet (xL mkTup (lCons (xL (f__law_kind_NoAsking a) (lCons (xVarS 2) lNil)) (lCons (xC PV.non) lNil))) false)) rfl sc.nd rfl rfl (by rfl) T.mc_PastError T.xm_NoAsking_PastError (fun a oe hoe => ⟨_, pss_one (ps_ret (pe_tup (pa_cons (pe_callHc (a := a) (oe := oe) (C := T.c_NoAsking) (okH__law_kind_NoAsking T) ((hr.mono (by decide)).mark _) List.mem_cons_self hoe (by rfl) (pa_cons (pv 2) pa_nil)) (pa_cons pe_non pa_nil)))), (vs_retS (ve_tup (va_consS (ve_callS (va_consS (ve_varS (i := 2)) va_nil)) (va_consS ve_non va_nil))))⟩) (hf_tup (fun a => wh__law_kind_NoAsking a)) (.inr rfl))
      hh2_nil)))
theorem sc_length : FnScope ["plan"] ["plan"] (defScope s_length) := by tm_at "qsc"
theorem ok_length (T : Prg K mg) : ∀ n : Nat, CF P w K mg base CX0 "length" (1 + n) (spV false (f_length n))
  | 0 => CF.none T.D_length
  | n + 1 => by
    have := T.bl; have := ok_length T n
    exact okQ (k := 1 + n) T.D_length sc_length (by tm_at "qD")
theorem sc__law_whole : FnScope ["found"] ["found"] (defScope s__law_whole) := by tm_at "qsc"
theorem ok__law_whole (T : Prg K mg) : CF P w K mg base CX0 "_law_whole" 1 (spV false f__law_whole) := by
  have := T.bl
  exact okQ T.D__law_whole sc__law_whole (by tm_at "qD")
theorem sc__law_length : FnScope ["told"] ["told"] (defScope s__law_length) := by tm_at "qsc"
theorem ok__law_length (T : Prg K mg) : ∀ n : Nat, CF P w K mg base CX0 "_law_length" (1 + n) (spV false (f__law_length n))
  | 0 => CF.none T.D__law_length
  | n + 1 => by
    have := T.bl; have := ok__law_length T n
    exact okQ (k := 1 + n) T.D__law_length sc__law_length (by tm_at "qD")
theorem sc_law : FnScope ["script", "told", "cell", "answers", "left", "due", "used", "answer", "handed", "found", "many"] ["script"] (defScope s_law) := by tm_at "qsc"
theorem ok_law (T : Prg K mg) {a : Addr} {d : FuncData} (F : Fun K "law" "law" s_law a d) : FnOk P w K mg base CX0 9 a d ["script"] (spV false f_law) := by
  have := T.bl; have := @ok__law_cell_at P w K mg base T; have := @ok__law_drawn_plan P w K mg base T 6; have := @ok__law_length P w K mg base T 6; have := @ok__law_tried P w K mg base T; have := @ok__law_whole P w K mg base T; have := @ok_length P w K mg base T 6
  exact okL F sc_law (by tm_at "qD")
end
end K47
local macro_rules | `(tactic| walk_at "evx") => `(tactic| simp (discharger := walk_at "evd") only [L2.E_seq, L2.E_seq_nx, L2.E_seq_rt, L2.E_seq_bk, L2.E_seq_ct, L2.E_if, L2.E_if_t, L2.E_if_f, L2.E_ifX, L2.E_ifX_t, L2.E_ifX_f, L2.E_and, L2.E_and_t, L2.E_and_f, L2.E_or, L2.E_or_t, L2.E_or_f, L2.E_x1, L2.E_x1s, L2.E_x2, L2.E_x2s, L2.E_xL, L2.E_xLs, L2.E_lc, L2.E_lcs, L2.E_ln, L2.E_c, L2.E_var, L2.E_var_s, L2.E_varS, L2.E_varS_s, L2.E_bOf, L2.E_bOf_s, L2.E_not, L2.E_not_s, L2.E_xB, L2.E_xB_s, L2.E_true, L2.E_ret, L2.E_ret_s, L2.E_retO, L2.E_retO_s, L2.E_setS, L2.E_setO, L2.E_set_s, L2.E_setW, L2.E_setW_l, L2.E_setW_t, L2.E_setW_b, L2.E_setW_n, L2.E_setW_i, L2.E_drop, L2.E_drop_s, L2.E_skip, L2.E_brk, L2.E_cnt, L2.E_app, L2.E_app_s, L2.E_ext, L2.E_ext_s, L2.E_aug, L2.E_aug_s, L2.E_unp, L2.E_unp_s, L2.E_nxO, L2.E_gN, L2.E_gT, L2.E_gA0, L2.E_gA, L2.E_par, L2.E_par_s, L2.E_sl, L2.E_sl_s, L2.E_oN, L2.E_oS, L2.E_oS_s, L2.E_for, L2.E_for_s, L2.E_ch, L2.E_ch_s, L2.E_ch_t, L2.E_ch_f, L2.E_bm, L2.E_bm_s, L2.E_mx, L2.E_mx_s, L2.E_rev, L2.E_rev_s, L2.e_add, L2.e_sub, L2.e_neg, L2.e_eqi, L2.e_eqs, L2.e_eqb, L2.e_nei, L2.e_nes, L2.e_le, L2.e_lt, L2.e_gt, L2.e_ge, L2.e_max2, L2.e_isB, L2.e_isI, L2.e_lenl, L2.e_lent, L2.e_lens, L2.e_lenS, L2.e_ixl, L2.e_ixt, L2.e_notN, L2.e_notNn, L2.e_isN, L2.e_isNs, L2.e_isNl, L2.e_mk0, L2.e_mk1, L2.e_mk2, L2.e_mk3, L2.e_mt0, L2.e_mt1, L2.e_mt2, L2.e_mt3, L2.e_mod, L2.e_div, L2.e_mul, L2.e_mulR, L2.e_ixs, L2.e_ms, L2.e_mk4, L2.e_isiL, L2.e_isiT, L2.e_isiS, L2.e_intB, L2.e_list, L2.e_sm, L2.e_cat, L2.e_all, decide_true, decide_false, List.map_cons, List.map_nil, List.cons_append, List.nil_append, List.length_cons, List.length_nil, Nat.reduceAdd, Nat.reduceSub, List.getElem?_cons_zero, List.getElem?_cons_succ, List.set_cons_zero, List.set_cons_succ, if_true, if_false, Bool.false_eq_true, Bool.not_true, Bool.not_false, Bool.and_false, Bool.and_true, Bool.true_and, Bool.false_and, L2.E_gs, L2.E_gs_s, L2.E_gs_n, L2.E_gn, L2.E_gi, L2.E_gi_t, L2.E_gi_f, L2.E_gx, L2.E_gx_s, L2.E_gx_n, L2.E_gc, L2.E_gc_s, L2.E_gr, L2.E_g0, L2.E_try, L2.E_try_s, L2.E_try_n, L2.E_hl, L2.E_hl2, L2.E_uns, L2.E_lp, L2.E_lp_s])
namespace K47
open PySem L2
theorem hnx (s : Int) : K47.f__law_next [.int s] = some (.int (WB.nxt s)) := WB.nx s
theorem hca (ns : List Int) (k : Nat) : K47.f__law_cell_at [.scr ns, .int (k : Int)] = some (.int (WB.cell ns k)) := WB.ca ns k
inductive Pl where
  | fd (v : Int)
  | ask (v : Int) (g b : Pl)
def Pl.pv : Pl → PV
  | .fd v => .tup [.str "found", .int v]
  | .ask v g b => .tup [.str "ask", .int v, g.pv, b.pv]
def Pl.d : Pl → Nat
  | .fd _ => 0
  | .ask _ g b => 1 + max g.d b.d
def Pl.len : Pl → Int
  | .fd _ => 0
  | .ask _ g b => 1 + (if b.len > g.len then b.len else g.len)
def Pl.go : Pl → List Bool → Option Pl
  | p, [] => some p
  | .fd _, _ :: _ => none
  | .ask _ g b, a :: as => (if a = true then b else g).go as
def slTO (o : Option PV) (l u : Option (Option Int)) : Option PV := o.bind fun p => l.bind fun l => u.bind fun u => match p with
  | .tup ps => if HT.sIx ps.length 0 l = 0 ∧ HT.sIx ps.length ps.length u = ps.length then none else some (.tup (cutP ps l u))
  | _ => none
theorem E_slT (f : VX) (lo hi : PEnv → Option (Option Int)) (ρ : PEnv) : xSlT f lo hi ρ = slTO (f ρ) (lo ρ) (hi ρ) := nodef rfl
theorem slT4 (a b c d : PV) : slTO (some (.tup [a, b, c, d])) (some (some 2)) (some none) = some (.tup [c, d]) := nodef rfl
def itTO (o : Option PV) : Option (List PV) := o.bind fun p => match p with
  | .tup ps => some ps
  | _ => none
theorem E_itT (f : VX) (ρ : PEnv) : itT f ρ = itTO (f ρ) := nodef rfl
theorem E_itT_s (ps : List PV) : itTO (some (.tup ps)) = some ps := nodef rfl
theorem at0 (p : PV) (ps : List PV) : atI (p :: ps) 0 = some p := atI_nat (j := 0) rfl
theorem at2 (a b c : PV) (ps : List PV) : atI (a :: b :: c :: ps) 2 = some c := atI_nat (j := 2) rfl
theorem at3 (a b c d : PV) (ps : List PV) : atI (a :: b :: c :: d :: ps) 3 = some d := atI_nat (j := 3) rfl
theorem at1 (a b : PV) (ps : List PV) : atI (a :: b :: ps) 1 = some b := atI_nat (j := 1) rfl
theorem neq : decide ((("ask" : Str)) = "found") = false := by decide
theorem eqq : decide ((("found" : Str)) = "found") = true := by decide
theorem mx2 (a b : Int) : pMaxL [.lst [.int a, .int b]] = some (.int (if b > a then b else a)) := nodef rfl
theorem lenA : ∀ (p : Pl) (n : Nat), p.d < n → f_length n [p.pv] = some (.int p.len)
  | .fd v, n + 1, h => by
    refine q_fnrt (b := false) rfl ?_ rfl
    show m_length (f_length n) [some (.tup [.str "found", .int v], .shr)] = _
    unfold m_length
    (repeat (first | walk_at "evx" | simp (discharger := walk_at "evd") only [at0, eqq]))
    rfl
  | .ask v g b, n + 1, h => by
    have h1 : 1 + max g.d b.d < n + 1 := h
    have hg := lenA g n (by omega)
    have hb := lenA b n (by omega)
    refine q_fnrt (b := false) rfl ?_ rfl
    show m_length (f_length n) [some (.tup [.str "ask", .int v, g.pv, b.pv], .shr)] = _
    have hc : xComp [none] (itT (xSlT (xVarS 0) (oSome (xC (.int (2)))) oNone)) (gN 0) bTrue (xL (f_length n) (lCons (xVarS 0) lNil)) [some (.tup [.str "ask", .int v, g.pv, b.pv], .shr)] = some (.lst [.int g.len, .int b.len]) := by
      refine e_comp (xs := [g, b].map Pl.pv) (ys := [g, b].map fun q => PV.int q.len) ?_ (by simp) ?_
      · (repeat (first | walk_at "evx" | simp (discharger := walk_at "evd") only [E_itT, E_slT, slT4, E_itT_s]))
      · refine e_map Pl.pv (fun q => PV.int q.len) (fun ρ => ρ.length = 1) [g, b] _ rfl ?_
        intro x hx ρ hρ
        have hx' : f_length n [x.pv] = some (.int x.len) := by
          rcases List.mem_cons.mp hx with rfl | hx
          · exact hg
          · rw [List.mem_singleton.mp hx]; exact hb
        obtain ⟨s, rfl⟩ : ∃ s, ρ = [s] := List.length_eq_one_iff.mp hρ
        exact ⟨[some (x.pv, .shr)], rfl, rfl, by (repeat (first | walk_at "evx" | simp (discharger := walk_at "evd") only [hx']))⟩
    unfold m_length
    (repeat (first | walk_at "evx" | simp (discharger := walk_at "evd") only [at0, neq, hc, mx2]))
    rfl
theorem lenB : ∀ (p : Pl) (n : Nat), p.d < n → f__law_length n [p.pv] = some (.int p.len)
  | .fd v, n + 1, h => by
    refine q_fnrt (b := false) rfl ?_ rfl
    show m__law_length (f__law_length n) [some (.tup [.str "found", .int v], .shr)] = _
    unfold m__law_length
    (repeat (first | walk_at "evx" | simp (discharger := walk_at "evd") only [at0, eqq]))
    rfl
  | .ask v g b, n + 1, h => by
    have h1 : 1 + max g.d b.d < n + 1 := h
    have hg := lenB g n (by omega)
    have hb := lenB b n (by omega)
    refine q_fnrt (b := false) rfl ?_ rfl
    show m__law_length (f__law_length n) [some (.tup [.str "ask", .int v, g.pv, b.pv], .shr)] = _
    unfold m__law_length
    (repeat (first | walk_at "evx" | simp (discharger := walk_at "evd") only [at0, at2, at3, neq, hg, hb]))
    rfl
theorem drawn : ∀ (d n : Nat), d < n → ∀ s : Int, ∃ p : Pl, p.d ≤ d ∧ f__law_drawn_plan n [.int s, .int (d : Int), .int 10] = some p.pv
  | 0, n + 1, h, s => by
    refine ⟨.fd (WB.nxt s / 64 % 10), Nat.le_refl _, ?_⟩
    refine q_fnrt (b := false) rfl ?_ rfl
    show m__law_drawn_plan (f__law_drawn_plan n) [some (.int s, .shr), some (.int ((0 : Nat) : Int), .shr), some (.int 10, .shr), none] = _
    unfold m__law_drawn_plan
    (repeat (first | walk_at "evx" | simp (discharger := walk_at "evd") only [hnx, Int.ofNat_zero]))
    rfl
  | d + 1, n + 1, h, s => by
    by_cases h3 : WB.nxt s / 7 % 3 = 0
    · refine ⟨.fd (WB.nxt s / 64 % 10), Nat.zero_le _, ?_⟩
      refine q_fnrt (b := false) rfl ?_ rfl
      show m__law_drawn_plan (f__law_drawn_plan n) [some (.int s, .shr), some (.int ((d + 1 : Nat) : Int), .shr), some (.int 10, .shr), none] = _
      have hz : decide (((d + 1 : Nat) : Int) = 0) = false := decide_eq_false (by omega)
      unfold m__law_drawn_plan
      (repeat (first | walk_at "evx" | simp (discharger := walk_at "evd") only [hnx, hz, decide_eq_true h3]))
      rfl
    · obtain ⟨g, g1, g2⟩ := drawn d n (by omega) (WB.nxt (WB.nxt s + 11))
      obtain ⟨b, b1, b2⟩ := drawn d n (by omega) (WB.nxt (WB.nxt s + 23))
      refine ⟨.ask (WB.nxt s / 64 % 10) g b, by show 1 + max g.d b.d ≤ d + 1; omega, ?_⟩
      refine q_fnrt (b := false) rfl ?_ rfl
      show m__law_drawn_plan (f__law_drawn_plan n) [some (.int s, .shr), some (.int ((d + 1 : Nat) : Int), .shr), some (.int 10, .shr), none] = _
      have hz : decide (((d + 1 : Nat) : Int) = 0) = false := decide_eq_false (by omega)
      have hd : ((d + 1 : Nat) : Int) - 1 = (d : Int) := by omega
      unfold m__law_drawn_plan
      (repeat (first | walk_at "evx" | simp (discharger := walk_at "evd") only [hnx, hz, decide_eq_false h3, hd, g2, b2]))
      rfl
theorem lp_cons {tg : VTg} {body : VF} {x : PV} {xs : List PV} {ρ ρ1 ρ' : PEnv} (h1 : tg x ρ = some ρ1) (h2 : body ρ1 = some (.nx ρ')) : vLoop tg body (x :: xs) ρ = vLoop tg body xs ρ' := by
  rw [vLoop]; simp only [h1, h2]
theorem gl_cons {tg : VTg} {F : VF} {G : VR} {x : PV} {xs : List PV} {ρ ρ1 ρ' : PEnv} (h1 : tg x ρ = some ρ1) (h2 : G ρ1 = none) (h3 : F ρ1 = some (.nx ρ')) : gLoop tg F G (x :: xs) ρ = gLoop tg F G xs ρ' := by
  rw [gLoop]; simp only [h1, h2, h3]
theorem gl_hit {tg : VTg} {F : VF} {G : VR} {x : PV} {xs : List PV} {ρ ρ1 : PEnv} {r : Nat × PEnv} (h1 : tg x ρ = some ρ1) (h2 : G ρ1 = some r) : gLoop tg F G (x :: xs) ρ = some r := by
  rw [gLoop]; simp only [h1, h2]
theorem gfor_at {it : VL} {tg : VTg} {F : VF} {G : VR} {ρ : PEnv} {xs : List PV} (h : it ρ = some xs) : gFor it tg F G ρ = gLoop tg F G xs ρ := by unfold gFor; rw [h]; rfl
noncomputable def ledB : VF := (vSeq (vIf (bOf (x2 pEq (x2 pIxT (xVarS 2) (xC (.int (0)))) (xC (.str "found"))))
  vNone
  vSkip)
  (vSetS 2 (xIf (bOf (xVarS 3)) (x2 pIxT (xVarS 2) (xC (.int (3)))) (x2 pIxT (xVarS 2) (xC (.int (2)))))))
noncomputable def ledG : VR := (gIf (bOf (x2 pEq (x2 pIxT (xVarS 2) (xC (.int (0)))) (xC (.str "found"))))
  (gRaise 7)
  gNone)
abbrev lr (A B : PV) (p : Pl) (s : Option (PV × Fl)) : PEnv := [some (A, .shr), some (B, .shr), some (p.pv, .shr), s]
theorem ledB_ask (A B : PV) (v : Int) (g b : Pl) (a : Bool) : ledB (lr A B (.ask v g b) (some (.bl a, .shr))) = some (.nx (lr A B (if a = true then b else g) (some (.bl a, .shr)))) := by
  show ledB [some (A, .shr), some (B, .shr), some (.tup [.str "ask", .int v, g.pv, b.pv], .shr), some (.bl a, .shr)] = _
  unfold ledB
  cases a
  · (repeat (first | walk_at "evx" | simp (discharger := walk_at "evd") only [at0, at2, at3, neq]))
  · (repeat (first | walk_at "evx" | simp (discharger := walk_at "evd") only [at0, at2, at3, neq]))
theorem ledG_ask (A B : PV) (v : Int) (g b : Pl) (s : Option (PV × Fl)) : ledG (lr A B (.ask v g b) s) = none := by
  show ledG [some (A, .shr), some (B, .shr), some (.tup [.str "ask", .int v, g.pv, b.pv], .shr), s] = _
  unfold ledG
  (repeat (first | walk_at "evx" | simp (discharger := walk_at "evd") only [at0, neq]))
theorem ledG_fd (A B : PV) (v : Int) (s : Option (PV × Fl)) : ledG (lr A B (.fd v) s) = some (7, lr A B (.fd v) s) := by
  show ledG [some (A, .shr), some (B, .shr), some (.tup [.str "found", .int v], .shr), s] = _
  unfold ledG
  (repeat (first | walk_at "evx" | simp (discharger := walk_at "evd") only [at0, eqq]))
  rfl
theorem ledL (A B : PV) : ∀ (as : List Bool) (p q : Pl) (s : Option (PV × Fl)), p.go as = some q → ∃ s', vLoop (gN 3) ledB (as.map PV.bl) (lr A B p s) = some (.nx (lr A B q s')) ∧ gLoop (gN 3) ledB ledG (as.map PV.bl) (lr A B p s) = none
  | [], p, q, s, h => by
    have : p = q := by cases p <;> (simp only [Pl.go, Option.some.injEq] at h; exact h)
    subst this
    exact ⟨s, rfl, rfl⟩
  | a :: as, .fd v, q, s, h => by simp only [Pl.go] at h; cases h
  | a :: as, .ask v g b, q, s, h => by
    simp only [Pl.go] at h
    obtain ⟨s', e1, e2⟩ := ledL A B as _ q (some (.bl a, .shr)) h
    refine ⟨s', ?_, ?_⟩
    · exact (lp_cons (ρ1 := lr A B (.ask v g b) (some (.bl a, .shr))) rfl (ledB_ask A B v g b a)).trans e1
    · exact (gl_cons (ρ1 := lr A B (.ask v g b) (some (.bl a, .shr))) rfl (ledG_ask ..) (ledB_ask A B v g b a)).trans e2
theorem ledX (A B : PV) : ∀ (as : List Bool) (p : Pl) (s : Option (PV × Fl)), p.go as = none → ∃ ρ', gLoop (gN 3) ledB ledG (as.map PV.bl) (lr A B p s) = some (7, ρ')
  | [], p, s, h => by cases p <;> (simp only [Pl.go] at h; cases h)
  | a :: as, .fd v, s, h => ⟨_, gl_hit (ρ1 := lr A B (.fd v) (some (.bl a, .shr))) rfl (ledG_fd ..)⟩
  | a :: as, .ask v g b, s, h => by
    simp only [Pl.go] at h
    obtain ⟨ρ', e⟩ := ledX A B as _ (some (.bl a, .shr)) h
    exact ⟨ρ', (gl_cons (ρ1 := lr A B (.ask v g b) (some (.bl a, .shr))) rfl (ledG_ask ..) (ledB_ask A B v g b a)).trans e⟩
abbrev bls (as : List Bool) : PV := .lst (as.map PV.bl)
theorem itBls {i : Nat} {ρ : PEnv} {as : List Bool} (h : xVarS i ρ = some (bls as)) : itL (xVarS i) ρ = some (as.map PV.bl) := by unfold itL; rw [h]; rfl
theorem f_led_at {p q : Pl} {as : List Bool} (h : p.go as = some q) : f_led [p.pv, bls as] = some q.pv := by
  obtain ⟨s', e1, _⟩ := ledL p.pv (bls as) as p q none h
  refine q_fnrt (b := false) rfl ?_ rfl
  show m_led [some (p.pv, .shr), some (bls as, .shr), none, none] = _
  have hi : itL (xVarS 1) (lr p.pv (bls as) p none) = some (as.map PV.bl) := itBls rfl
  unfold ledB at e1
  unfold m_led
  (repeat (first | walk_at "evx" | simp (discharger := walk_at "evd") only [hi, e1]))
theorem x_led_n {p q : Pl} {as : List Bool} (h : p.go as = some q) : x_led [p.pv, bls as] = none := by
  obtain ⟨s', _, e2⟩ := ledL p.pv (bls as) as p q none h
  refine gn_at rfl ?_
  show (g_led [some (p.pv, .shr), some (bls as, .shr), none, none]).map _ = _
  have hl : gFor (itL (xVarS 1)) (gN 3) ledB ledG (lr p.pv (bls as) p none) = none := (gfor_at (itBls rfl)).trans e2
  unfold ledB ledG at hl
  unfold g_led
  (repeat (first | walk_at "evx" | simp (discharger := walk_at "evd") only [hl]))
  rfl
theorem x_led_s {p : Pl} {as : List Bool} (h : p.go as = none) : x_led [p.pv, bls as] = some 7 := by
  obtain ⟨ρ', e2⟩ := ledX p.pv (bls as) as p none h
  refine gn_at rfl ?_
  show (g_led [some (p.pv, .shr), some (bls as, .shr), none, none]).map _ = _
  have hl : gFor (itL (xVarS 1)) (gN 3) ledB ledG (lr p.pv (bls as) p none) = some (7, ρ') := (gfor_at (itBls rfl)).trans e2
  unfold ledB ledG at hl
  unfold g_led
  (repeat (first | walk_at "evx" | simp (discharger := walk_at "evd") only [hl]))
theorem tried_ok {p q : Pl} {as : List Bool} (h : p.go as = some q) : f__law_tried [p.pv, bls as] = some (.tup [.str "led", q.pv]) := by
  refine q_fnrt (b := false) rfl ?_ rfl
  show m__law_tried [some (p.pv, .shr), some (bls as, .shr), none] = _
  have h1 := x_led_n h
  have h2 := f_led_at h
  unfold m__law_tried
  (repeat (first | walk_at "evx" | simp (discharger := walk_at "evd") only [h1, h2]))
theorem tried_no {p : Pl} {as : List Bool} (h : p.go as = none) : f__law_tried [p.pv, bls as] = some (.tup [.str "asking", .non]) := by
  refine q_fnrt (b := false) rfl ?_ rfl
  show m__law_tried [some (p.pv, .shr), some (bls as, .shr), none] = _
  have h1 := x_led_s h
  unfold m__law_tried
  (repeat (first | walk_at "evx" | simp (discharger := walk_at "evd") only [h1]))
end K47
namespace K47
open PySem L2
def Pl.lf : Pl → List Bool → Pl
  | p, [] => p
  | .fd v, _ :: _ => .fd v
  | .ask _ g b, a :: as => (if a = true then b else g).lf as
def Pl.us : Pl → List Bool → Nat
  | _, [] => 0
  | .fd _, _ :: _ => 0
  | .ask _ g b, a :: as => (if a = true then b else g).us as + 1
theorem lf_nil (p : Pl) : p.lf [] = p := by cases p <;> rfl
theorem us_nil (p : Pl) : p.us [] = 0 := by cases p <;> rfl
theorem go_nil (p : Pl) : p.go [] = some p := by cases p <;> rfl
theorem go_take : ∀ (as : List Bool) (p : Pl), p.go (as.take (p.us as)) = some (p.lf as)
  | [], p => by rw [List.take_nil, go_nil, lf_nil]
  | a :: as, .fd v => rfl
  | a :: as, .ask v g b => by
    show (Pl.ask v g b).go (List.take ((if a = true then b else g).us as + 1) (a :: as)) = _
    rw [List.take_succ_cons]
    exact go_take as _
theorem go_all : ∀ (as : List Bool) (p q : Pl), p.go as = some q → q = p.lf as
  | [], p, q, h => by rw [go_nil] at h; cases h; rw [lf_nil]
  | a :: as, .fd v, q, h => by cases h
  | a :: as, .ask v g b, q, h => go_all as _ q h
theorem go_len : ∀ (as : List Bool) (p q : Pl), p.go as = some q → q.len + (as.length : Int) ≤ p.len
  | [], p, q, h => by rw [go_nil] at h; cases h; simp
  | a :: as, .fd v, q, h => by cases h
  | a :: as, .ask v g b, q, h => by
    have ih := go_len as (if a = true then b else g) q h
    show q.len + ((as.length + 1 : Nat) : Int) ≤ 1 + (if b.len > g.len then b.len else g.len)
    cases a
    · have : q.len + (as.length : Int) ≤ g.len := ih
      split <;> omega
    · have : q.len + (as.length : Int) ≤ b.len := ih
      split <;> omega
theorem go_d : ∀ (as : List Bool) (p q : Pl), p.go as = some q → q.d ≤ p.d
  | [], p, q, h => by rw [go_nil] at h; cases h; exact Nat.le_refl _
  | a :: as, .fd v, q, h => by cases h
  | a :: as, .ask v g b, q, h => by
    have ih := go_d as (if a = true then b else g) q h
    show q.d ≤ 1 + max g.d b.d
    cases a
    · have : q.d ≤ g.d := ih
      omega
    · have : q.d ≤ b.d := ih
      omega
noncomputable def lawB : VF := (vIf (bOf (x2 pEq (x2 pIxT (xVarS 4) (xC (.int (0)))) (xC (.str "found"))))
  (vSetS 5 (xC (.str "asking")))
  (vSeq (vSetS 6 (x2 pAdd (xVarS 6) (xC (.int (1)))))
  (vSetS 4 (x2 pIxT (xVarS 4) (x2 pAdd (xC (.int (2))) (xL pIntB (lCons (xVarS 7) lNil)))))))
abbrev lE (ns : List Int) (t : Pl) (c : Int) (as : List Bool) (p : Pl) (due : Str) (u : Int) (s7 s8 s9 s10 : Option (PV × Fl)) : PEnv := [some (.scr ns, .shr), some (t.pv, .shr), some (.int c, .shr), some (bls as, .shr), some (p.pv, .shr), some (.str due, .shr), some (.int u, .shr), s7, s8, s9, s10]
theorem lawB_fd (ns : List Int) (t : Pl) (c : Int) (as : List Bool) (v : Int) (due : Str) (u : Int) (s7 : Option (PV × Fl)) : lawB (lE ns t c as (.fd v) due u s7 none none none) = some (.nx (lE ns t c as (.fd v) "asking" u s7 none none none)) := by
  show lawB [some (.scr ns, .shr), some (t.pv, .shr), some (.int c, .shr), some (bls as, .shr), some (.tup [.str "found", .int v], .shr), some (.str due, .shr), some (.int u, .shr), s7, none, none, none] = _
  unfold lawB
  (repeat (first | walk_at "evx" | simp (discharger := walk_at "evd") only [at0, eqq]))
  try rfl
theorem lawB_ask (ns : List Int) (t : Pl) (c : Int) (as : List Bool) (v : Int) (g b : Pl) (due : Str) (u : Int) (a : Bool) : lawB (lE ns t c as (.ask v g b) due u (some (.bl a, .shr)) none none none) = some (.nx (lE ns t c as (if a = true then b else g) due (u + 1) (some (.bl a, .shr)) none none none)) := by
  show lawB [some (.scr ns, .shr), some (t.pv, .shr), some (.int c, .shr), some (bls as, .shr), some (.tup [.str "ask", .int v, g.pv, b.pv], .shr), some (.str due, .shr), some (.int u, .shr), some (.bl a, .shr), none, none, none] = _
  unfold lawB
  have e2 : (2 : Int) + 0 = 2 := rfl
  have e3 : (2 : Int) + 1 = 3 := rfl
  cases a
  · (repeat (first | walk_at "evx" | simp (discharger := walk_at "evd") only [at0, at2, at3, neq, e2, e3]))
    try rfl
  · (repeat (first | walk_at "evx" | simp (discharger := walk_at "evd") only [at0, at2, at3, neq, e2, e3]))
    try rfl
theorem lawL (ns : List Int) (t : Pl) (c : Int) (as0 : List Bool) : ∀ (as : List Bool) (p : Pl) (due : Str) (u : Int) (s7 : Option (PV × Fl)), ∃ s7', vLoop (gN 7) lawB (as.map PV.bl) (lE ns t c as0 p due u s7 none none none) = some (.nx (lE ns t c as0 (p.lf as) (if p.go as = none then "asking" else due) (u + (p.us as : Nat)) s7' none none none))
  | [], p, due, u, s7 => ⟨s7, by
    rw [lf_nil, us_nil, go_nil, if_neg (by intro z; cases z), Int.natCast_zero, Int.add_zero]; rfl⟩
  | a :: as, .fd v, due, u, s7 => by
    obtain ⟨s', e⟩ := lawL ns t c as0 as (.fd v) "asking" u (some (.bl a, .shr))
    refine ⟨s', (lp_cons (ρ1 := lE ns t c as0 (.fd v) due u (some (.bl a, .shr)) none none none) rfl (lawB_fd ..)).trans ?_⟩
    rw [e]
    have h1 : (Pl.fd v).lf as = .fd v := by cases as <;> rfl
    have h2 : (Pl.fd v).us as = 0 := by cases as <;> rfl
    rw [h1, h2, ite_self]
    rfl
  | a :: as, .ask v g b, due, u, s7 => by
    obtain ⟨s', e⟩ := lawL ns t c as0 as (if a = true then b else g) due (u + 1) (some (.bl a, .shr))
    refine ⟨s', (lp_cons (ρ1 := lE ns t c as0 (.ask v g b) due u (some (.bl a, .shr)) none none none) rfl (lawB_ask ..)).trans ?_⟩
    rw [e]
    have h2 : u + 1 + (((if a = true then b else g).us as : Nat) : Int) = u + (((Pl.ask v g b).us (a :: as) : Nat) : Int) := by
      show _ = u + (((if a = true then b else g).us as + 1 : Nat) : Int)
      omega
    rw [h2]
    rfl
theorem simP : ∀ (p : Pl) (n : Nat), p.d < n → simk n p.pv p.pv = true
  | .fd v, n + 1, h => by
    show simks n [.str "found", .int v] [.str "found", .int v] = true
    cases n <;> simp [simks, simk]
  | .ask v g b, n + 1, h => by
    have h1 : 1 + max g.d b.d < n + 1 := h
    have hg := simP g n (by omega)
    have hb := simP b n (by omega)
    show simks n [.str "ask", .int v, g.pv, b.pv] [.str "ask", .int v, g.pv, b.pv] = true
    obtain ⟨m, rfl⟩ : ∃ m, n = m + 1 := ⟨n - 1, by omega⟩
    simp only [simks, simk, hg, hb, Bool.and_self]
theorem neP (p : Pl) (h : p.d < 8) : pNeT 8 p.pv p.pv = some (.bl false) := by
  have hs := simP p 9 (by omega)
  cases p with
  | fd v =>
    have : simks 8 [.str "found", .int v] [.str "found", .int v] = true := hs
    show pNeT 8 (.tup [.str "found", .int v]) (.tup [.str "found", .int v]) = _
    simp only [pNeT]
    rw [if_pos this]
    simp [peq]
  | ask v g b =>
    have : simks 8 [.str "ask", .int v, g.pv, b.pv] [.str "ask", .int v, g.pv, b.pv] = true := hs
    show pNeT 8 (.tup [.str "ask", .int v, g.pv, b.pv]) (.tup [.str "ask", .int v, g.pv, b.pv]) = _
    simp only [pNeT]
    rw [if_pos this]
    simp [peq]
theorem simB : ∀ (n : Nat) (as : List Bool), simks n (as.map PV.bl) (as.map PV.bl) = true
  | n, [] => by simp [simks]
  | n, a :: as => by
    have : simk n (.bl a) (.bl a) = true := by cases n <;> rfl
    simp only [List.map_cons, simks, this, simB n as, Bool.and_self]
theorem neB (as : List Bool) : pEqL 3 true (bls as) (bls as) = some (.bl false) := by
  simp only [pEqL]
  rw [if_pos (simB 3 as)]
  simp [peq]
end K47
namespace K47
open PySem L2
theorem whole (i : Int) : f__law_whole [.int i] = some (.bl true) := rfl
theorem q1 : decide ((("led" : Str)) = "led") = true := by decide
theorem q2 : decide ((("led" : Str)) = "asking") = false := by decide
theorem q3 : decide ((("asking" : Str)) = "asking") = true := by decide
theorem q4 : decide ((("asking" : Str)) = "led") = false := by decide
theorem listB (as : List Bool) : pList [bls as] = some (bls as) := rfl
theorem lenBl (as : List Bool) : pLen [bls as] = some (.int (as.length : Nat)) := by
  show some (PV.int ((as.map PV.bl).length : Nat)) = _
  rw [List.length_map]
def pw (k : Nat) : Int := match k with | 0 => 1 | 1 => 2 | 2 => 4 | 3 => 8 | _ => 16
theorem pw_pos (k : Nat) : 0 < pw k ∧ pw k < 1073741824 := by unfold pw; split <;> omega
theorem mk5 (a b c d e : PV) : mkLst [a, b, c, d, e] = some (.lst [a, b, c, d, e]) := nodef rfl
theorem pw_at {k : Nat} (h : k < 5) : atI [PV.int 1, .int 2, .int 4, .int 8, .int 16] (0 + (k : Int)) = some (.int (pw k)) := by
  have : k = 0 ∨ k = 1 ∨ k = 2 ∨ k = 3 ∨ k = 4 := by omega
  rw [Int.zero_add]
  rcases this with rfl | rfl | rfl | rfl | rfl
  · exact atI_nat (j := 0) rfl
  · exact atI_nat (j := 1) rfl
  · exact atI_nat (j := 2) rfl
  · exact atI_nat (j := 3) rfl
  · exact atI_nat (j := 4) rfl
theorem lawOf (ns : List Int) : f_law [.scr ns] = some (.bl true) := by
  obtain ⟨t, td, ht⟩ := drawn 4 6 (by omega) (WB.cell ns 0)
  have ht : K47.f__law_drawn_plan 6 [.int (WB.cell ns 0), .int 4, .int 10] = some t.pv := ht
  have h0 : K47.f__law_cell_at [.scr ns, .int 0] = some (.int (WB.cell ns 0)) := hca ns 0
  have h1 : K47.f__law_cell_at [.scr ns, .int 1] = some (.int (WB.cell ns 1)) := hca ns 1
  have h2 : K47.f__law_cell_at [.scr ns, .int 2] = some (.int (WB.cell ns 2)) := hca ns 2
  have h3 : K47.f__law_cell_at [.scr ns, .int 3] = some (.int (WB.cell ns 3)) := hca ns 3
  have hm := Int.emod_nonneg (WB.cell ns 2) (show (6 : Int) ≠ 0 by omega)
  have hM := Int.emod_lt_of_pos (WB.cell ns 2) (show (0 : Int) < 6 by omega)
  obtain ⟨as, hal, has⟩ : ∃ as : List Bool, as.length ≤ 5 ∧ xComp [none, some 2] (itR1 (lCons (x2 pMod (xL f__law_cell_at (lCons (xVarS 0) (lCons (xC (.int (2))) lNil))) (xC (.int (6)))) lNil)) (gN 0) bTrue (x2 pEq (x2 pMod (x2 pDiv (xVarS 1) (x2 pIxL (xL mkLst (fun _ => some [(.int (1)), (.int (2)), (.int (4)), (.int (8)), (.int (16))])) (xVarS 0))) (xC (.int (2)))) (xC (.int (1))))
      [some (.scr ns, .shr), some (t.pv, .shr), some (.int (WB.cell ns 1), .shr), none, none, none, none, none, none, none, none] = some (bls as) := by
    refine ⟨(List.range (WB.cell ns 2 % 6).toNat).map fun k => decide (WB.cell ns 1 / pw k % 2 = 1), by rw [List.length_map, List.length_range]; omega, ?_⟩
    unfold bls
    rw [List.map_map]
    refine e_comp (xs := (List.range (WB.cell ns 2 % 6).toNat).map fun k => PV.int (0 + (k : Nat))) ?_ (by rw [List.length_map, List.length_range]; omega) ?_
    · exact q_itR1 (j := WB.cell ns 2 % 6) (by (repeat (first | walk_at "evx" | simp (discharger := walk_at "evd") only [h2]))) (by omega)
    · refine e_map (fun k : Nat => PV.int (0 + (k : Nat))) _ (fun ρ => ∃ s, ρ = [s, some (.int (WB.cell ns 1), .shr)]) _ _ ⟨none, rfl⟩ ?_
      rintro k hk ρ ⟨s, rfl⟩
      have hk := List.mem_range.mp hk
      have hp := pw_at (k := k) (by omega)
      obtain ⟨p1, p2⟩ := pw_pos k
      refine ⟨[some (.int (0 + (k : Nat)), .shr), some (.int (WB.cell ns 1), .shr)], rfl, ⟨_, rfl⟩, ?_⟩
      (repeat (first | walk_at "evx" | simp (discharger := walk_at "evd") only [hp, mk5]))
      try rfl
  obtain ⟨s7, hl⟩ := lawL ns t (WB.cell ns 1) as as t "led" 0 none
  have hi : itL (xVarS 3) (lE ns t (WB.cell ns 1) as t "led" 0 none none none none) = some (as.map PV.bl) := itBls rfl
  unfold lawB at hl
  rw [Int.zero_add] at hl
  refine q_fnrt (b := false) rfl ?_ rfl
  show m_law [some (.scr ns, .shr), none, none, none, none, none, none, none, none, none, none] = _
  have cut : slO (some (bls as)) (some none) (some (some ((t.us as : Nat) : Int))) = some (bls (as.take (t.us as))) := by
    unfold bls
    rw [E_sl_s, WB.cut_to]
  unfold m_law
  by_cases hodd : WB.cell ns 3 % 2 = 1
  · have g1 := tried_ok (go_take as t)
    have gd := go_d _ t _ (go_take as t)
    have g2 := neP (t.lf as) (by omega)
    have g3 := lenA t 6 (by omega)
    have g4 := lenB t 6 (by omega)
    have g5 := lenA (t.lf as) 6 (by omega)
    have g7 := neB (as.take (t.us as))
    have g8 : decide ((t.lf as).len + (((as.take (t.us as))).length : Int) ≤ t.len) = true := decide_eq_true (go_len _ t _ (go_take as t))
    (repeat (first | walk_at "evx" | simp (discharger := walk_at "evd") only [h0, h1, ht, has, hi, hl, h3, decide_eq_true hodd, WB.cut_to, g1, g2, g3, g4, g5, g7, g8, listB, lenBl, whole, at0, at1, q1, q2, List.length_map]))
  · cases hg : t.go as with
    | none =>
      rw [hg, if_pos rfl] at hl
      have g1 := tried_no hg
      have g3 := lenA t 6 (by omega)
      have g4 := lenB t 6 (by omega)
      have g7 := neB as
      (repeat (first | walk_at "evx" | simp (discharger := walk_at "evd") only [h0, h1, ht, has, hi, hl, h3, decide_eq_false hodd, g1, g3, g4, g7, listB, whole, at0, at1, q3, q4]))
    | some q =>
      rw [hg, if_neg (by intro z; cases z), ← go_all as t q hg] at hl
      have g1 := tried_ok (hg)
      have gd := go_d _ t _ (hg)
      have g2 := neP q (by omega)
      have g3 := lenA t 6 (by omega)
      have g4 := lenB t 6 (by omega)
      have g5 := lenA q 6 (by omega)
      have g7 := neB as
      have g8 : decide (q.len + ((as).length : Int) ≤ t.len) = true := decide_eq_true (go_len _ t _ (hg))
      (repeat (first | walk_at "evx" | simp (discharger := walk_at "evd") only [h0, h1, ht, has, hi, hl, h3, decide_eq_false hodd, g1, g2, g3, g4, g5, g7, g8, listB, lenBl, whole, at0, at1, q1, q2, List.length_map]))
end K47
namespace L2
open PySem
def noLst (K : PySem.W.Frag) : Bool := K.all fun p => match p.2.cls, p.2.data with
  | .type t, .seq _ _ => !(t == "list")
  | _, _ => true
theorem noLst_at {K : PySem.W.Frag} (h : noLst K = true) {a : Addr} {o : Obj} {its : Array Value} {n : Nat} (e : K.lookup a = some o) (hc : o.cls = .type "list") (hd : o.data = .seq its n) : False := by
  have hm : (a, o) ∈ K := by
    clear h
    induction K with
    | nil => cases e
    | cons p r ih =>
      obtain ⟨b, x⟩ := p
      simp only [List.lookup] at e
      split at e
      · rename_i q; cases e; rw [beq_iff_eq.mp q]; exact List.mem_cons_self
      · exact List.mem_cons_of_mem _ (ih e)
  have := List.all_eq_true.mp h _ hm
  simp only [hc, hd] at this
  exact absurd this (by decide)
theorem sp_at {K : PySem.W.Frag} {f : List PV → Option PV} (h : noLst K = true) {H : Hp} {a : Addr} {ns : List Int} {E : XK} (hf : f [.scr ns] = some (.bl true)) (hS : SqL K H a (ns.map V.int)) : spV false f [.ref a] H (fun v _ => v = .bl true) E := by
  rcases hS with r | ⟨o, its, n, e, hc, _, hd, _⟩
  · refine ⟨fun b => b = a, [.scr ns], .bl true, fun b hb => ?_, Reps.one (rep_scr.mpr ⟨a, rfl, rfl, r⟩), hf, fun v H' U' _ hr => ?_⟩
    · rw [hb]; exact Rd.dom r
    · exact (rep_bl (U := U') (H := H')).mp hr
  · exact (noLst_at h e hc hd).elim
section
variable {K : PySem.W.Frag} {h : Heap} {mg : Str → Option Value} {x : Str} {st : Stmt} {ps : List Str} {f fa : Addr} {oc kV doc pm cdv ct : Value} {od an : Option Addr} {osl : Array (Option Value)}
theorem df_mk (X : K.In h) (G : h.Ns mainGlobals mg) (a : PySem.W.nsIn K mainGlobals x = some (some (.ref f))) (l : K.lookup f = some ⟨oc, od, .func (PySem.W.fnOf x x (defArgs st) (defBody st) (defScope st) .none kV doc pm an cdv ct), osl⟩) (c : PySem.W.codeIn K cdv x = true) (k : PySem.W.keepIn K (.ref f) = true)
    (hb : ∀ (kV doc pm : Value) (an : Option Addr) (cdv ct : Value) (us : List Value), us.length = ps.length → bindArgs (PySem.W.fnOf x x (defArgs st) (defBody st) (defScope st) .none kV doc pm an cdv ct) ⟨us, []⟩ = pure (ps.zip us)) : Df K mg x st ps := ⟨_, _, PySem.W.mg_of X G a, fun_mk l c k, (fun_mk l c k).binds hb⟩
theorem blt0 : Blt mg [] := ⟨fun x h => by cases h⟩
theorem blt1 {l : List Str} (X : K.In h) (G : h.Ns mainGlobals mg) (z : PySem.W.nsIn K mainGlobals x = some none) (r : Blt mg l) : Blt mg (x :: l) := ⟨fun y hy => by
  rw [List.contains_cons, Bool.or_eq_true] at hy
  rcases hy with hy | hy
  · rw [beq_iff_eq.mp hy]; exact PySem.W.mg_none_of X G z
  · exact r.h y hy⟩
theorem law_mk {P : Program} {w : World} {g : List PV → Option PV} {k : Nat} (X : K.In h) (G : h.Ns mainGlobals mg) (hfa : mg "law" = some (.ref fa)) (a : PySem.W.nsIn K mainGlobals "law" = some (some (.ref f))) (l : K.lookup f = some ⟨oc, od, .func (PySem.W.fnOf "law" "law" (defArgs st) (defBody st) (defScope st) .none kV doc pm an cdv ct), osl⟩) (c : PySem.W.codeIn K cdv "law" = true) (k' : PySem.W.keepIn K (.ref f) = true)
    (hb : ∀ (s : Shared) (v : Value), BindsTo s (PySem.W.fnOf "law" "law" (defArgs st) (defBody st) (defScope st) .none kV doc pm an cdv ct) ⟨[v], []⟩ [("script", v)]) (ok : ∀ (base : Heap) (a : Addr) (d : FuncData), Fun K "law" "law" st a d → FnOk P w K mg base CX0 k a d ["script"] (spV false g)) :
    ∃ fd : FuncData, (∀ (s : Shared) (v : Value), BindsTo s fd ⟨[v], []⟩ [("script", v)]) ∧ ∀ base : Heap, K.In base → base.Ns mainGlobals mg → FnOk P w K mg base CX0 k fa fd ["script"] (spV false g) := by
  have e := hfa.symm.trans (PySem.W.mg_of X G a)
  cases e
  exact ⟨_, hb, fun base _ _ => ok base _ _ (fun_mk l c k')⟩
end
theorem walkL {l : PySem.W.OpenLaw} {q : Program} {loose : List Str} {XP : (Str → Option Value) → Heap → Prop} {YP : World → Heap → Prop} {d : DefRec} {K : Params → PySem.W.Frag} {g : List PV → Option PV} {k : Nat} (hn : l.most = some 63) (hdf : d.params.defaults = [])
    (hY : ∀ (w : World) (h : Heap), YP w h → (K w.params).In h) (hr : Room k callerA) (hg : ∀ ns : List Int, g [.scr ns] = some (.bl true)) (nl : ∀ w : World, noLst (K w.params) = true)
    (F : ∀ (w : World) (mg : Str → Option Value) (fa : Addr) (h : Heap), (K w.params).In h → h.Ns mainGlobals mg → mg d.name = some (.ref fa) →
      ∃ fd : FuncData, (∀ (s : Shared) (u : Value), BindsTo s fd ⟨[u], []⟩ [("script", u)]) ∧ ∀ base : Heap, (K w.params).In base → base.Ns mainGlobals mg → FnOk l.prog w (K w.params) mg base CX0 k fa fd ["script"] (spV false g)) :
    PySem.W.WalkO q loose XP YP l.row.toRowW d [] (fun f vs => PySem.call f vs) :=
  L2.walk_of (n := 63) (k := k) (x := "script") (CX := fun _ => CX0) (sp := fun w => spV false g) hn (by decide) hdf hr hY F (fun w H a ns hl _ hS => sp_at (nl w) (hg ns) hS) fun _ _ _ _ _ z => z
end L2
local macro_rules | `(tactic| tm_at "kd") => `(tactic| first
  | ((with_reducible show L2.Df _ _ _ _ _); apply L2.df_mk; assumption; assumption; k_is; k_is; k_is; k_is; first | (exact fun _ _ _ _ _ _ us hl => (match us, hl with | [_], _ => rfl)) | (exact fun _ _ _ _ _ _ us hl => (match us, hl with | [_, _], _ => rfl)) | (exact fun _ _ _ _ _ _ us hl => (match us, hl with | [_, _, _], _ => rfl)))
  | (apply PySem.W.mg_of; assumption; assumption; k_is)
  | k_exc | kts_exm | kit_is | (apply PySem.W.ExCls.mk <;> k_is))
open PySem PySem.W PyProof.Rows
set_option maxRecDepth 100000 in
set_option maxHeartbeats 0 in
theorem PySem.Challenge.cw_pasthall_k47_led_holds : PySem.Challenge.rw_pasthall_k47_led.Holds := by
  w_on; o_law; k_head; (case hw => w_witness2)
  k_fill
  refine L2.walkL (l := PySem.Challenge.rw_pasthall_k47_led) (k := 9) (g := K47.f_law) rfl rfl (fun w h Y => PySem.W.kIn_of Y) ⟨rfl, by decide, by decide⟩ K47.lawOf ?nolst ?F
  case nolst =>
    intro w
    rfl
  case F =>
    intro w mg fa h KX G hmg
    apply L2.law_mk (st := K47.s_law) KX G hmg
    k_is
    k_is
    k_is
    k_is
    exact fun s v => .of_eq rfl
    refine fun base a d F => K47.ok_law ?tprg F
    apply K47.Prg.mk
    (apply L2.blt1; assumption; assumption; k_is)
    (apply L2.blt1; assumption; assumption; k_is)
    (apply L2.blt1; assumption; assumption; k_is)
    (apply L2.blt1; assumption; assumption; k_is)
    (apply L2.blt1; assumption; assumption; k_is)
    (apply L2.blt1; assumption; assumption; k_is)
    (apply L2.blt1; assumption; assumption; k_is)
    (apply L2.blt1; assumption; assumption; k_is)
    exact L2.blt0
    all_goals tm_at "kd"
