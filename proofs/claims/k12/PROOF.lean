import PyProof.Rows.All
import Wide.All
import OpenK.AllK
import Wide.FinOn
import Lean
import PyProof.EqAt
import PyProof.EqKinds
import PyProof.TupleCall
import PySem.Challenge.RW_leftnumbers_k12_fractions_made
set_option Elab.async false
set_option linter.all false
set_option maxRecDepth 100000
/-! THE HAND LAYER, for ints, bools, texts, own classes, LISTS and tuples (index, slices, in, append, pop ..), calls, loops. Paste it whole ahead of your own text; what your proof does not reach may be deleted. -/
namespace L2
open PySem PySem.Spec PyProof.Rows
/-- a key: an int or a str -/
abbrev Key := Sum Int Str
def keyIs : Key → Value → Bool
  | .inl k, v => Value.isInt k v
  | .inr x, v => Value.isStrOf x v
def keyH (w : World) : Key → Int
  | .inl k => hashInt k
  | .inr x => hashStr w x
theorem keyIs_shape : ∀ {k : Key} {v : Value}, keyIs k v = true → (∃ i t, k = Sum.inl i ∧ v = Value.int i t) ∨ (∃ x t, k = Sum.inr x ∧ v = Value.str x t)
  | .inl i, v, h => by
    obtain ⟨t, e⟩ := Value.isInt_shape (k := i) (v := v) h
    exact .inl ⟨i, t, rfl, e⟩
  | .inr x, v, h => by
    obtain ⟨t, e⟩ := Value.isStrOf_shape (x := x) (v := v) h
    exact .inr ⟨x, t, rfl, e⟩
theorem key_ll (a b : Int) : decide ((Sum.inl a : Key) = Sum.inl b) = (a == b) := by
  by_cases e : a = b
  · subst e; simp
  · have h : ¬ (Sum.inl a : Key) = Sum.inl b := fun q => e (Sum.inl.inj q)
    rw [decide_eq_false h]
    exact (beq_eq_false_iff_ne.mpr e).symm
theorem key_rr (a b : Str) : decide ((Sum.inr a : Key) = Sum.inr b) = decide (a = b) := by
  by_cases e : a = b
  · subst e; simp
  · have h : ¬ (Sum.inr a : Key) = Sum.inr b := fun q => e (Sum.inr.inj q)
    rw [decide_eq_false h, decide_eq_false e]
theorem key_lr (a : Int) (b : Str) : decide ((Sum.inl a : Key) = Sum.inr b) = false := decide_eq_false (fun q => nomatch q)
theorem key_rl (a : Str) (b : Int) : decide ((Sum.inr a : Key) = Sum.inl b) = false := decide_eq_false (fun q => nomatch q)
def mixKind (prog : Program) (w : World) : PySem.KeyKind prog w Key where
  is := keyIs
  hash := keyH w
  inj := fun v a b ha hb => by
    rcases keyIs_shape ha with ⟨i, t, rfl, rfl⟩ | ⟨x, t, rfl, rfl⟩
    · rcases keyIs_shape hb with ⟨j, u, rfl, e⟩ | ⟨y, u, rfl, e⟩
      · injection e with e1 _; rw [e1]
      · exact nomatch e
    · rcases keyIs_shape hb with ⟨j, u, rfl, e⟩ | ⟨y, u, rfl, e⟩
      · exact nomatch e
      · injection e with e1 _; rw [e1]
  byValue := fun k v h => by
    rcases keyIs_shape h with ⟨i, t, rfl, rfl⟩ | ⟨x, t, rfl, rfl⟩ <;> rfl
  pyHash := fun hv h => by
    rcases keyIs_shape hv with ⟨i, t, rfl, rfl⟩ | ⟨x, t, rfl, rfl⟩
    · exact wpAny_pyHash_int h
    · exact wpAny_pyHash_str h
  eqBool := fun hu hv h => by
    rcases keyIs_shape hu with ⟨i, t, rfl, rfl⟩ | ⟨x, t, rfl, rfl⟩
    · rcases keyIs_shape hv with ⟨j, u, rfl, rfl⟩ | ⟨y, u, rfl, rfl⟩
      · rw [key_ll] at h; exact wpAny_eqBool_int h
      · rw [key_lr] at h; exact SeqAt.EqAt.int_str i t y u _ _ _ _ h
    · rcases keyIs_shape hv with ⟨j, u, rfl, rfl⟩ | ⟨y, u, rfl, rfl⟩
      · rw [key_rl] at h; exact SeqAt.EqAt.str_int x t j u _ _ _ _ h
      · rw [key_rr] at h; exact wpAny_eqBool_str h
  «strs» := fun k x t v h => by
    rcases keyIs_shape h with ⟨i, u, rfl, e⟩ | ⟨y, u, rfl, e⟩
    · exact nomatch e
    · injection e with e1 _
      subst e1
      cases v <;> rfl
end L2
namespace L2
open PySem PySem.Spec PyProof.Rows
/-- a value, without the heap -/
inductive V where
  | non | bl (b : Bool) | int (i : Int) | str (x : Str) | byt (b : Array UInt8) | flt (b : UInt64) | ref (a : Addr) | ty (n : String)
  deriving DecidableEq
def RelV : V → Value → Prop
  | .non, u => u = Value.none
  | .bl b, u => u = Value.bool b
  | .int i, u => ∃ t, u = Value.int i t
  | .str x, u => ∃ t, u = Value.str x t
  | .byt b, u => ∃ t, u = Value.bytes b t
  | .flt b, u => ∃ t, u = Value.float b t
  | .ref a, u => u = Value.ref a
  | .ty n, u => u = Value.type n
abbrev Vals : List V → List Value → Prop := Paired RelV
theorem Vals.length {xs : List V} {us : List Value} (r : Vals xs us) : xs.length = us.length := Paired.length r
theorem Vals.get : ∀ {xs : List V} {us : List Value} {i : Nat} {x : V}, Vals xs us → xs[i]? = some x → ∃ u, us[i]? = some u ∧ RelV x u
  | _, _, _, _, .nil, e => by simp at e
  | _, _, 0, _, .cons r _, e => by simp at e; subst e; exact ⟨_, rfl, r⟩
  | _, _, i + 1, x, .cons _ t, e => by
    obtain ⟨u, h1, h2⟩ := Vals.get (i := i) (x := x) t (by simpa using e)
    exact ⟨u, by simpa using h1, h2⟩
theorem Vals.append : ∀ {xs ys : List V} {us ws : List Value}, Vals xs us → Vals ys ws → Vals (xs ++ ys) (us ++ ws)
  | _, _, _, _, .nil, s => s
  | _, _, _, _, .cons r t, s => .cons r (Vals.append t s)
def RelO : Option V → Option Value → Prop
  | some v, some u => RelV v u
  | none, none => True
  | _, _ => False
def KV {κ : Type} : List (κ × V) → List (κ × Value) → Prop := Paired fun (p : κ × V) (q : κ × Value) => p.1 = q.1 ∧ RelV p.2 q.2
/-- a key of a dict (00_mix): an int or a text -/
def kV : Key → V
  | .inl i => .int i
  | .inr x => .str x
/-- what stands at a tracked address -/
inductive HO where
  /-- a list -/
  | lst (xs : List V)
  /-- a tuple (never changes) -/
  | tup (xs : List V)
  /-- a dict whose keys are ints and texts; one whose keys are tuples of ints and texts (the empty one is both) -/
  | dK (kvs : List (Key × V)) | dT (kvs : List (List Key × V))
  /-- a set of ints: its members, its size -/
  | set (S : Int → Bool) (n : Nat)
  /-- an instance of the class at C, its dict at dx, its attributes -/
  | ins (C dx : Addr) (fs : List (Str × V))
  /-- the dict of the instance at x -/
  | own (x : Addr)
  /-- the dict of an exception -/
  | xd (fs : List (Str × V))
  /-- a bound method, f of x -/
  | met (f x : Addr)
  /-- a range object lo, lo + 1, .. below hi -/
  | rng (lo hi : Int)
  /-- a thing that is known to the object (the script; a dict while a loop walks it): read, never written while it is so -/
  | frz (o : Obj) (u : HO)
  /-- a code object's table -/
  | tbl (ps : Array Value)
  /-- any other thing, by what is true of its one object (a def of one's own: SetO a S n := HO.ext fun h => ..) -/
  | ext (φ : Heap → Prop)
abbrev Hp := Addr → Option HO
def upd (H : Hp) (a : Addr) (o : HO) : Hp := fun b => if b = a then some o else H b
theorem upd_same {H : Hp} {a : Addr} {o : HO} : upd H a o a = some o := by unfold upd; rw [if_pos rfl]
theorem upd_ne {H : Hp} {a b : Addr} {o : HO} (h : b ≠ a) : upd H a o b = H b := by unfold upd; rw [if_neg h]
theorem ne_of_none {H : Hp} {a b : Addr} {o : HO} (h : H a = some o) (h' : H b = none) : a ≠ b := by
  intro e; subst e; rw [h] at h'; cases h'
section
variable (P : Program) (w : World)
def ObjOk (H : Hp) (h : Heap) (a : Addr) : HO → Prop
  | .lst xs => xs.length ≤ sizeLine ∧ ∃ (its : List Value) (n : Nat), Vals xs its ∧ h.get? a = some { cls := .type "list", data := .seq its.toArray n }
  | .tup xs => xs.length ≤ sizeLine ∧ ∃ its : List Value, Vals xs its ∧ IsTup h a its.toArray
  | .dK kvs => kvs.length ≤ sizeLine ∧ (a == sysModules) = false ∧ ∃ vs, KV kvs vs ∧ h.DictOf (mixKind P w) a vs
  | .dT kvs => kvs.length ≤ sizeLine ∧ (a == sysModules) = false ∧ ∃ xs : List (List Key × Addr × Value),
      Paired (fun (p : List Key × V) (q : List Key × Addr × Value) => p.1 = q.1 ∧ H q.2.1 = some (.tup (p.1.map kV)) ∧ RelV p.2 q.2.2) kvs xs ∧
      ∃ o es ep, h.get? a = some o ∧ o.ExactDict ∧ o.data = .dict es ep ∧ es.toList = xs.map (entryOfKey (tupleKind (mixKind P w))) ∧ (xs.map (·.1)).Nodup
  | .set S n => h.SetOf (intKind P w) a S n
  | .ins C dx fs => H dx = some (.own a) ∧ fs.length ≤ 1000 ∧ dx ≠ a ∧ h.get? a = some (PySem.W.instObj C dx) ∧
      ∃ mA, h.Ns1 dx mA ∧ (∀ f, RelO (fs.lookup f) (mA f)) ∧ PySem.Within mA (fs.map (·.1))
  | .own _ => ∃ o, h.get? a = some o
  | .xd fs => ∃ mA, h.Ns1 a mA ∧ ∀ f, RelO (fs.lookup f) (mA f)
  | .rng lo hi => ∃ t u v, h.get? a = some { cls := .type "range", data := .fields #[.int lo t, .int hi u, .int 1 v] }
  | .frz o u => h.get? a = some o ∧ ObjOk H h a u
  | .tbl ps => h.get? a = some { cls := .none, data := .fields ps }
  | .met f x => h.get? a = some (PySem.W.methodObj (.ref f) (.ref x))
  | .ext φ => φ h ∧ (∃ o, h.get? a = some o) ∧ ∀ h1 h2 : Heap, φ h1 → (∀ o, h1.get? a = some o → h2.get? a = some o) → φ h2
/-- the abstract heap is held -/
def HOk (H : Hp) (h : Heap) : Prop := ∀ a o, H a = some o → ObjOk P w H h a o
end
section
variable {P : Program} {w : World} {H H' : Hp} {h h' : Heap} {a : Addr} {o : HO}
theorem ObjOk.lt (x : ObjOk P w H h a o) : a < h.objs.size := by
  cases o with
  | lst xs => obtain ⟨_, _, _, _, e⟩ := x; exact Heap.lt_size e
  | tup xs => obtain ⟨_, _, _, p⟩ := x; exact p.lt
  | dK kvs => obtain ⟨_, _, _, _, o, _, _, e, _⟩ := x; exact Heap.lt_size e
  | dT kvs => obtain ⟨_, _, _, _, o, _, _, e, _⟩ := x; exact Heap.lt_size e
  | set S n => obtain ⟨o, _, _, _, e, _⟩ := x; exact Heap.lt_size e
  | ins C dx fs => obtain ⟨_, _, _, e, _⟩ := x; exact Heap.lt_size e
  | own y => obtain ⟨_, e⟩ := x; exact Heap.lt_size e
  | xd fs => obtain ⟨_, ⟨_, _, _, e, _⟩, _⟩ := x; exact Heap.lt_size e
  | rng lo hi => obtain ⟨_, _, _, e⟩ := x; exact Heap.lt_size e
  | frz ob u => obtain ⟨e, _⟩ := x; exact Heap.lt_size e
  | tbl ps => exact Heap.lt_size (show h.get? a = some _ from x)
  | met f y => exact Heap.lt_size (show h.get? a = some _ from x)
  | ext φ => obtain ⟨_, ⟨_, e⟩, _⟩ := x; exact Heap.lt_size e
theorem Paired.mapP {α β : Type} {F G : α → β → Prop} : ∀ {l₁ : List α} {l₂ : List β}, Paired F l₁ l₂ → (∀ a b, F a b → G a b) → Paired G l₁ l₂
  | _, _, .nil, _ => .nil
  | _, _, .cons r t, f => .cons (f _ _ r) (Paired.mapP t f)
/-- what an object's description leans on: its own object, its own dict, the tuples -/
theorem ObjOk.stay (x : ObjOk P w H h a o) (k : ∀ b u, (b = a ∨ H b = some (.own a)) → h.get? b = some u → h'.get? b = some u)
    (ho : ∀ b, H b = some (.own a) → H' b = some (.own a)) (ht : ∀ b xs, H b = some (.tup xs) → H' b = some (.tup xs)) : ObjOk P w H' h' a o := by
  induction o with
  | lst xs => obtain ⟨z, its, n, r, e⟩ := x; exact ⟨z, its, n, r, k _ _ (.inl rfl) e⟩
  | tup xs => obtain ⟨z, its, r, ob, e, c⟩ := x; exact ⟨z, its, r, ob, k _ _ (.inl rfl) e, c⟩
  | dK kvs => obtain ⟨z, y, vs, r, ob, es, ep, e, c⟩ := x; exact ⟨z, y, vs, r, ob, es, ep, k _ _ (.inl rfl) e, c⟩
  | dT kvs =>
    obtain ⟨z, y, xs, r, ob, es, ep, e, c⟩ := x
    exact ⟨z, y, xs, Paired.mapP r fun p q z => ⟨z.1, ht _ _ z.2.1, z.2.2⟩, ob, es, ep, k _ _ (.inl rfl) e, c⟩
  | set S n => obtain ⟨ob, es, ep, t, e, c⟩ := x; exact ⟨ob, es, ep, t, k _ _ (.inl rfl) e, c⟩
  | ins C dx fs =>
    obtain ⟨d, z, ne, e, mA, ⟨od, es, ep, e2, c⟩, r⟩ := x
    exact ⟨ho _ d, z, ne, k _ _ (.inl rfl) e, mA, ⟨od, es, ep, k _ _ (.inr d) e2, c⟩, r⟩
  | own y => obtain ⟨ob, e⟩ := x; exact ⟨ob, k _ _ (.inl rfl) e⟩
  | xd fs => obtain ⟨mA, ⟨od, es, ep, e, c⟩, r⟩ := x; exact ⟨mA, ⟨od, es, ep, k _ _ (.inl rfl) e, c⟩, r⟩
  | rng lo hi => obtain ⟨t, u, v, e⟩ := x; exact ⟨t, u, v, k _ _ (.inl rfl) e⟩
  | frz ob u ih => obtain ⟨e, q⟩ := x; exact ⟨k _ _ (.inl rfl) e, ih q⟩
  | tbl ps =>
    have e : h.get? a = some { cls := .none, data := .fields ps } := x
    show h'.get? a = some { cls := .none, data := .fields ps }
    exact k a _ (.inl rfl) e
  | met f y =>
    have e : h.get? a = some (PySem.W.methodObj (.ref f) (.ref y)) := x
    show h'.get? a = some (PySem.W.methodObj (.ref f) (.ref y))
    exact k a _ (.inl rfl) e
  | ext φ => obtain ⟨p, ⟨o, e⟩, st⟩ := x; exact ⟨st _ _ p fun o q => k _ _ (.inl rfl) q, ⟨o, k _ _ (.inl rfl) e⟩, st⟩
theorem HOk.lt (x : HOk P w H h) (e : H a = some o) : a < h.objs.size := (x a o e).lt
theorem HOk.fresh (x : HOk P w H h) (e : h.objs.size ≤ a) : H a = none := by
  cases q : H a with
  | none => rfl
  | some u => exact absurd (Nat.lt_of_lt_of_le (x.lt q) e) (Nat.lt_irrefl _)
/-- every object of the heap is kept -/
theorem HOk.kept (x : HOk P w H h) (k : ∀ b u, h.get? b = some u → h'.get? b = some u) : HOk P w H h' := fun a o e =>
  (x a o e).stay (fun b u _ q => k b u q) (fun _ q => q) fun _ _ q => q
/-- a new object is laid and tracked -/
theorem HOk.laid (x : HOk P w H h) (k : ∀ b u, h.get? b = some u → h'.get? b = some u) (hp : h.objs.size ≤ a) (new : ObjOk P w (upd H a o) h' a o) : HOk P w (upd H a o) h' := fun b u e => by
  have hn := x.fresh hp
  by_cases hb : b = a
  · subst hb; rw [upd_same] at e; cases e; exact new
  · rw [upd_ne hb] at e
    exact (x b u e).stay (fun c v _ q => k c v q) (fun c q => by rw [upd_ne (ne_of_none q hn)]; exact q) fun c xs q => by rw [upd_ne (ne_of_none q hn)]; exact q
end
/-- what may be read as u: it is u, or a known u -/
def Rd (H : Hp) (a : Addr) (u : HO) : Prop := H a = some u ∨ ∃ o, H a = some (.frz o u)
theorem Rd.ok {P : Program} {w : World} {H : Hp} {h : Heap} {a : Addr} {u : HO} (r : Rd H a u) (x : HOk P w H h) : ObjOk P w H h a u := by
  rcases r with r | ⟨o, r⟩
  · exact x a u r
  · obtain ⟨_, q⟩ := x a _ r
    exact q
section
variable {P : Program} {w : World} {H : Hp} {h h' : Heap} {x e : Addr} {o' : HO}
end
/-! ### kept unless tracked; of the frames at fs (the callers') the slots may change (an exception that passes writes there); of the records at ex (iterators) nothing is said -/
structure Un (fs ex : List Addr) (H H' : Hp) (h h' : Heap) : Prop where
  keep : ∀ b o, h.get? b = some o → H b = none → b ∉ fs → b ∉ ex → h'.get? b = some o
  slot : ∀ b o, h.get? b = some o → H b = none → b ∈ fs → b ∉ ex → ∃ sl, h'.get? b = some { o with slots := sl }
  free : ∀ b o, h.get? b = some o → H b = none → b ∉ ex → H' b = none
  there : ∀ b o, h.get? b = some o → b ∉ ex → ∃ o', h'.get? b = some o'
  tups : ∀ b xs, H b = some (.tup xs) → H' b = some (.tup xs)
  frzs : ∀ b o u, H b = some (.frz o u) → H' b = some (.frz o u)
  tbls : ∀ b ps, H b = some (.tbl ps) → ∃ more, H' b = some (.tbl (ps ++ more))
section
variable {fs fs' ex ex' : List Addr} {H H1 H2 : Hp} {h h1 h2 h' : Heap} {a x e : Addr} {o : HO}
theorem Un.any (u : Un fs ex H H1 h h1) {b : Addr} {ob : Obj} (q : h.get? b = some ob) (n : H b = none) (hx : b ∉ ex) : ∃ sl, h1.get? b = some { ob with slots := sl } := by
  by_cases hb : b ∈ fs
  · exact u.slot b ob q n hb hx
  · exact ⟨ob.slots, u.keep b ob q n hb hx⟩
theorem Un.kept (k : ∀ b u, h.get? b = some u → h'.get? b = some u) : Un fs ex H H h h' :=
  ⟨fun b ob q _ _ _ => k b ob q, fun b ob q _ _ _ => ⟨ob.slots, k b ob q⟩, fun _ _ _ n _ => n, fun b ob q _ => ⟨ob, k b ob q⟩, fun _ _ q => q, fun _ _ _ q => q, fun _ ps q => ⟨#[], by rw [q]; simp⟩⟩
theorem Un.refl : Un fs ex H H h h := Un.kept fun _ _ q => q
theorem Un.laid (k : ∀ b u, h.get? b = some u → h'.get? b = some u) (hp : h.objs.size ≤ a) (hn : H a = none) : Un fs ex H (upd H a o) h h' where
  keep := fun b u q _ _ _ => k b u q
  slot := fun b u q _ _ _ => ⟨u.slots, k b u q⟩
  free := fun b u q n _ => by rw [upd_ne (Nat.ne_of_lt (Nat.lt_of_lt_of_le (Heap.lt_size q) hp))]; exact n
  there := fun b u q _ => ⟨u, k b u q⟩
  tups := fun b xs q => by rw [upd_ne (ne_of_none q hn)]; exact q
  frzs := fun b u xs q => by rw [upd_ne (ne_of_none q hn)]; exact q
  tbls := fun b ps q => ⟨#[], by rw [upd_ne (ne_of_none q hn), q]; simp⟩
end
/-! ### the heap without what is tracked -/
def trk (h : Heap) (H : Hp) : List Addr := (List.range h.objs.size).filter fun a => (H a).isSome
def hidT (h : Heap) (H : Hp) : Heap := PySem.W.hideAll h (trk h H)
theorem hidT_size (h : Heap) (H : Hp) : (hidT h H).objs.size = h.objs.size := PySem.W.hideAll_size _ _
theorem hidT_get {h : Heap} {H : Hp} {b : Addr} {o : Obj} (e : h.get? b = some o) (n : H b = none) : (hidT h H).get? b = some o :=
  PySem.W.hideAll_get _ e fun hm => by
    have q : (H b).isSome = true := (List.mem_filter.mp hm).2
    rw [n] at q; simp at q
theorem of_hidT {h : Heap} {H : Hp} {b : Addr} {o : Obj} (e : (hidT h H).get? b = some o) : h.get? b = some o ∧ H b = none := by
  have e' : h.get? b = some o := PySem.W.of_hideAll (trk h H) e
  refine ⟨e', ?_⟩
  cases q : H b with
  | none => rfl
  | some x =>
    have hm : b ∈ trk h H := List.mem_filter.mpr ⟨List.mem_range.mpr (Heap.lt_size e'), by simp [q]⟩
    have z : (hidT h H).get? b = none := PySem.W.hideAll_none (trk h H) hm
    rw [z] at e; cases e
/-! ### OpenK's ledger, filled with every new object but one -/
def allNews (g h : Heap) (L : Addr) : List (Addr × Obj) := (List.range h.objs.size).filterMap fun a => if a = L ∨ (g.get? a).isSome = true then none else (h.get? a).map fun o => (a, o)
def rest (g h : Heap) (L d : Addr) : List (Addr × Obj) := (allNews g h L).filter fun p => decide (p.1 ≠ d)
end L2
namespace L2
open PySem PySem.Spec PyProof.Rows
/-- the module's facts, over the base: the heap at the law's entry without what is tracked there -/
structure Mod (K : PySem.W.Frag) (mg : Str → Option Value) (base : Heap) : Prop where
  kin : K.In base
  glob : base.Ns mainGlobals mg
  blt : ∃ mb, base.Ns builtinsNs mb ∧ ∀ x : Str, x ≠ "__name__" → mb x = bootBuiltins x
  nolimit : base.NoLimit
/-- the context: a def's body (or a comprehension's block) running. base: fixed through the whole law; s₀, H₀: the entry; outer: the frames whose slots others may change (a def's callers); stack: all frames that run;
   ex: iterators that were made ahead of the entry and are walked here (a comprehension's); fn: the names whose cells were made at the entry (a def: all; a comprehension's block: its own); calm: not within an except suite; pn: pins that every state bears; xe: what is wanted of an exception that leaves the code -/
structure Cx where
  prog : Program
  w : World
  K : PySem.W.Frag
  mg : Str → Option Value
  base : Heap
  A : Around
  N : List Str
  s₀ : Shared
  H₀ : Hp
  env : Env
  outer : List Env
  stack : List Env
  ex : List Addr
  fn : Str → Bool
  calm : Bool
  pn : List (Addr × Obj)
  xe : Value → Shared → Prop
/-- the callers' frames -/
def frs (l : List Env) : List Addr := l.filterMap (·.frame)
abbrev Cx.fs (X : Cx) : List Addr := frs X.outer
def Vis (sc : Scope) (x : Str) : Prop := sc.names.lookup x = some .local ∨ sc.names.lookup x = some .cell ∨ sc.names.lookup x = some .free
def Loc (sc : Scope) (x : Str) : Prop := sc.names.lookup x = some .local ∨ sc.names.lookup x = some .cell
def Look (env : Env) (h : Heap) (m : Str → Option Value) (x : Str) (u : Value) : Prop :=
  (env.kindOf x = some .local ∧ m x = some u) ∨ ((env.kindOf x = some .cell ∨ env.kindOf x = some .free) ∧ ∃ c, env.cells.lookup x = some c ∧ h.IsCell c (some u))
structure Cx.Ok (X : Cx) : Prop where
  mod : Mod X.K X.mg X.base
  kind : X.env.scope.kind = .function
  glob : X.env.globals = mainGlobals
  blt : X.env.builtins = builtinsNs
  above : X.s₀.heap.objs.size ≤ X.env.locals
  inj : ∀ x y c, X.env.cells.lookup x = some c → X.env.cells.lookup y = some c → x = y
  has : ∀ x, (X.env.kindOf x = some .cell ∨ X.env.kindOf x = some .free) → ∃ c, X.env.cells.lookup x = some c
  cab : ∀ x c, X.fn x = true → X.env.cells.lookup x = some c → X.s₀.heap.objs.size ≤ c
  hd : X.calm = true → X.A.handled = none
  frames : X.A.frames = some X.stack
  stk : X.stack = X.outer ∨ (X.stack = X.env :: X.outer ∧ X.env.frame = some X.env.locals)
  exf : ∀ b ∈ X.ex, b ≠ X.env.locals ∧ ∀ x c, X.env.cells.lookup x = some c → c ≠ b
  bs : ∀ b o, X.base.get? b = some o → X.s₀.heap.get? b = some o ∧ X.H₀ b = none
  bsz : X.base.objs.size ≤ X.s₀.heap.objs.size
  noex : ∀ b o, X.base.get? b = some o → b ∉ X.ex
  exfs : ∀ b ∈ X.ex, b ∉ X.fs
  funs : X.s₀.heap.FunFrames X.base X.outer
  frf : ∀ b ∈ X.fs, X.H₀ b = none
structure Inv (X : Cx) (pins : List (Addr × Obj)) (σ : List (Option V)) (H : Hp) (s : Shared) : Prop where
  ok : X.Ok
  os : s.os = X.s₀.os
  bare : AllBare s.gens
  base : Un X.fs X.ex X.H₀ H X.s₀.heap s.heap
  loc : ∃ m, s.heap.Ns X.env.locals m ∧ ∀ (i : Nat) (x : Str) (v : V), X.N[i]? = some x → σ[i]? = some (some v) → Vis X.env.scope x → ∃ u, RelV v u ∧ Look X.env s.heap m x u
  cell : ∀ x c, X.env.cells.lookup x = some c → ∃ v, s.heap.IsCell c v
  free : H X.env.locals = none
  freeC : ∀ x c, X.env.cells.lookup x = some c → H c = none
  pin : ∀ p ∈ X.pn ++ pins, s.heap.get? p.1 = some p.2 ∧ H p.1 = none ∧ p.1 ≠ X.env.locals ∧ p.1 ∉ X.fs ∧ ∀ v, p.2.data ≠ .cell v
  hok : HOk X.prog X.w H s.heap
  len : σ.length = X.N.length
section
variable {X : Cx} {pins : List (Addr × Obj)} {σ : List (Option V)} {H H' : Hp} {s : Shared} {h' : Heap}
theorem Cx.Ok.nofr (ok : X.Ok) {b : Addr} {o : Obj} (e : X.base.get? b = some o) : b ∉ X.fs := fun hb => by
  have := (ok.funs.mem hb).1
  rw [e] at this; cases this
theorem Inv.bs (I : Inv X pins σ H s) : ∀ b o, X.base.get? b = some o → s.heap.get? b = some o ∧ H b = none := fun b o e =>
  ⟨I.base.keep b o (I.ok.bs b o e).1 (I.ok.bs b o e).2 (I.ok.nofr e) (I.ok.noex b o e), I.base.free b o (I.ok.bs b o e).1 (I.ok.bs b o e).2 (I.ok.noex b o e)⟩
theorem Inv.bk (I : Inv X pins σ H s) : ∀ b o, X.base.get? b = some o → s.heap.get? b = some o := fun b o e => (I.bs b o e).1
theorem Inv.mod (I : Inv X pins σ H s) : Mod X.K X.mg X.base := I.ok.mod
theorem Inv.kIn (I : Inv X pins σ H s) : X.K.In s.heap := I.ok.mod.kin.keeps I.bk
theorem Inv.lt (I : Inv X pins σ H s) : X.env.locals < s.heap.objs.size := let ⟨_, hn, _⟩ := I.loc; hn.lt
theorem Inv.sz (I : Inv X pins σ H s) : X.s₀.heap.objs.size ≤ s.heap.objs.size := Nat.le_trans I.ok.above (Nat.le_of_lt I.lt)
theorem Inv.cne (I : Inv X pins σ H s) : ∀ x c, X.env.cells.lookup x = some c → c ≠ X.env.locals := fun x c e z => by
  obtain ⟨v, o, ho, hd⟩ := I.cell x c e
  obtain ⟨m, ⟨o', es, ep, ho', hd', _⟩, _⟩ := I.loc
  rw [z, ho'] at ho; cases ho; rw [hd'] at hd; cases hd
theorem Inv.funs (I : Inv X pins σ H s) : s.heap.FunFrames X.base X.outer := by
  have all : ∀ (l : List Env), (∀ b ∈ frs l, b ∈ X.fs) → X.s₀.heap.FunFrames X.base l → s.heap.FunFrames X.base l := by
    intro l
    induction l with
    | nil => intro _ _; trivial
    | cons env r ih =>
      intro hs hl
      obtain ⟨hk, ⟨L, o, hf, hn, ho, hd⟩, hr⟩ := hl
      have hL : L ∈ X.fs := hs L (by unfold frs; rw [List.filterMap_cons, hf]; exact List.mem_cons_self)
      obtain ⟨sl, e⟩ := I.base.slot L o ho (I.ok.frf L hL) hL fun z => I.ok.exfs L z hL
      exact ⟨hk, ⟨L, _, hf, hn, e, hd⟩, ih (fun b hb => hs b (by unfold frs; rw [List.filterMap_cons, hf]; exact List.mem_cons_of_mem _ hb)) hr⟩
  exact all X.outer (fun _ hb => hb) I.ok.funs
/-- the frames that run, for a call -/
theorem Inv.stack (I : Inv X pins σ H s) : s.heap.FunFrames X.base X.stack := by
  rcases I.ok.stk with e | ⟨e, hf⟩
  · rw [e]; exact I.funs
  · rw [e]
    obtain ⟨m, hn, _⟩ := I.loc
    refine .cons (by rw [I.ok.kind]; decide) hf hn ?_ I.funs
    exact Heap.get?_none_of_le (Nat.le_trans I.ok.bsz I.ok.above)
theorem Inv.stkSub (I : Inv X pins σ H s) : ∀ b ∈ frs X.stack, b ∈ X.env.locals :: X.fs := fun b hb => by
  rcases I.ok.stk with e | ⟨e, hf⟩
  · rw [e] at hb; exact List.mem_cons_of_mem _ hb
  · rw [e] at hb
    unfold frs at hb
    rw [List.filterMap_cons, hf] at hb
    exact hb
theorem Inv.stkFree (I : Inv X pins σ H s) : ∀ b ∈ frs X.stack, H b = none := fun b hb => by
  rcases List.mem_cons.mp (I.stkSub b hb) with e | hb
  · rw [e]; exact I.free
  · obtain ⟨_, o, ho, _⟩ := I.ok.funs.mem hb
    exact I.base.free b o ho (I.ok.frf b hb) fun z => I.ok.exfs b z hb
/-- THE STEP: the untracked objects but the frame and the records at ch are kept (the callers' frames up to slots), the frame's map is kept, the new abstract heap is held -/
theorem Inv.step {g' : Array GenState} {t' : Nat} {d' : Drawn} {ch : List Addr} (I : Inv X pins σ H s)
    (hch : ∀ b ∈ ch, (b ∈ X.ex ∨ X.s₀.heap.objs.size ≤ b) ∧ b ≠ X.env.locals ∧ (∀ x c, X.env.cells.lookup x = some c → c ≠ b) ∧ ∀ p ∈ X.pn ++ pins, p.1 ≠ b)
    (keep : ∀ b o, b ≠ X.env.locals → b ∉ X.fs → b ∉ ch → s.heap.get? b = some o → H b = none → h'.get? b = some o)
    (slot : ∀ b o, b ≠ X.env.locals → b ∈ X.fs → b ∉ ch → s.heap.get? b = some o → H b = none → ∃ sl, h'.get? b = some { o with slots := sl }) (free : ∀ b o, b ∉ ch → s.heap.get? b = some o → H b = none → H' b = none)
    (there : ∀ b o, b ∉ ch → s.heap.get? b = some o → ∃ o', h'.get? b = some o')
    (tups : ∀ b xs, H b = some (.tup xs) → H' b = some (.tup xs)) (frzs : ∀ b o u, H b = some (.frz o u) → H' b = some (.frz o u)) (tbls : ∀ b ps, H b = some (.tbl ps) → ∃ more, H' b = some (.tbl (ps ++ more)))
    (ns : ∀ m, s.heap.Ns X.env.locals m → h'.Ns X.env.locals m) (hok : HOk X.prog X.w H' h') (hg : AllBare g') :
    Inv X pins σ H' { s with heap := h', gens := g', drawn := d', toks := t' } := by
  have neL : ∀ b o, X.s₀.heap.get? b = some o → b ≠ X.env.locals := fun b o e => Nat.ne_of_lt (Nat.lt_of_lt_of_le (Heap.lt_size e) I.ok.above)
  have neC : ∀ b o, X.s₀.heap.get? b = some o → b ∉ X.ex → b ∉ ch := fun b o e hx hb => by
    rcases (hch b hb).1 with z | z
    · exact hx z
    · exact absurd (Nat.lt_of_lt_of_le (Heap.lt_size e) z) (Nat.lt_irrefl _)
  have cellK : ∀ x c, X.env.cells.lookup x = some c → ∀ v, s.heap.IsCell c v → h'.IsCell c v := fun x c e v ⟨o, ho, hd⟩ => by
    have nch : c ∉ ch := fun z => (hch c z).2.2.1 x c e rfl
    by_cases hc : c ∈ X.fs
    · obtain ⟨sl, q⟩ := slot c o (I.cne x c e) hc nch ho (I.freeC x c e)
      exact ⟨_, q, hd⟩
    · exact ⟨o, keep c o (I.cne x c e) hc nch ho (I.freeC x c e), hd⟩
  refine ⟨I.ok, I.os, hg, ⟨fun b o e n hb hx => ?_, fun b o e n hb hx => ?_, fun b o e n hx => ?_, fun b o e hx => ?_, fun b xs e => tups b xs (I.base.tups b xs e), fun b o xs e => frzs b o xs (I.base.frzs b o xs e), fun b ps e => ?_⟩, ?_, fun x c e => ?_, ?_, fun x c e => ?_, fun p hp => ?_, hok, I.len⟩
  · exact keep b o (neL b o e) hb (neC b o e hx) (I.base.keep b o e n hb hx) (I.base.free b o e n hx)
  · obtain ⟨sl, e1⟩ := I.base.slot b o e n hb hx
    obtain ⟨sl', e2⟩ := slot b _ (neL b o e) hb (neC b o e hx) e1 (I.base.free b o e n hx)
    exact ⟨sl', e2⟩
  · obtain ⟨o', e1⟩ := I.base.there b o e hx
    exact free b o' (neC b o e hx) e1 (I.base.free b o e n hx)
  · obtain ⟨o', e1⟩ := I.base.there b o e hx
    exact there b o' (neC b o e hx) e1
  · obtain ⟨m1, e1⟩ := I.base.tbls b ps e
    obtain ⟨m2, e2⟩ := tbls b _ e1
    exact ⟨m1 ++ m2, by rw [e2, Array.append_assoc]⟩
  · obtain ⟨m, hn, hl⟩ := I.loc
    refine ⟨m, ns m hn, fun i x v e1 e2 e3 => ?_⟩
    obtain ⟨u, r, l⟩ := hl i x v e1 e2 e3
    refine ⟨u, r, ?_⟩
    rcases l with l | ⟨k, c, e, z⟩
    · exact .inl l
    · exact .inr ⟨k, c, e, cellK x c e _ z⟩
  · obtain ⟨v, z⟩ := I.cell x c e
    exact ⟨v, cellK x c e v z⟩
  · obtain ⟨m, ⟨o, _, _, ho, _⟩, _⟩ := I.loc
    exact free _ o (fun z => (hch _ z).2.1 rfl) ho I.free
  · obtain ⟨v, o, ho, hd⟩ := I.cell x c e
    exact free c o (fun z => (hch c z).2.2.1 x c e rfl) ho (I.freeC x c e)
  · obtain ⟨e, n, ne, nf, d⟩ := I.pin p hp
    have nch : p.1 ∉ ch := fun z => (hch p.1 z).2.2.2 p hp rfl
    exact ⟨keep p.1 p.2 ne nf nch e n, free p.1 p.2 nch e n, ne, nf, d⟩
/-- .. where the frame's own object is kept too -/
theorem Inv.un {t' : Nat} (I : Inv X pins σ H s) (u : Un X.fs [] H H' s.heap h') (hok : HOk X.prog X.w H' h') : Inv X pins σ H' { s with heap := h', toks := t' } := by
  obtain ⟨m, ⟨o, es, ep, ho, r⟩, _⟩ := id I.loc
  obtain ⟨sl, hL⟩ := u.any ho I.free (by simp)
  exact I.step (g' := s.gens) (d' := s.drawn) (ch := []) (fun _ z => nomatch z) (fun b o _ hb _ e n => u.keep b o e n hb (by simp)) (fun b o _ hb _ e n => u.slot b o e n hb (by simp)) (fun b o _ e n => u.free b o e n (by simp)) (fun b o _ e => u.there b o e (by simp)) u.tups u.frzs u.tbls (fun m' hm => by
    obtain ⟨o', es', ep', ho', r'⟩ := hm
    rw [ho] at ho'; cases ho'
    exact ⟨_, es', ep', hL, r'⟩) hok I.bare
/-- behind a call (or a comprehension's block): the slots of this frame may have changed too, the records at ch may have turned -/
theorem Inv.call {g' : Array GenState} {t' : Nat} {d' : Drawn} {ch : List Addr} (I : Inv X pins σ H s) (u : Un (frs X.stack) ch H H' s.heap h') (hok : HOk X.prog X.w H' h') (hg : AllBare g')
    (hch : ∀ b ∈ ch, (b ∈ X.ex ∨ X.s₀.heap.objs.size ≤ b) ∧ b ≠ X.env.locals ∧ (∀ x c, X.env.cells.lookup x = some c → c ≠ b) ∧ ∀ p ∈ X.pn ++ pins, p.1 ≠ b) :
    Inv X pins σ H' { s with heap := h', gens := g', drawn := d', toks := t' } := by
  obtain ⟨m, ⟨o, es, ep, ho, r⟩, _⟩ := id I.loc
  obtain ⟨sl, hL⟩ := u.any ho I.free fun z => (hch _ z).2.1 rfl
  exact I.step (ch := ch) hch (fun b o hL hb hc e n => u.keep b o e n (fun z => (List.mem_cons.mp (I.stkSub b z)).elim hL hb) hc) (fun b o _ _ hc e n => u.any e n hc) (fun b o hc e n => u.free b o e n hc) (fun b o hc e => u.there b o e hc) u.tups u.frzs u.tbls (fun m' hm => by
    obtain ⟨o', es', ep', ho', r'⟩ := hm
    rw [ho] at ho'; cases ho'
    exact ⟨_, es', ep', hL, r'⟩) hok hg
theorem Inv.tok (I : Inv X pins σ H s) (t : Nat) : Inv X pins σ H { s with toks := t } := I.un (h' := s.heap) (t' := t) Un.refl I.hok
/-- all objects kept -/
theorem Inv.kept {t' : Nat} (I : Inv X pins σ H s) (k : ∀ b u, s.heap.get? b = some u → h'.get? b = some u) : Inv X pins σ H { s with heap := h', toks := t' } := I.un (Un.kept k) (I.hok.kept k)
/-- a new object laid and tracked -/
theorem Inv.laid {a : Addr} {o : HO} {t' : Nat} (I : Inv X pins σ H s) (k : ∀ b u, s.heap.get? b = some u → h'.get? b = some u) (hp : s.heap.objs.size ≤ a) (new : ObjOk X.prog X.w (upd H a o) h' a o) :
    Inv X pins σ (upd H a o) { s with heap := h', toks := t' } := I.un (Un.laid k hp (I.hok.fresh hp)) (I.hok.laid k hp new)
theorem nodup_ix {N : List Str} (hN : N.Nodup) {i j : Nat} {x : Str} (a : N[i]? = some x) (b : N[j]? = some x) : i = j := by
  obtain ⟨h1, e1⟩ := List.getElem?_eq_some_iff.mp a
  obtain ⟨h2, e2⟩ := List.getElem?_eq_some_iff.mp b
  exact (List.getElem_inj hN).mp (e1.trans e2.symm)
/-- a name is stored; what changed -/
theorem store_ok2 {M : Model} {A : Around} {E : Value → Shared → Prop} {i : Nat} {x : Str} {v : V} {u : Value} {Q : Unit → Shared → Prop} (I : Inv X pins σ H s) (hN : X.N.Nodup) (hi : X.N[i]? = some x) (hx : Loc X.env.scope x) (r : RelV v u)
    (h : ∀ s', Inv X pins (σ.set i (some v)) H s' → (∃ a, Heap.SameBut a s.heap s'.heap ∧ (a = X.env.locals ∨ X.env.cells.lookup x = some a)) → Q () s') (hf : X.fn x = true ∨ X.env.scope.names.lookup x = some .local := by first | exact .inl rfl | exact .inr rfl | assumption) : wpAny M A (storeName X.env x u) Q E s := by
  obtain ⟨m, hn, hl⟩ := id I.loc
  have hcls : (X.env.scope.kind == .class || (X.env.scope.kind == .module && X.env.locals != X.env.globals)) = false := by rw [I.ok.kind]; rfl
  have hiσ : i < σ.length := by rw [I.len]; exact (List.getElem?_eq_some_iff.mp hi).1
  have cne := I.cne
  have tracked : ∀ {a : Addr} {h' : Heap}, (∃ o, s.heap.get? a = some o ∧ H a = none) → Heap.SameBut a s.heap h' → HOk X.prog X.w H h' := fun {a h'} ha hs b ob e => by
    obtain ⟨_, _, hfree⟩ := ha
    refine (I.hok b ob e).stay (fun c w' hc q => (hs.2 c ?_).trans q) (fun _ q => q) fun _ _ q => q
    rintro rfl
    rcases hc with rfl | hc
    · rw [hfree] at e; cases e
    · rw [hfree] at hc; cases hc
  rcases hx with hk | hk
  · refine wpAny_storeName_local hk hn (fun h' hn' hs => ?_) hcls
    obtain ⟨oL, _, _, hoL, _⟩ := id hn
    refine h _ ⟨I.ok, I.os, I.bare, ⟨fun b o e n hb hx => ?_, fun b o e n hb hx => ?_, I.base.free, fun b o e hx => ?_, I.base.tups, I.base.frzs, I.base.tbls⟩, ⟨_, hn', fun j y v' e1 e2 e3 => ?_⟩, fun y c e => ?_, I.free, I.freeC, fun p hp => ?_, tracked ⟨oL, hoL, I.free⟩ hs, by simpa using I.len⟩ ⟨_, hs, .inl rfl⟩
    · exact (hs.2 b (Nat.ne_of_lt (Nat.lt_of_lt_of_le (Heap.lt_size e) I.ok.above))).trans (I.base.keep b o e n hb hx)
    · obtain ⟨sl, e1⟩ := I.base.slot b o e n hb hx
      exact ⟨sl, (hs.2 b (Nat.ne_of_lt (Nat.lt_of_lt_of_le (Heap.lt_size e) I.ok.above))).trans e1⟩
    · obtain ⟨o', e1⟩ := I.base.there b o e hx
      exact ⟨o', (hs.2 b (Nat.ne_of_lt (Nat.lt_of_lt_of_le (Heap.lt_size e) I.ok.above))).trans e1⟩
    · by_cases hj : j = i
      · subst hj
        rw [hi] at e1; cases e1
        rw [List.getElem?_set_self hiσ] at e2
        cases e2
        exact ⟨u, r, .inl ⟨hk, by simp⟩⟩
      · rw [List.getElem?_set_ne (Ne.symm hj)] at e2
        obtain ⟨u', r', q⟩ := hl j y v' e1 e2 e3
        refine ⟨u', r', ?_⟩
        rcases q with ⟨k, e⟩ | ⟨k, c, e, z⟩
        · refine .inl ⟨k, ?_⟩
          have : y ≠ x := fun e => hj (nodup_ix hN e1 (e ▸ hi))
          simp [this, e]
        · exact .inr ⟨k, c, e, z.sameBut hs (cne y c e)⟩
    · obtain ⟨w', z⟩ := I.cell y c e
      exact ⟨w', z.sameBut hs (cne y c e)⟩
    · obtain ⟨e, n, ne, nf, d⟩ := I.pin p hp
      exact ⟨(hs.2 p.1 ne).trans e, n, ne, nf, d⟩
  · have hfn : X.fn x = true := by
      rcases hf with z | z
      · exact z
      · rw [z] at hk; cases hk
    obtain ⟨c, hc⟩ := I.ok.has x (.inl hk)
    obtain ⟨w', z⟩ := I.cell x c hc
    refine wpAny_storeName_cell I.ok.kind hk hc z (fun h' hc' hs => ?_)
    obtain ⟨oc, hoc, hocd⟩ := id z
    refine h { s with heap := h' } ⟨I.ok, I.os, I.bare, ⟨fun b o e n hb hx => ?_, fun b o e n hb hx => ?_, I.base.free, fun b o e hx => ?_, I.base.tups, I.base.frzs, I.base.tbls⟩, ⟨m, hn.sameBut hs (Ne.symm (cne x c hc)), fun j y v' e1 e2 e3 => ?_⟩, fun y c' e => ?_, I.free, I.freeC, fun p hp => ?_, tracked ⟨oc, hoc, I.freeC x c hc⟩ hs, by simpa using I.len⟩ ⟨c, hs, .inr hc⟩
    · exact (hs.2 b (Nat.ne_of_lt (Nat.lt_of_lt_of_le (Heap.lt_size e) (I.ok.cab x c hfn hc)))).trans (I.base.keep b o e n hb hx)
    · obtain ⟨sl, e1⟩ := I.base.slot b o e n hb hx
      exact ⟨sl, (hs.2 b (Nat.ne_of_lt (Nat.lt_of_lt_of_le (Heap.lt_size e) (I.ok.cab x c hfn hc)))).trans e1⟩
    · obtain ⟨o', e1⟩ := I.base.there b o e hx
      exact ⟨o', (hs.2 b (Nat.ne_of_lt (Nat.lt_of_lt_of_le (Heap.lt_size e) (I.ok.cab x c hfn hc)))).trans e1⟩
    · by_cases hj : j = i
      · subst hj
        rw [hi] at e1; cases e1
        rw [List.getElem?_set_self hiσ] at e2
        cases e2
        exact ⟨u, r, .inr ⟨.inl hk, c, hc, hc'⟩⟩
      · rw [List.getElem?_set_ne (Ne.symm hj)] at e2
        obtain ⟨u', r', q⟩ := hl j y v' e1 e2 e3
        refine ⟨u', r', ?_⟩
        rcases q with q | ⟨k, c', e, z'⟩
        · exact .inl q
        · refine .inr ⟨k, c', e, z'.sameBut hs ?_⟩
          rintro rfl
          exact hj (nodup_ix hN e1 (I.ok.inj _ _ _ e hc ▸ hi))
    · by_cases hcc : c' = c
      · subst hcc; exact ⟨_, hc'⟩
      · obtain ⟨w2, z2⟩ := I.cell y c' e
        exact ⟨w2, z2.sameBut hs hcc⟩
    · obtain ⟨e, n, ne, nf, d⟩ := I.pin p hp
      refine ⟨(hs.2 p.1 ?_).trans e, n, ne, nf, d⟩
      intro q
      rw [q, hoc] at e
      have q' : oc = p.2 := Option.some.inj e
      exact d w' (by rw [← q']; exact hocd)
theorem store_ok {M : Model} {A : Around} {E : Value → Shared → Prop} {i : Nat} {x : Str} {v : V} {u : Value} {Q : Unit → Shared → Prop} (I : Inv X pins σ H s) (hN : X.N.Nodup) (hi : X.N[i]? = some x) (hx : Loc X.env.scope x) (r : RelV v u)
    (h : ∀ s', Inv X pins (σ.set i (some v)) H s' → Q () s') (hf : X.fn x = true ∨ X.env.scope.names.lookup x = some .local := by first | exact .inl rfl | exact .inr rfl | assumption) : wpAny M A (storeName X.env x u) Q E s :=
  store_ok2 I hN hi hx r (fun s' I' _ => h s' I') hf
end
/-! ### the judgements -/
/-- an exception: its class, its own dict's address (where it has one), the abstract heap behind it -/
abbrev XK := Value → Option Addr → Hp → Prop
abbrev St := List (Option V)
abbrev VK := V → Hp → Prop
/-- an expression's reading; a test's; an argument list's -/
abbrev TE := St → Hp → VK → Prop
abbrev TT := St → Hp → (Bool → Hp → Prop) → Prop
abbrev TA := St → Hp → (List V → Hp → Prop) → Prop
/-- what is wanted behind a statement -/
structure Ends where
  nx : St → Hp → Prop
  rt : VK
  bk : St → Hp → Prop := fun _ _ => False
  ct : St → Hp → Prop := fun _ _ => False
abbrev TS := Ends → St → Hp → Prop
def EP (X : Cx) (pins : List (Addr × Obj)) (σ : St) (Q : VK) (u : Value) (s' : Shared) : Prop := ∃ v H', Inv X pins σ H' s' ∧ RelV v u ∧ Q v H'
def TP (X : Cx) (pins : List (Addr × Obj)) (σ : St) (Q : Bool → Hp → Prop) (b : Bool) (s' : Shared) : Prop := ∃ H', Inv X pins σ H' s' ∧ Q b H'
def AP (X : Cx) (pins : List (Addr × Obj)) (σ : St) (Q : List V → Hp → Prop) (us : List Value) (s' : Shared) : Prop := ∃ vs H', Inv X pins σ H' s' ∧ Vals vs us ∧ Q vs H'
def SP (X : Cx) (pins : List (Addr × Obj)) (D : Ends) (f : Flow) (s' : Shared) : Prop :=
  match f with
  | .next => ∃ σ' H', Inv X pins σ' H' s' ∧ D.nx σ' H'
  | .brk => ∃ σ' H', Inv X pins σ' H' s' ∧ D.bk σ' H'
  | .cont => ∃ σ' H', Inv X pins σ' H' s' ∧ D.ct σ' H'
  | .ret u => ∃ v σ' H', Inv X pins σ' H' s' ∧ RelV v u ∧ D.rt v H'
def PE (X : Cx) (e : Expr) (t : TE) : Prop :=
  ∀ (pins : List (Addr × Obj)) (s : Shared) (σ : St) (H : Hp) (Q : VK), Inv X pins σ H s → t σ H Q → wpAny (model X.prog X.w) X.A (eval e X.env) (EP X pins σ Q) X.xe s
def PT (X : Cx) (e : Expr) (t : TT) : Prop :=
  ∀ (pins : List (Addr × Obj)) (s : Shared) (σ : St) (H : Hp) (Q : Bool → Hp → Prop), Inv X pins σ H s → t σ H Q → wpAny (model X.prog X.w) X.A (isTrue e X.env (eval e X.env)) (TP X pins σ Q) X.xe s
/-- a test whatever its 'whole' is (and, or) -/
def PW (X : Cx) (e : Expr) (t : TT) : Prop :=
  ∀ (whole : Sem Value) (pins : List (Addr × Obj)) (s : Shared) (σ : St) (H : Hp) (Q : Bool → Hp → Prop), Inv X pins σ H s → t σ H Q → wpAny (model X.prog X.w) X.A (isTrue e X.env whole) (TP X pins σ Q) X.xe s
theorem PW.pt {X : Cx} {e : Expr} {t : TT} (h : PW X e t) : PT X e t := h _
/-- an argument list (no star), from the left -/
def PA (X : Cx) (es : List Expr) (t : TA) : Prop :=
  ∀ (pos : Pos) (pins : List (Addr × Obj)) (s : Shared) (σ : St) (H : Hp) (Q : List V → Hp → Prop), Inv X pins σ H s → t σ H Q → wpAny (model X.prog X.w) X.A (spliced (backTo pos (starEach es X.env))) (AP X pins σ Q) X.xe s
def PS (X : Cx) (st : Stmt) (t : TS) : Prop :=
  ∀ (pins : List (Addr × Obj)) (s : Shared) (σ : St) (H : Hp) (D : Ends), Inv X pins σ H s → t D σ H → wpAny (model X.prog X.w) X.A (exec st X.env) (SP X pins D) X.xe s
def PSs (X : Cx) (st : List Stmt) (t : TS) : Prop :=
  ∀ (pins : List (Addr × Obj)) (s : Shared) (σ : St) (H : Hp) (D : Ends), Inv X pins σ H s → t D σ H → wpAny (model X.prog X.w) X.A (execs st X.env) (SP X pins D) X.xe s
/-- weaken the end -/
theorem thn {α : Type} {t : Sem α} {Q Q' : α → Shared → Prop} {M : Model} {A : Around} {E : Value → Shared → Prop} {s : Shared} (h : wpAny M A t Q E s) (hQ : ∀ a s, Q a s → Q' a s) : wpAny M A t Q' E s := wpAny_mono h hQ fun _ _ x => x
end L2
namespace L2
open PySem PySem.Spec PyProof.Rows
section
variable {X : Cx}
/-! ### names and constants -/
def tVar (i : Nat) : TE := fun σ H Q => ∃ v, σ[i]? = some (some v) ∧ Q v H
def tC (v : V) : TE := fun _ H Q => Q v H
theorem pe_var {i : Nat} {x : Str} {pos : Pos} (hN : X.N[i]? = some x) (hv : Vis X.env.scope x) (hd : (x == ("__debug__" : Str)) = false := by decide) (hcd : (x == ("__classdict__" : Str)) = false := by decide) : PE X (.Name x pos) (tVar i) := by
  intro pins s σ H Q I h
  obtain ⟨v, e, h⟩ := h
  obtain ⟨m, hn, hl⟩ := I.loc
  obtain ⟨u, r, l⟩ := hl i x v hN e hv
  have fin : EP X pins σ Q u s := ⟨v, H, I, r, h⟩
  rcases l with ⟨hk, hm⟩ | ⟨hk, c, hc, hcell⟩
  · exact wpAny_Name (wpAny_loadName_local I.ok.kind hk hn hm fin) hd
  · rcases hk with hk | hk
    · exact wpAny_Name (wpAny_loadName_cell I.ok.kind hk hc hcell fin) hd
    · exact wpAny_Name (wpAny_loadName_free I.ok.kind hk hc hcell fin hcd) hd
theorem pe_int {i j pos} : PE X (.Constant (.int i) j pos) (tC (.int i)) := fun _ _ _ H _ I h => wpAny_Constant_int ⟨.int i, H, I.tok _, ⟨_, rfl⟩, h⟩
theorem pe_bl {b j pos} : PE X (.Constant (.bool b) j pos) (tC (.bl b)) := fun _ _ _ H _ I h => Constant_bool ⟨.bl b, H, I, rfl, h⟩
theorem pe_non {j pos} : PE X (.Constant .none j pos) (tC .non) := fun _ _ _ H _ I h => Constant_none ⟨.non, H, I, rfl, h⟩
theorem pe_str {x j pos} : PE X (.Constant (.str x) j pos) (tC (.str x)) := fun _ _ _ H _ I h => Calls.Constant_str ⟨.str x, H, I.tok _, ⟨_, rfl⟩, h⟩
/-- a global name of the def -/
def Gl (X : Cx) (x : Str) : Prop := X.env.kindOf x = some .globalImplicit
theorem ld_glob {E : Value → Shared → Prop} {pins : List (Addr × Obj)} {s : Shared} {σ : St} {H : Hp} {x : Str} {u : Value} {pos : Pos} {Q : Value → Shared → Prop} (I : Inv X pins σ H s) (hg : Gl X x) (hm : X.mg x = some u) (h : Q u s)
    (hd : (x == ("__debug__" : Str)) = false := by decide) : wpAny (model X.prog X.w) X.A (eval (.Name x pos) X.env) Q E s :=
  Calls.Name_function_global I.ok.kind hg (Calls.loadGlobal_global (by rw [I.ok.glob]; exact I.mod.glob.keeps I.bk) hm h) hd
theorem ld_blt {E : Value → Shared → Prop} {pins : List (Addr × Obj)} {s : Shared} {σ : St} {H : Hp} {x : Str} {u : Value} {pos : Pos} {Q : Value → Shared → Prop} (I : Inv X pins σ H s) (hg : Gl X x) (hm : X.mg x = none) (hv : bootBuiltins x = some u) (h : Q u s)
    (hn : x ≠ "__name__" := by decide) (hd : (x == ("__debug__" : Str)) = false := by decide) : wpAny (model X.prog X.w) X.A (eval (.Name x pos) X.env) Q E s := by
  obtain ⟨mb, h1, h2⟩ := I.mod.blt
  exact Calls.Name_function_global I.ok.kind hg (Calls.loadGlobal_builtin (by rw [I.ok.glob]; exact I.mod.glob.keeps I.bk) hm (by rw [I.ok.blt]; exact h1.keeps I.bk) ((h2 x hn).trans hv) h) hd
/-- a module's constant, a class, a function, as a value -/
theorem pe_glob {x : Str} {v : V} {u : Value} {pos : Pos} (hg : Gl X x) (hm : X.mg x = some u) (r : RelV v u) (hd : (x == ("__debug__" : Str)) = false := by decide) : PE X (.Name x pos) (tC v) :=
  fun _ _ _ H _ I h => ld_glob I hg hm ⟨v, H, I, r, h⟩ hd
theorem pe_bltn {x : Str} {v : V} {u : Value} {pos : Pos} (hg : Gl X x) (hm : X.mg x = none) (hv : bootBuiltins x = some u) (r : RelV v u) (hn : x ≠ "__name__" := by decide) (hd : (x == ("__debug__" : Str)) = false := by decide) : PE X (.Name x pos) (tC v) :=
  fun _ _ _ H _ I h => ld_blt I hg hm hv ⟨v, H, I, r, h⟩ hn hd
/-! ### arithmetic -/
variable {a b : Expr} {ta tb : TE} {pos : Pos}
/-! ### comparisons -/
/-- a comparison as a value, as a test -/
def tB (t : TE) : TT := fun σ H Q => t σ H fun x H1 => ∃ c, x = .bl c ∧ Q c H1
/-- an expression whose value is a bool, as a test -/
theorem pt_val {e : Expr} {t : TE} (h : PE X e t) (he : ∀ whole, isTrue e X.env whole = (do let v ← whole; standAt e.pos; holding [v] (truthy v)) := by intro _; rfl) : PT X e (tB t) := by
  intro pins s σ H Q I hw
  refine isTrue_plain (thn (h pins s σ H _ I hw) fun v s1 ⟨x, H1, I1, r1, q1⟩ => ?_) (he _)
  obtain ⟨d, rfl, q⟩ := q1
  cases r1
  exact wpAny_truthy_bool ⟨H1, I1, q⟩
/-! ### and, or, not -/
variable {tA tB' : TT} {rest : List Expr}
def tOr (t u : TT) : TT := fun σ H Q => t σ H fun c H1 => if c = true then Q true H1 else u σ H1 Q
def tNot (t : TT) : TT := fun σ H Q => t σ H fun c H1 => Q (!c) H1
theorem pw_or1 (ha : PT X a tA) : PW X (.BoolOp .Or [a] pos) tA := by
  intro wh pins s σ H Q I h
  refine isTrue_or (thn (ha pins s σ H Q I h) fun c s1 e => ?_)
  cases c with
  | false => exact isTrue_or_nil e
  | true => exact e
theorem pw_or (ha : PT X a tA) (hb : PW X (.BoolOp .Or (b :: rest) pos) tB') : PW X (.BoolOp .Or (a :: b :: rest) pos) (tOr tA tB') := by
  intro wh pins s σ H Q I h
  refine isTrue_or (thn (ha pins s σ H _ I h) fun c s1 ⟨H1, I1, q1⟩ => ?_)
  cases c with
  | true => exact ⟨H1, I1, q1⟩
  | false => exact hb wh pins s1 σ H1 Q I1 q1
theorem pt_not (ha : PT X a tA) : PT X (.UnaryOp .Not a pos) (tNot tA) := by
  intro pins s σ H Q I h
  exact isTrue_not (ha pins s σ H (fun c H1 => Q (!c) H1) I h)
/-- .. as values (bools) -/
def tAndV (ta tb : TE) : TE := fun σ H Q => ta σ H fun x H1 => ∃ c, x = .bl c ∧ if c = true then tb σ H1 Q else Q (.bl false) H1
def tOrV (ta tb : TE) : TE := fun σ H Q => ta σ H fun x H1 => ∃ c, x = .bl c ∧ if c = true then Q (.bl true) H1 else tb σ H1 Q
def tNotV (ta : TE) : TE := fun σ H Q => ta σ H fun x H1 => ∃ c, x = .bl c ∧ Q (.bl (!c)) H1
theorem pe_one {op} {t : TE} (h : PE X a t) : PE X (.BoolOp op [a] pos) t := fun pins s σ H Q I hw => BoolOp_one (h pins s σ H Q I hw)
theorem pe_and (ha : PE X a ta) (hb : PE X (.BoolOp .And (b :: rest) pos) tb) : PE X (.BoolOp .And (a :: b :: rest) pos) (tAndV ta tb) := by
  intro pins s σ H Q I h
  refine BoolOp_and (thn (ha pins s σ H _ I h) fun v s1 ⟨x, H1, I1, r1, q1⟩ => ?_)
  obtain ⟨c, rfl, q1⟩ := q1
  cases r1
  refine wpAny_truthy_bool ?_
  cases c with
  | true => exact hb pins s1 σ H1 Q I1 q1
  | false => exact ⟨.bl false, H1, I1, rfl, q1⟩
theorem pe_or (ha : PE X a ta) (hb : PE X (.BoolOp .Or (b :: rest) pos) tb) : PE X (.BoolOp .Or (a :: b :: rest) pos) (tOrV ta tb) := by
  intro pins s σ H Q I h
  refine BoolOp_or (thn (ha pins s σ H _ I h) fun v s1 ⟨x, H1, I1, r1, q1⟩ => ?_)
  obtain ⟨c, rfl, q1⟩ := q1
  cases r1
  refine wpAny_truthy_bool ?_
  cases c with
  | false => exact hb pins s1 σ H1 Q I1 q1
  | true => exact ⟨.bl true, H1, I1, rfl, q1⟩
theorem pe_not (ha : PE X a ta) : PE X (.UnaryOp .Not a pos) (tNotV ta) := by
  intro pins s σ H Q I h
  refine UnaryOp_ (thn (ha pins s σ H _ I h) fun v s1 ⟨x, H1, I1, r1, q1⟩ => ?_)
  obtain ⟨c, rfl, q1⟩ := q1
  cases r1
  exact not_of (wpAny_truthy_bool ⟨.bl (!c), H1, I1, rfl, q1⟩)
end
end L2
namespace L2
open PySem PySem.Spec PyProof.Rows
/-! ### a list, a tuple that is read: tracked, frozen, or an object of the module -/
def SqL (K : PySem.W.Frag) (H : Hp) (a : Addr) (xs : List V) : Prop :=
  Rd H a (.lst xs) ∨
    ∃ (o : Obj) (its : Array Value) (n : Nat), K.lookup a = some o ∧ o.cls = .type "list" ∧ o.dict = none ∧ o.data = .seq its n ∧ its.size ≤ sizeLine ∧ Vals xs its.toList
def SqT (K : PySem.W.Frag) (H : Hp) (a : Addr) (xs : List V) : Prop :=
  Rd H a (.tup xs) ∨
    ∃ (o : Obj) (its : Array Value) (n : Nat), K.lookup a = some o ∧ o.cls = .type "tuple" ∧ o.data = .seq its n ∧ its.size ≤ sizeLine ∧ Vals xs its.toList
section
variable {X : Cx} {pins : List (Addr × Obj)} {σ : St} {H : Hp} {s : Shared} {a : Addr} {xs ys : List V}
theorem SqL.of {K : PySem.W.Frag} (h : H a = some (.lst xs)) : SqL K H a xs := .inl (.inl h)
theorem SqT.of {K : PySem.W.Frag} (h : H a = some (.tup xs)) : SqT K H a xs := .inl (.inl h)
theorem Inv.list (I : Inv X pins σ H s) (h : SqL X.K H a xs) : ∃ its : List Value, Vals xs its ∧ PlainL s.heap a its.toArray ∧ xs.length ≤ sizeLine := by
  rcases h with h | ⟨o, its, n, hk, hc, hd, hs, hz, r⟩
  · obtain ⟨z, its, n, r, e⟩ := h.ok I.hok
    exact ⟨its, r, ⟨_, n, e, rfl, rfl, rfl⟩, z⟩
  · refine ⟨its.toList, r, ⟨o, n, I.kIn a o hk, hc, hd, by simpa using hs⟩, ?_⟩
    have e := r.length
    simp only [Array.length_toList] at e
    omega
theorem Inv.tuple (I : Inv X pins σ H s) (h : SqT X.K H a xs) : ∃ its : List Value, Vals xs its ∧ IsTup s.heap a its.toArray ∧ xs.length ≤ sizeLine := by
  rcases h with h | ⟨o, its, n, hk, hc, hs, hz, r⟩
  · obtain ⟨z, its, r, p⟩ := h.ok I.hok
    exact ⟨its, r, p, z⟩
  · refine ⟨its.toList, r, ⟨o, I.kIn a o hk, hc, n, by simpa using hs⟩, ?_⟩
    have e := r.length
    simp only [Array.length_toList] at e
    omega
end
/-! ### another wish about exceptions -/
abbrev Cx.wish (X : Cx) (E : Value → Shared → Prop) : Cx := { X with xe := E }
/-- no exception leaves -/
abbrev Cx.nox (X : Cx) : Cx := X.wish fun _ _ => False
theorem Cx.Ok.wish {X : Cx} (ok : X.Ok) (E : Value → Shared → Prop) : (X.wish E).Ok :=
  ⟨ok.mod, ok.kind, ok.glob, ok.blt, ok.above, ok.inj, ok.has, ok.cab, ok.hd, ok.frames, ok.stk, ok.exf, ok.bs, ok.bsz, ok.noex, ok.exfs, ok.funs, ok.frf⟩
theorem Cx.Ok.unwish {X : Cx} {E : Value → Shared → Prop} (ok : (X.wish E).Ok) : X.Ok :=
  ⟨ok.mod, ok.kind, ok.glob, ok.blt, ok.above, ok.inj, ok.has, ok.cab, ok.hd, ok.frames, ok.stk, ok.exf, ok.bs, ok.bsz, ok.noex, ok.exfs, ok.funs, ok.frf⟩
section
variable {X : Cx} {pins : List (Addr × Obj)} {σ : St} {H : Hp} {s : Shared} {E : Value → Shared → Prop}
theorem Inv.wish (I : Inv X pins σ H s) (E : Value → Shared → Prop) : Inv (X.wish E) pins σ H s := ⟨I.ok.wish E, I.os, I.bare, I.base, I.loc, I.cell, I.free, I.freeC, I.pin, I.hok, I.len⟩
theorem Inv.unwish (I : Inv (X.wish E) pins σ H s) : Inv X pins σ H s := ⟨I.ok.unwish, I.os, I.bare, I.base, I.loc, I.cell, I.free, I.freeC, I.pin, I.hok, I.len⟩
theorem SP.unwish {D : Ends} {f : Flow} {s' : Shared} (h : SP (X.wish E) pins D f s') : SP X pins D f s' := by
  cases f with
  | next => obtain ⟨σ', H', I, q⟩ := h; exact ⟨σ', H', I.unwish, q⟩
  | brk => obtain ⟨σ', H', I, q⟩ := h; exact ⟨σ', H', I.unwish, q⟩
  | cont => obtain ⟨σ', H', I, q⟩ := h; exact ⟨σ', H', I.unwish, q⟩
  | ret u => obtain ⟨v, σ', H', I, r, q⟩ := h; exact ⟨v, σ', H', I.unwish, r, q⟩
theorem PSs.nox {st : List Stmt} {t : TS} (h : PSs X.nox st t) : PSs X st t := fun pins s σ H D I hw =>
  wpAny_mono (h pins s σ H D (I.wish _) hw) (fun _ _ q => q.unwish) fun _ _ z => False.elim z
end
/-! ### blocks and small statements -/
section
variable {X : Cx} {st : Stmt} {rest : List Stmt} {t u : TS} {e : Expr} {te : TE} {pos : Pos}
def tNext : TS := fun D σ H => D.nx σ H
def tSeq (t u : TS) : TS := fun D σ H => t { D with nx := u D } σ H
theorem pss_nil : PSs X [] tNext := fun _ _ σ H _ I h => wpAny_execs_nil ⟨σ, H, I, h⟩
theorem pss_cons (h1 : PS X st t) (h2 : PSs X rest u) : PSs X (st :: rest) (tSeq t u) := by
  intro pins s σ H D I h
  refine wpAny_execs_cons (thn (h1 pins s σ H { D with nx := u D } I h) fun f s1 q => ?_)
  cases f with
  | next =>
    obtain ⟨σ', H', I', q⟩ := q
    exact h2 pins s1 σ' H' D I' q
  | ret v => exact q
  | brk => exact q
  | cont => exact q
theorem pss_one (h1 : PS X st t) : PSs X [st] t := by
  intro pins s σ H D I h
  refine wpAny_execs_cons (thn (h1 pins s σ H D I h) fun f s1 q => ?_)
  cases f with
  | next => exact wpAny_execs_nil q
  | ret v => exact q
  | brk => exact q
  | cont => exact q
/-- in a def's body nothing is shown -/
theorem Inv.quiet {pins : List (Addr × Obj)} {σ : St} {H : Hp} {s : Shared} (I : Inv X pins σ H s) : interactive X.env = false := by simp [interactive, I.ok.kind]
def tRet (te : TE) : TS := fun D σ H => te σ H D.rt
theorem ps_ret (he : PE X e te) : PS X (.Return (some e) pos) (tRet te) := by
  intro pins s σ H D I h
  exact wpAny_Return_some (thn (he pins s σ H _ I h) fun v s1 ⟨x, H1, I1, r1, q1⟩ => ⟨x, σ, H1, I1, r1, q1⟩)
def tIfS (c : TT) (t u : TS) : TS := fun D σ H => c σ H fun b H1 => if b = true then t D σ H1 else u D σ H1
theorem ps_if {c : Expr} {a b : List Stmt} {tc : TT} (hc : PT X c tc) (ha : PSs X a t) (hb : PSs X b u) : PS X (.If c a b pos) (tIfS tc t u) := by
  intro pins s σ H D I h
  refine wpAny_If (thn (hc pins s σ H _ I h) fun d s1 ⟨H1, I1, q1⟩ => ?_)
  cases d with
  | true => exact ha pins s1 σ H1 D I1 q1
  | false => exact hb pins s1 σ H1 D I1 q1
end
/-! ### targets -/
abbrev TG := V → St → Hp → (St → Hp → Prop) → Prop
abbrev TGs := List V → St → Hp → (St → Hp → Prop) → Prop
def PG (X : Cx) (target : Expr) (t : TG) : Prop :=
  ∀ (pins : List (Addr × Obj)) (s : Shared) (σ : St) (H : Hp) (v : V) (u : Value) (Q : St → Hp → Prop), Inv X pins σ H s → RelV v u → t v σ H Q →
    wpAny (model X.prog X.w) X.A (assign target X.env u) (fun _ s' => ∃ σ' H', Inv X pins σ' H' s' ∧ Q σ' H') X.xe s
/-- several targets, one after another -/
def PGs (X : Cx) (ts : List Expr) (t : TGs) : Prop :=
  ∀ (pins : List (Addr × Obj)) (s : Shared) (σ : St) (H : Hp) (vs : List V) (us : List Value) (Q : St → Hp → Prop), Inv X pins σ H s → Vals vs us → t vs σ H Q →
    wpAny (model X.prog X.w) X.A (assignInOrder ((assignEach ts X.env).map (·.2)) us) (fun _ s' => ∃ σ' H', Inv X pins σ' H' s' ∧ Q σ' H') X.xe s
section
variable {X : Cx} {pos : Pos}
def gName (i : Nat) : TG := fun v σ H Q => Q (σ.set i (some v)) H
theorem pg_name {i : Nat} {x : Str} (hN : X.N.Nodup) (hi : X.N[i]? = some x) (hx : Loc X.env.scope x) (hf : X.fn x = true ∨ X.env.scope.names.lookup x = some .local := by first | exact .inl rfl | exact .inr rfl | assumption) : PG X (.Name x pos) (gName i) := by
  intro pins s σ H v u Q I r h
  exact wpAny_assign_Name (store_ok I hN hi hx r (fun s' I' => ⟨_, H, I', h⟩) hf)
def gNil : TGs := fun vs σ H Q => vs = [] ∧ Q σ H
def gCons (t : TG) (u : TGs) : TGs := fun vs σ H Q => ∃ v r, vs = v :: r ∧ t v σ H fun σ' H' => u r σ' H' Q
theorem pgs_nil : PGs X [] gNil := by
  intro pins s σ H vs us Q I r h
  obtain ⟨e, h⟩ := h
  subst e
  cases r
  exact assignInOrder_nil ⟨σ, H, I, h⟩
theorem pgs_cons {e : Expr} {es : List Expr} {t : TG} {u : TGs} (h1 : PG X e t) (h2 : PGs X es u)
    (hs : (assignEach (e :: es) X.env).map (·.2) = assign e X.env :: (assignEach es X.env).map (·.2) := by rfl) : PGs X (e :: es) (gCons t u) := by
  intro pins s σ H vs us Q I r h
  obtain ⟨v, vr, e1, h⟩ := h
  subst e1
  cases r with
  | cons r rr =>
    rw [hs]
    refine assignInOrder_cons (thn (h1 pins s σ H _ _ _ I r h) fun _ s1 ⟨σ1, H1, I1, q1⟩ => ?_)
    exact h2 pins s1 σ1 H1 _ _ Q I1 rr q1
/-- (a, b, ..) = a tuple of that length -/
def gTup (K : PySem.W.Frag) (n : Nat) (t : TGs) : TG := fun v σ H Q => ∃ a xs, v = .ref a ∧ SqT K H a xs ∧ xs.length = n ∧ t xs σ H Q
theorem pg_tup {es : List Expr} {k : Nat} {t : TGs} {n : Nat} (hc : X.calm = true) (h : PGs X es t)
    (hn : (assignEach es X.env).length = n := by rfl) (hst : (assignEach es X.env).findIdx? (·.1) = none := by rfl) : PG X (.Tuple es k pos) (gTup X.K n t) := by
  intro pins s σ H v u Q I r hw
  obtain ⟨a, xs, e1, hq, hl, hw⟩ := hw
  subst e1
  cases r
  obtain ⟨its, rv, ht, hz⟩ := I.tuple hq
  refine assign_Tuple_tuple (I.ok.hd hc) ht (by simp [hn, ← hl, rv.length]) hst fun h' hx => ?_
  have I1 : Inv X pins σ H { s with heap := h' } := I.kept (t' := s.toks) fun b o e => hx b o (Nat.ne_of_lt (Heap.lt_size e)) e
  exact h pins _ σ H xs _ Q I1 (by simpa using rv) hw
/-- target = value -/
def tAsg (te : TE) (g : TG) : TS := fun D σ H => te σ H fun x H1 => g x σ H1 D.nx
theorem ps_asg {tg e : Expr} {te : TE} {g : TG} (he : PE X e te) (hg : PG X tg g) (hs : swapsWithSole [tg] e pos.line X.env = pure false := by rfl) (hw : swappedStores [tg] e X.env = pure none := by rfl)
    (h1 : (assignEach [tg] X.env).map (·.2) = [assign tg X.env] := by rfl) : PS X (.Assign [tg] e pos) (tAsg te g) := by
  intro pins s σ H D I h
  refine wpAny_Assign_stores (thn (he pins s σ H _ I h) fun v s1 ⟨x, H1, I1, r1, q1⟩ => ?_) hs hw
  rw [h1]
  exact thn (hg pins s1 σ H1 x v _ I1 r1 q1) fun _ s2 q => q
/-- name = value -/
theorem ps_set {i : Nat} {x : Str} {e : Expr} {te : TE} {pos' : Pos} (hN : X.N.Nodup) (hi : X.N[i]? = some x) (hx : Loc X.env.scope x) (he : PE X e te) (hs : swapsWith e (some (.Name x pos')) pos.line X.env = pure false := by rfl) (hf : X.fn x = true ∨ X.env.scope.names.lookup x = some .local := by first | exact .inl rfl | exact .inr rfl | assumption) :
    PS X (.Assign [.Name x pos'] e pos) (tAsg te (gName i)) := by
  intro pins s σ H D I h
  refine wpAny_Assign_Name (thn (he pins s σ H _ I h) fun v s1 ⟨y, H1, I1, r1, q1⟩ => ?_) hs
  exact store_ok I1 hN hi hx r1 (fun s2 I2 => ⟨_, H1, I2, q1⟩) hf
/-- a, b = x, y with plain local names: stored from the right; the pair itself is not tracked (the opening rows as in PyProof/Rows/TupAssign.lean:23) -/
def tPar (i j : Nat) (ta : TA) : TS := fun D σ H => ta σ H fun vs H1 => ∃ v w, vs = [v, w] ∧ D.nx ((σ.set i (some v)).set j (some w)) H1
theorem ps_par {i j : Nat} {x y : Str} {a b : Expr} {ta : TA} {px py pt : Pos} {kt k2 pt2} (hc : X.calm = true) (hN : X.N.Nodup) (hi : X.N[i]? = some x) (hj : X.N[j]? = some y) (hij : i ≠ j)
    (hx : X.env.scope.names.lookup x = some .local) (hy : X.env.scope.names.lookup y = some .local) (ha : PA X [a, b] ta)
    (hw : swappedStores [.Tuple [.Name x px, .Name y py] kt pt] (.Tuple [a, b] k2 pt2) X.env = pure (some [x, y]))
    (hs : swapsWithSole [.Tuple [.Name x px, .Name y py] kt pt] (.Tuple [a, b] k2 pt2) pos.line X.env = pure false := by rfl) :
    PS X (.Assign [.Tuple [.Name x px, .Name y py] kt pt] (.Tuple [a, b] k2 pt2) pos) (tPar i j ta) := by
  intro pins s σ H D I h
  rw [exec_Assign_arm]
  refine wpAny_bind (wpAny_standAt ?_)
  rw [hs]
  refine wpAny_bind (wpAny_pure ?_)
  rw [if_neg (by decide)]
  refine wpAny_bind (Tuple_ (thn (ha _ pins s σ H _ I h) fun us s1 ⟨vs, H1, I1, r1, q1⟩ => ?_))
  obtain ⟨v, w, e1, q1⟩ := q1
  subst e1
  obtain ⟨u1, u2, rfl, rv, rw'⟩ : ∃ u1 u2, us = [u1, u2] ∧ RelV v u1 ∧ RelV w u2 := by
    cases r1 with
    | cons p q =>
      cases q with
      | cons p' q' =>
        cases q'
        exact ⟨_, _, rfl, p, p'⟩
  refine wpAny_newObj_type ?_ (by show 2 ≤ sizeLine; decide)
  have I2 : Inv X pins σ H1 { s1 with heap := s1.heap.push { cls := .type "tuple", data := .seq [u1, u2].toArray } } := I1.kept (t' := s1.toks) fun b o e => Heap.get?_push_of_some _ e
  rw [hw]
  refine wpAny_bind (wpAny_pure ?_)
  show wpAny (model X.prog X.w) X.A (do rule "assign.swapped-stores"; let items ← unpackItems (.ref s1.heap.objs.size) 2 none; assignInOrder [fun v => bindName X.env y v, fun v => bindName X.env x v] items.reverse; pure Flow.next) _ _ _
  refine wpAny_bind (wpAny_rule (wpAny_bind (unpackItems_tuple (items := #[u1, u2]) (I.ok.hd hc) (IsTup.new s1.heap _) fun h' hx' => ?_)))
  have I3 := I2.kept (h' := h') (t' := s1.toks) fun b o e => hx' b o (Nat.ne_of_lt (Heap.lt_size e)) e
  show wpAny _ _ (assignInOrder [fun v => bindName X.env y v, fun v => bindName X.env x v] [u2, u1] >>= fun _ => pure Flow.next) _ _ _
  refine wpAny_bind (assignInOrder_cons (wpAny_bindName (store_ok I3 hN hj (.inl hy) rw' (fun s2 I4 => ?_) (.inr hy))))
  refine assignInOrder_cons (wpAny_bindName (store_ok I4 hN hi (.inl hx) rv (fun s3 I5 => assignInOrder_nil (wpAny_pure ?_)) (.inr hx)))
  rw [List.set_comm _ _ (Ne.symm hij)] at I5
  exact ⟨_, H1, I5, q1⟩
end
/-! ### while -/
section
variable {X : Cx} {pos : Pos}
/-- the invariant W with its measure -/
def tWhile (c : TT) (tb : TS) : TS := fun D σ H => ∃ W : Nat → St → Hp → Prop, (∃ m, W m σ H) ∧ ∀ m σ H, W m σ H →
  c σ H fun b H1 => if b = true then ∃ N : St → Hp → Prop, (∀ σ' H', N σ' H' → ∃ m', m' < m ∧ W m' σ' H') ∧ tb { D with nx := N, ct := N, bk := D.nx } σ H1 else D.nx σ H1
theorem ps_while {c : Expr} {body : List Stmt} {tc : TT} {tb : TS} (hp : PassesOwn (model X.prog X.w) X.A X.env X.xe) (hc : PT X c tc) (hb : PSs X body tb) : PS X (.While c body [] pos) (tWhile tc tb) := by
  intro pins s σ H D I h
  obtain ⟨W, ⟨m0, w0⟩, turn⟩ := h
  refine wpAny_While (codeAny_whileLoop (fun n s' => ∃ σ' H', Inv X pins σ' H' s' ∧ W n σ' H') ?_ m0 ⟨σ, H, I, w0⟩)
  rintro n s1 ⟨σ1, H1, I1, w1⟩
  refine wpAny_passesOwn hp (thn (hc pins s1 σ1 H1 _ I1 (turn n σ1 H1 w1)) fun b s2 ⟨H2, I2, q2⟩ => ?_)
  cases b with
  | true =>
    obtain ⟨N, hN, q2⟩ := q2
    rw [if_pos rfl]
    refine wpAny_passesOwn hp (thn (hb pins s2 σ1 H2 _ I2 q2) fun f s3 q3 => ?_)
    cases f with
    | next =>
      obtain ⟨σ3, H3, I3, n3⟩ := q3
      obtain ⟨m', hm, w3⟩ := hN σ3 H3 n3
      exact ⟨m', hm, σ3, H3, I3, w3⟩
    | cont =>
      obtain ⟨σ3, H3, I3, n3⟩ := q3
      obtain ⟨m', hm, w3⟩ := hN σ3 H3 n3
      exact ⟨m', hm, σ3, H3, I3, w3⟩
    | brk => exact q3
    | ret v => exact q3
  | false =>
    rw [if_neg Bool.false_ne_true]
    exact wpAny_execs_nil ⟨σ1, H2, I2, q2⟩
end
/-! ### what a loop or a comprehension walks -/
end L2
namespace L2
open PySem PySem.Spec PyProof.Rows
section
variable {X : Cx} {tg : Expr}
/-! ### for -/
end
/-! ### the forms one uses -/
end L2
namespace L2
open PySem PySem.Spec PyProof.Rows
abbrev R2 := V → V → Hp → VK → Prop
/-- a two-place operation on values: f is binaryOp op, inplaceOp op or compareOp op -/
def OpR (X : Cx) (f : Value → Value → Sem Value) (r : R2) : Prop :=
  ∀ (pins : List (Addr × Obj)) (s : Shared) (σ : St) (H : Hp) (x y : V) (v u : Value) (Q : VK), Inv X pins σ H s → RelV x v → RelV y u → r x y H Q →
    wpAny (model X.prog X.w) X.A (f v u) (EP X pins σ Q) X.xe s
/-- a one-place operation -/
def UnR (X : Cx) (f : Value → Sem Value) (r : V → Hp → VK → Prop) : Prop :=
  ∀ (pins : List (Addr × Obj)) (s : Shared) (σ : St) (H : Hp) (x : V) (v : Value) (Q : VK), Inv X pins σ H s → RelV x v → r x H Q →
    wpAny (model X.prog X.w) X.A (f v) (EP X pins σ Q) X.xe s
/-- a call of a value that is known (a builtin, a type) with values -/
def CallR (X : Cx) (f : Value) (r : List V → Hp → VK → Prop) : Prop :=
  ∀ (pins : List (Addr × Obj)) (s : Shared) (σ : St) (H : Hp) (xs : List V) (us : List Value) (Q : VK), Inv X pins σ H s → Vals xs us → r xs H Q →
    wpAny (model X.prog X.w) X.A (call f us) (EP X pins σ Q) X.xe s
def tOp (r : R2) (ta tb : TE) : TE := fun σ H Q => ta σ H fun x H1 => tb σ H1 fun y H2 => r x y H2 Q
def tUn (r : V → Hp → VK → Prop) (ta : TE) : TE := fun σ H Q => ta σ H fun x H1 => r x H1 Q
/-- ints in, under C, and a value out -/
def rI (C : Int → Int → Prop) (g : Int → Int → V) : R2 := fun x y H Q => ∃ i j, x = .int i ∧ y = .int j ∧ C i j ∧ Q (g i j) H
def rI0 (g : Int → Int → V) : R2 := fun x y H Q => ∃ i j, x = .int i ∧ y = .int j ∧ Q (g i j) H
def rU (g : Int → V) : V → Hp → VK → Prop := fun x H Q => ∃ i, x = .int i ∧ Q (g i) H
section
variable {X : Cx} {a b c : Expr} {ta tb tc : TE} {pos : Pos}
theorem binT (ha : PE X a ta) (hb : PE X b tb) {pins : List (Addr × Obj)} {s : Shared} {σ : St} {H : Hp} {R : V → V → Hp → Prop} (I : Inv X pins σ H s)
    (h : ta σ H fun x H1 => tb σ H1 fun y H2 => R x y H2) {Q : Value → Shared → Prop} {f : Value → Value → Sem Value}
    (hf : ∀ v u s2 x y H2, Inv X pins σ H2 s2 → RelV x v → RelV y u → R x y H2 → wpAny (model X.prog X.w) X.A (f v u) Q X.xe s2) :
    wpAny (model X.prog X.w) X.A (eval a X.env) (fun v s₁ => wpAny (model X.prog X.w) X.A (eval b X.env) (fun u s₂ => wpAny (model X.prog X.w) X.A (f v u) Q X.xe s₂) X.xe s₁) X.xe s := by
  refine thn (ha pins s σ H _ I h) fun v s1 ⟨x, H1, I1, r1, q1⟩ => ?_
  refine thn (hb pins s1 σ H1 _ I1 q1) fun u s2 ⟨y, H2, I2, r2, q2⟩ => ?_
  exact hf v u s2 x y H2 I2 r1 r2 q2
theorem pe_op {op : Operator} {r : R2} (ho : OpR X (binaryOp op) r) (ha : PE X a ta) (hb : PE X b tb) : PE X (.BinOp a op b pos) (tOp r ta tb) := by
  intro pins s σ H Q I h
  exact wpAny_BinOp (binT ha hb I h fun v u s2 x y H2 I2 rx ry q => ho pins s2 σ H2 x y v u Q I2 rx ry q)
theorem pe_un {op : UnaryOp} {r : V → Hp → VK → Prop} (ho : UnR X (unaryOp op) r) (ha : PE X a ta) : PE X (.UnaryOp op a pos) (tUn r ta) := by
  intro pins s σ H Q I h
  exact UnaryOp_ (thn (ha pins s σ H _ I h) fun v s1 ⟨x, H1, I1, r1, q1⟩ => ho pins s1 σ H1 x v Q I1 r1 q1)
/-! ### ints -/
theorem opI {f : Value → Value → Sem Value} {C : Int → Int → Prop} {g : Int → Int → Int}
    (rule : ∀ (i j : Int) (t u : Tok) (s : Shared) (Q : Value → Shared → Prop) (E : Value → Shared → Prop), C i j → Q (.int (g i j) s.toks) { s with toks := s.toks + 1 } → wpAny (model X.prog X.w) X.A (f (.int i t) (.int j u)) Q E s) :
    OpR X f (rI C fun i j => .int (g i j)) := by
  intro pins s σ H x y v u Q I rx ry h
  obtain ⟨i, j, rfl, rfl, hc, q⟩ := h
  obtain ⟨t, rfl⟩ := rx
  obtain ⟨t', rfl⟩ := ry
  exact rule i j t t' s _ _ hc ⟨.int (g i j), H, I.tok _, ⟨_, rfl⟩, q⟩
theorem opI0 {f : Value → Value → Sem Value} {g : Int → Int → Int}
    (rule : ∀ (i j : Int) (t u : Tok) (s : Shared) (Q : Value → Shared → Prop) (E : Value → Shared → Prop), Q (.int (g i j) s.toks) { s with toks := s.toks + 1 } → wpAny (model X.prog X.w) X.A (f (.int i t) (.int j u)) Q E s) :
    OpR X f (rI0 fun i j => .int (g i j)) := by
  intro pins s σ H x y v u Q I rx ry h
  obtain ⟨i, j, rfl, rfl, q⟩ := h
  obtain ⟨t, rfl⟩ := rx
  obtain ⟨t', rfl⟩ := ry
  exact rule i j t t' s _ _ ⟨.int (g i j), H, I.tok _, ⟨_, rfl⟩, q⟩
theorem opB0 {f : Value → Value → Sem Value} {g : Int → Int → Bool}
    (rule : ∀ (i j : Int) (t u : Tok) (s : Shared) (Q : Value → Shared → Prop) (E : Value → Shared → Prop), Q (.bool (g i j)) s → wpAny (model X.prog X.w) X.A (f (.int i t) (.int j u)) Q E s) :
    OpR X f (rI0 fun i j => .bl (g i j)) := by
  intro pins s σ H x y v u Q I rx ry h
  obtain ⟨i, j, rfl, rfl, q⟩ := h
  obtain ⟨t, rfl⟩ := rx
  obtain ⟨t', rfl⟩ := ry
  exact rule i j t t' s _ _ ⟨.bl (g i j), H, I, rfl, q⟩
def CPow (i j : Int) : Prop := 0 ≤ j ∧ j ≤ 1000000 ∧ i.natAbs < 2 ^ 64
theorem op_add : OpR X (binaryOp .Add) (rI0 fun i j => .int (i + j)) := opI0 fun _ _ _ _ _ _ _ q => add_int q
theorem op_sub : OpR X (binaryOp .Sub) (rI0 fun i j => .int (i - j)) := opI0 fun _ _ _ _ _ _ _ q => sub_int q
/-- % by a positive divisor of any size -/
theorem op_mod : OpR X (binaryOp .Mod) (rI (fun _ j => 0 < j) fun i j => .int (i % j)) := opI fun i j _ _ _ _ _ hc q => by
  have h1 : (0 : Int) < j := hc
  exact mod_int' (by omega) (by rw [Int.fmod_eq_emod_of_nonneg i (by omega)]; exact q)
theorem op_pow : OpR X (binaryOp .Pow) (rI CPow fun i j => .int (i ^ j.toNat)) := opI fun _ _ _ _ _ _ _ hc q => pow_int_small hc.1 hc.2.1 hc.2.2 q
theorem unI {f : Value → Sem Value} {g : Int → Int}
    (rule : ∀ (i : Int) (t : Tok) (s : Shared) (Q : Value → Shared → Prop) (E : Value → Shared → Prop), Q (.int (g i) s.toks) { s with toks := s.toks + 1 } → wpAny (model X.prog X.w) X.A (f (.int i t)) Q E s) :
    UnR X f (rU fun i => .int (g i)) := by
  intro pins s σ H x v Q I rx h
  obtain ⟨i, rfl, q⟩ := h
  obtain ⟨t, rfl⟩ := rx
  exact rule i t s _ _ ⟨.int (g i), H, I.tok _, ⟨_, rfl⟩, q⟩
theorem un_neg : UnR X (unaryOp .USub) (rU fun i => .int (-i)) := unI fun _ _ _ _ _ q => neg_int q
/-! ### bools among ints: n += (a < b) -/
end
/-! ### comparisons -/
/-- the scalars that == tells apart as data does -/
def scal : V → V → Bool
  | .non, .non => true | .non, .int _ => true | .int _, .non => true | .non, .bl _ => true | .bl _, .non => true | .non, .str _ => true | .str _, .non => true
  | .int _, .int _ => true | .bl _, .bl _ => true | .str _, .str _ => true | .byt _, .byt _ => true
  | .int _, .str _ => true | .str _, .int _ => true | .bl _, .str _ => true | .str _, .bl _ => true
  | _, _ => false
def rEq : R2 := fun x y H Q => scal x y = true ∧ Q (.bl (decide (x = y))) H
def rNe : R2 := fun x y H Q => scal x y = true ∧ Q (.bl (!decide (x = y))) H
theorem dec_int {i j : Int} : decide (V.int i = V.int j) = (i == j) := by
  rw [Bool.eq_iff_iff]
  simp
theorem dec_bl {i j : Bool} : decide (V.bl i = V.bl j) = (i == j) := by
  rw [Bool.eq_iff_iff]
  simp
theorem dec_str {i j : Str} : decide (V.str i = V.str j) = (i == j) := by
  rw [Bool.eq_iff_iff]
  simp
theorem dec_byt {i j : Array UInt8} : decide (V.byt i = V.byt j) = (i.toList == j.toList) := by
  rw [Bool.eq_iff_iff]
  cases i
  cases j
  simp
section
variable {X : Cx} {a b c : Expr} {ta tb tc : TE} {pos : Pos}
theorem fin_bl {pins : List (Addr × Obj)} {σ : St} {H : Hp} {s : Shared} {Q : VK} {k k' : Bool} (I : Inv X pins σ H s) (q : Q (.bl k) H) (e : k = k') : EP X pins σ Q (.bool k') s := by
  subst e
  exact ⟨.bl k, H, I, rfl, q⟩
theorem op_eq : OpR X (compareOp .Eq) rEq := by
  intro pins s σ H x y v u Q I rx ry h
  obtain ⟨hs, q⟩ := h
  cases x with
  | non =>
    cases rx
    cases y with
    | non => cases ry; exact PySem.EqNone.eq_none_none (fin_bl I q (by simp))
    | bl j => cases ry; exact PySem.EqNone.eq_none_bool (fin_bl I q (by simp))
    | int j => obtain ⟨t', rfl⟩ := ry; exact PySem.EqNone.eq_none_int (fin_bl I q (by simp))
    | str j => obtain ⟨t', rfl⟩ := ry; exact PySem.EqNone.eq_none_str (fin_bl I q (by simp))
    | _ => exact absurd (show false = true from hs) Bool.false_ne_true
  | bl i =>
    cases rx
    cases y with
    | non => cases ry; exact PySem.EqNone.eq_bool_none (fin_bl I q (by simp))
    | bl j => cases ry; exact eq_bool (fin_bl I q dec_bl)
    | str j => obtain ⟨t', rfl⟩ := ry; exact PySem.EqMixed.eq_bool_str (fin_bl I q (by simp))
    | _ => exact absurd (show false = true from hs) Bool.false_ne_true
  | int i =>
    obtain ⟨t, rfl⟩ := rx
    cases y with
    | non => cases ry; exact PySem.EqNone.eq_int_none (fin_bl I q (by simp))
    | int j => obtain ⟨t', rfl⟩ := ry; exact eq_int (fin_bl I q dec_int)
    | str j => obtain ⟨t', rfl⟩ := ry; exact PySem.EqMixed.eq_int_str (fin_bl I q (by simp))
    | _ => exact absurd (show false = true from hs) Bool.false_ne_true
  | str i =>
    obtain ⟨t, rfl⟩ := rx
    cases y with
    | non => cases ry; exact PySem.EqNone.eq_str_none (fin_bl I q (by simp))
    | bl j => cases ry; exact PySem.EqMixed.eq_str_bool (fin_bl I q (by simp))
    | int j => obtain ⟨t', rfl⟩ := ry; exact PySem.EqMixed.eq_str_int (fin_bl I q (by simp))
    | str j => obtain ⟨t', rfl⟩ := ry; exact eq_str (fin_bl I q dec_str)
    | _ => exact absurd (show false = true from hs) Bool.false_ne_true
  | byt i =>
    obtain ⟨t, rfl⟩ := rx
    cases y with
    | byt j => obtain ⟨t', rfl⟩ := ry; exact PySem.W.eq_bytes (fin_bl I q dec_byt)
    | _ => exact absurd (show false = true from hs) Bool.false_ne_true
  | _ => cases y <;> exact absurd (show false = true from hs) Bool.false_ne_true
theorem op_ne : OpR X (compareOp .NotEq) rNe := by
  intro pins s σ H x y v u Q I rx ry h
  obtain ⟨hs, q⟩ := h
  cases x with
  | non =>
    cases rx
    cases y with
    | non => cases ry; exact PySem.EqNone.ne_none_none (fin_bl I q (by simp))
    | bl j => cases ry; exact PySem.EqNone.ne_none_bool (fin_bl I q (by simp))
    | int j => obtain ⟨t', rfl⟩ := ry; exact PySem.EqNone.ne_none_int (fin_bl I q (by simp))
    | str j => obtain ⟨t', rfl⟩ := ry; exact PySem.EqNone.ne_none_str (fin_bl I q (by simp))
    | _ => exact absurd (show false = true from hs) Bool.false_ne_true
  | bl i =>
    cases rx
    cases y with
    | non => cases ry; exact PySem.EqNone.ne_bool_none (fin_bl I q (by simp))
    | bl j => cases ry; exact ne_bool (fin_bl I q (congrArg not dec_bl))
    | str j => obtain ⟨t', rfl⟩ := ry; exact PySem.EqMixed.ne_bool_str (fin_bl I q (by simp))
    | _ => exact absurd (show false = true from hs) Bool.false_ne_true
  | int i =>
    obtain ⟨t, rfl⟩ := rx
    cases y with
    | non => cases ry; exact PySem.EqNone.ne_int_none (fin_bl I q (by simp))
    | int j => obtain ⟨t', rfl⟩ := ry; exact ne_int (fin_bl I q (congrArg not dec_int))
    | str j => obtain ⟨t', rfl⟩ := ry; exact PySem.EqMixed.ne_int_str (fin_bl I q (by simp))
    | _ => exact absurd (show false = true from hs) Bool.false_ne_true
  | str i =>
    obtain ⟨t, rfl⟩ := rx
    cases y with
    | non => cases ry; exact PySem.EqNone.ne_str_none (fin_bl I q (by simp))
    | bl j => cases ry; exact PySem.EqMixed.ne_str_bool (fin_bl I q (by simp))
    | int j => obtain ⟨t', rfl⟩ := ry; exact PySem.EqMixed.ne_str_int (fin_bl I q (by simp))
    | str j => obtain ⟨t', rfl⟩ := ry; exact ne_str (fin_bl I q (congrArg not dec_str))
    | _ => exact absurd (show false = true from hs) Bool.false_ne_true
  | byt i =>
    obtain ⟨t, rfl⟩ := rx
    cases y with
    | byt j => obtain ⟨t', rfl⟩ := ry; exact PySem.W.ne_bytes (fin_bl I q (congrArg not dec_byt))
    | _ => exact absurd (show false = true from hs) Bool.false_ne_true
  | _ => cases y <;> exact absurd (show false = true from hs) Bool.false_ne_true
theorem op_lt : OpR X (compareOp .Lt) (rI0 fun i j => .bl (decide (i < j))) := opB0 fun _ _ _ _ _ _ _ q => lt_int q
theorem op_gt : OpR X (compareOp .Gt) (rI0 fun i j => .bl (decide (j < i))) := opB0 fun _ _ _ _ _ _ _ q => gt_int q
theorem op_ge : OpR X (compareOp .GtE) (rI0 fun i j => .bl (decide (j ≤ i))) := opB0 fun _ _ _ _ _ _ _ q => ge_int q
theorem nomark (b : Expr) {op : CmpOp} (h : op ≠ .In := by decide) (h2 : op ≠ .NotIn := by decide) : behindInMarks op b = false := by
  have e1 : (op == CmpOp.In) = false := by cases op <;> first | rfl | exact absurd rfl h
  have e2 : (op == CmpOp.NotIn) = false := by cases op <;> first | rfl | exact absurd rfl h2
  cases b <;> simp [behindInMarks, e1, e2]
/-- a comparison as a value; hm: nomark b, or (for in, not in) by with_unfolding_all rfl -/
theorem pe_cmpR {op : CmpOp} {r : R2} (ho : OpR X (compareOp op) r) (ha : PE X a ta) (hb : PE X b tb) (hm : behindInMarks op b = false) : PE X (.Compare a [op] [b] pos) (tOp r ta tb) := by
  intro pins s σ H Q I h
  exact wpAny_Compare1 (binT ha hb I h fun v u s2 x y H2 I2 rx ry q => ho pins s2 σ H2 x y v u Q I2 rx ry q) hm
/-- a reading of a value as a test -/
def tTest (t : TE) : TT := fun σ H Q => t σ H fun x H' => ∃ k, x = .bl k ∧ Q k H'
theorem pt_cmpR {op : CmpOp} {r : R2} (ho : OpR X (compareOp op) r) (ha : PE X a ta) (hb : PE X b tb) (hm : behindInMarks op b = false) : PT X (.Compare a [op] [b] pos) (tTest (tOp r ta tb)) := by
  intro pins s σ H Q I h
  refine wpAny_isTrue_Compare1 (thn (ha pins s σ H _ I h) fun v s1 ⟨x, H1, I1, r1, q1⟩ => thn (hb pins s1 σ H1 _ I1 q1) fun u s2 ⟨y, H2, I2, r2, q2⟩ =>
    thn (ho pins s2 σ H2 x y v u _ I2 r1 r2 q2) fun c s3 ⟨z, H3, I3, r3, k, e, q3⟩ => ?_) hm
  subst e
  cases r3
  exact wpAny_truthy_bool ⟨H3, I3, q3⟩
/-! ### truth -/
theorem line63 : (sizeLine : Nat) < 2 ^ 63 := by rw [sizeLine_eq]; decide
/-! ### strs and bytes -/
/-! ### scalar builtins, by CallR -/
theorem vals1 {x : V} {us : List Value} (r : Vals [x] us) : ∃ u, us = [u] ∧ RelV x u := by
  cases r with
  | cons r1 r2 => cases r2; exact ⟨_, rfl, r1⟩
theorem vals2 {x y : V} {us : List Value} (r : Vals [x, y] us) : ∃ u w', us = [u, w'] ∧ RelV x u ∧ RelV y w' := by
  cases r with
  | cons r1 r2 =>
    cases r2 with
    | cons r3 r4 => cases r4; exact ⟨_, _, rfl, r1, r3⟩
theorem call_abs : CallR X (.builtin "abs") (fun xs H Q => ∃ i, xs = [.int i] ∧ Q (.int (if i < 0 then -i else i)) H) := by
  intro pins s σ H xs us Q I r h
  obtain ⟨i, rfl, q⟩ := h
  obtain ⟨u, rfl, t, rfl⟩ := vals1 r
  exact call_abs_int fun u tk => ⟨.int (if i < 0 then -i else i), H, I.tok _, ⟨_, rfl⟩, q⟩
end
end L2
namespace L2
open PySem PySem.Spec PyProof.Rows
/-! ### an instance, its attributes a map -/
structure ObjM (h : Heap) (x dx C : Addr) (mA : Str → Option Value) : Prop where
  obj : h.get? x = some (PySem.W.instObj C dx)
  ns : h.Ns1 dx mA
  ne : dx ≠ x
theorem lookIn_ns {h : Heap} {dx : Addr} {mA : Str → Option Value} (n : h.Ns1 dx mA) : ∃ od, h.get? dx = some od ∧ ∀ name, PySem.W.lookIn name od = some (mA name) := by
  obtain ⟨o, es, ep, ho, hd, hk, _, hm⟩ := n
  refine ⟨o, ho, fun name => ?_⟩
  have e := hm name
  unfold nsFind findBy at e
  rw [← Array.find?_toList] at e
  unfold PySem.W.lookIn
  rw [hd]
  dsimp only
  split
  · rename_i y q
    rw [q] at e
    exact congrArg some e
  · rename_i q
    rw [q] at e
    have a : es.toList.any (·.refKey) = false := by
      rw [List.any_eq_false]
      intro y hy
      obtain ⟨z, t, hkey⟩ := hk y (Array.mem_toList_iff.mp hy)
      simp [DictEntry.refKey, hkey]
    have a' : ¬ es.toList.any (·.refKey) = true := by rw [a]; exact Bool.false_ne_true
    rw [if_neg a']
    exact congrArg some e
theorem ObjM.look {h : Heap} {x dx C : Addr} {mA : Str → Option Value} (I : ObjM h x dx C mA) : ∃ od, PySem.W.InstAt h x (PySem.W.instObj C dx) C (some od) ∧ ∀ name, PySem.W.lookIn name od = some (mA name) :=
  let ⟨od, ho, hl⟩ := lookIn_ns I.ns
  ⟨od, ⟨I.obj, rfl, rfl, ho⟩, hl⟩
section
variable {prog : Program} {w : World} {A : Around} {E : Value → Shared → Prop} {s : Shared} {K : PySem.W.Frag} {x dx C f : Addr} {mA : Str → Option Value} {name : Str} {v : Value}
end
/-! ### the attributes as a list of pairs -/
section
variable {P : Program} {w : World} {H H' : Hp} {h h' : Heap} {a C dx : Addr} {fs fs' : List (Str × V)}
theorem ins_get (hok : HOk P w H h) (e : H a = some (.ins C dx fs)) : ∃ mA, ObjM h a dx C mA ∧ (∀ f, RelO (fs.lookup f) (mA f)) ∧ PySem.Within mA (fs.map (·.1)) ∧ fs.length ≤ 1000 ∧ H dx = some (.own a) := by
  obtain ⟨d, z, ne, ob, mA, n, r, q⟩ := (show ObjOk P w H h a (.ins C dx fs) from hok a _ e)
  exact ⟨mA, ⟨ob, n, ne⟩, r, q, z, d⟩
end
/-! ### what of the text a class must have -/
structure Cls (K : PySem.W.Frag) (C : Addr) : Prop where
  pg : PySem.W.plainGet K C Str.empty = true
  hd : PySem.W.hasDictIn K C = true
  po : PySem.W.plainOver K C = true
  sa : PySem.W.findIn K (.ref C) "__setattr__" = some (some (.builtin "object.__setattr__"))
theorem Cls.get {K : PySem.W.Frag} {C : Addr} (c : Cls K C) (f : Str) : PySem.W.plainGet K C f = true := c.pg
section
variable {X : Cx} {pins : List (Addr × Obj)} {σ : St} {H : Hp} {s : Shared} {a C dx : Addr} {fs : List (Str × V)} {f : Str} {v : V} {A : Around} {E : Value → Shared → Prop}
end
/-! ### readings and rules -/
section
variable {X : Cx} {o e value : Expr} {f : Str} {pos pos' tpos : Pos} {ta tv : TE}
end
/-! ### isinstance -/
section
variable {X : Cx} {pins : List (Addr × Obj)} {σ : St} {H : Hp} {s : Shared} {A : Around} {E : Value → Shared → Prop} {Q : Value → Shared → Prop} {c : Value} {b : Bool}
/-- the type of a value, as the fragment's deciders take it; for an instance its class -/
inductive TyOf (K : PySem.W.Frag) (H : Hp) : V → Value → Prop where
  | non : TyOf K H .non (.type "NoneType")
  | bl (x : Bool) : TyOf K H (.bl x) (.type "bool")
  | int (i : Int) : TyOf K H (.int i) (.type "int")
  | str (x : Str) : TyOf K H (.str x) (.type "str")
  | flt (x : UInt64) : TyOf K H (.flt x) (.type "float")
  | lst {a : Addr} {xs : List V} (e : H a = some (.lst xs)) : TyOf K H (.ref a) (.type "list")
  | frz {a : Addr} {o : Obj} {xs : List V} (e : H a = some (.frz o (.lst xs))) : TyOf K H (.ref a) (.type "list")
  | tup {a : Addr} {xs : List V} (e : H a = some (.tup xs)) : TyOf K H (.ref a) (.type "tuple")
  | dK {a : Addr} {kvs : List (Key × V)} (e : H a = some (.dK kvs)) : TyOf K H (.ref a) (.type "dict")
  | dT {a : Addr} {kvs : List (List Key × V)} (e : H a = some (.dT kvs)) : TyOf K H (.ref a) (.type "dict")
  | ins {a C dx : Addr} {fs : List (Str × V)} (e : H a = some (.ins C dx fs)) (cl : Cls K C) (ha : PySem.W.findIn K (.ref C) "__class__" = some (some (.builtin "object.__class__")))
      (hn : PySem.W.specialIn K (.builtin "object.__class__") "__get__" = some (some (.builtin "getset_descriptor.__get__"))) (htk : PySem.W.takesIn K (.builtin "object.__class__") = some true)
      (hm : PySem.W.mroIn K C (.type "object") = some true) : TyOf K H (.ref a) (.ref C)
/-- isinstance(x, c) for one class c, a built-in or an own one: kitOne's answer -/
theorem isinst_ok {x : V} {u t : Value} (I : Inv X pins σ H s) (rx : RelV x u) (ty : TyOf X.K H x t) (e : PySem.W.kitOne X.K t c = some b) (h : ∀ tk, Q (.bool b) { s with toks := tk }) :
    wpAny (model X.prog X.w) A (call (.builtin "isinstance") [u, c]) Q E s := by
  cases ty with
  | non => cases (show u = Value.none from rx); exact PySem.W.kia_one PySem.W.kitx_none I.kIn True.intro e (fun z => nomatch z) h
  | bl y => cases (show u = Value.bool y from rx); exact PySem.W.kia_one PySem.W.kitx_bool I.kIn True.intro e (fun z => nomatch z) h
  | int i => obtain ⟨t, q⟩ := (show ∃ t, u = Value.int i t from rx); cases q; exact PySem.W.kia_one PySem.W.kitx_int I.kIn True.intro e (fun z => nomatch z) h
  | str y => obtain ⟨t, q⟩ := (show ∃ t, u = Value.str y t from rx); cases q; exact PySem.W.kia_one PySem.W.kitx_str I.kIn True.intro e (fun z => nomatch z) h
  | flt y => obtain ⟨t, q⟩ := (show ∃ t, u = Value.float y t from rx); cases q; exact PySem.W.kia_one PySem.W.kitx_float I.kIn True.intro e (fun z => nomatch z) h
  | @lst a xs ea =>
    cases (show u = Value.ref a from rx)
    obtain ⟨_, _, n, _, h1⟩ := (show ObjOk X.prog X.w H s.heap a (.lst xs) from I.hok a _ ea)
    exact PySem.W.kia_one PySem.W.kitx_list I.kIn ⟨_, h1, rfl⟩ e (fun z => nomatch z) h
  | @frz a ob xs ea =>
    cases (show u = Value.ref a from rx)
    obtain ⟨_, _, _, n, _, h1⟩ := (show ObjOk X.prog X.w H s.heap a (.frz ob (.lst xs)) from I.hok a _ ea)
    exact PySem.W.kia_one PySem.W.kitx_list I.kIn ⟨_, h1, rfl⟩ e (fun z => nomatch z) h
  | @tup a xs ea =>
    cases (show u = Value.ref a from rx)
    obtain ⟨_, _, _, p⟩ := (show ObjOk X.prog X.w H s.heap a (.tup xs) from I.hok a _ ea)
    obtain ⟨o, h1, h2, _⟩ := p
    exact PySem.W.kia_one PySem.W.kitx_tuple I.kIn ⟨o, h1, h2⟩ e (fun z => nomatch z) h
  | @dK a kvs ea =>
    cases (show u = Value.ref a from rx)
    obtain ⟨_, _, vs, _, p⟩ := (show ObjOk X.prog X.w H s.heap a (.dK kvs) from I.hok a _ ea)
    obtain ⟨o, es, ep, h1, h2, _⟩ := p
    exact PySem.W.kia_one PySem.W.kitx_dict I.kIn ⟨o, h1, h2.1⟩ e (fun z => nomatch z) h
  | @dT a kvs ea =>
    cases (show u = Value.ref a from rx)
    obtain ⟨_, _, xs, _, o, es, ep, h1, h2, _⟩ := (show ObjOk X.prog X.w H s.heap a (.dT kvs) from I.hok a _ ea)
    exact PySem.W.kia_one PySem.W.kitx_dict I.kIn ⟨o, h1, h2.1⟩ e (fun z => nomatch z) h
  | @ins a C dx fs ea cl ha hn htk hm =>
    cases (show u = Value.ref a from rx)
    obtain ⟨mA, O, _⟩ := ins_get I.hok ea
    obtain ⟨od, J, _⟩ := O.look
    exact PySem.W.kia_one (PySem.W.kitx_own (cl.get _) cl.hd ha hn htk hm) I.kIn J e (fun z => nomatch z) h
end
end L2
namespace L2
open PySem PySem.Spec PyProof.Rows
/-! ### room -/
structure Room (k : Nat) (A : Around) : Prop where
  hd : A.handled = none
  dp : A.depth + 3 * k + 5 < recursionLimit
  un : A.units + 16 * k + 200 < cLine
theorem Room.mono {j k : Nat} {A : Around} (r : Room k A) (h : j ≤ k) : Room j A := ⟨r.hd, by have := r.dp; omega, by have := r.un; omega⟩
theorem Room.deeper {k : Nat} {A : Around} (r : Room (k + 1) A) (env : Env) : Room k (A.deeper env) :=
  ⟨r.hd, by have := r.dp; show A.depth + 1 + 3 * k + 5 < _; omega, by have := r.un; show A.units + 3 + 16 * k + 200 < _; omega⟩
theorem Room.depth {k : Nat} {A : Around} (r : Room k A) : A.depth < recursionLimit := by have := r.dp; omega
theorem Room.units0 {k : Nat} {A : Around} (r : Room k A) : A.units < cLine := by have := r.un; omega
/-! ### argument lists and displays -/
def tNil : TA := fun _ H Q => Q [] H
def tCons (ta : TE) (tr : TA) : TA := fun σ H Q => ta σ H fun x H1 => tr σ H1 fun xs H2 => Q (x :: xs) H2
section
variable {X : Cx} {e : Expr} {es : List Expr} {te : TE} {t : TA} {pos : Pos}
theorem pa_nil : PA X [] tNil := fun _ _ _ _ H Q I h => Calls.spliced_nil ⟨[], H, I, .nil, h⟩
theorem pa_cons (ha : PE X e te) (hr : PA X es t) (hs : starEach (e :: es) X.env = (false, eval e X.env) :: starEach es X.env := by rfl) : PA X (e :: es) (tCons te t) := by
  intro pos pins s σ H Q I h
  rw [hs]
  show wpAny _ _ (spliced ((false, eval e X.env) :: backTo pos (starEach es X.env))) _ _ s
  refine Calls.spliced_cons (thn (ha pins s σ H _ I h) fun u s1 ⟨x, H1, I1, r1, q1⟩ => ?_)
  exact thn (hr pos pins s1 σ H1 _ I1 q1) fun us s2 ⟨xs, H2, I2, r2, q2⟩ => ⟨x :: xs, H2, I2, .cons r1 r2, q2⟩
/-- a tuple, a list of written items -/
def tTup (t : TA) : TE := fun σ H Q => t σ H fun xs H1 => xs.length ≤ sizeLine ∧ ∀ p, H1 p = none → Q (.ref p) (upd H1 p (.tup xs))
def tLst (t : TA) : TE := fun σ H Q => t σ H fun xs H1 => xs.length ≤ sizeLine ∧ ∀ p, H1 p = none → Q (.ref p) (upd H1 p (.lst xs))
theorem pe_tup {x1} (h : PA X es t) : PE X (.Tuple es x1 pos) (tTup t) := by
  intro pins s σ H Q I hq
  refine wpAny_Tuple_spliced (thn (h pos pins s σ H _ I hq) fun us s1 ⟨xs, H1, I1, r, z, q⟩ => ⟨by rw [← r.length]; exact z, ?_⟩)
  have hf : H1 s1.heap.objs.size = none := I1.hok.fresh (Nat.le_refl _)
  refine ⟨.ref s1.heap.objs.size, upd H1 s1.heap.objs.size (.tup xs), I1.laid (t' := s1.toks) (fun b u e => Heap.get?_push_of_some _ e) (Nat.le_refl _) ?_, rfl, q _ hf⟩
  exact ⟨z, us, r, ⟨_, Heap.get?_push_size _ rfl, rfl, _, rfl⟩⟩
theorem pe_lst (h : PA X es t) : PE X (.List es pos) (tLst t) := by
  intro pins s σ H Q I hq
  refine wpAny_List_spliced (thn (h pos pins s σ H _ I hq) fun us s1 ⟨xs, H1, I1, r, z, q⟩ => ⟨by rw [← r.length]; exact z, ?_⟩)
  have hf : H1 s1.heap.objs.size = none := I1.hok.fresh (Nat.le_refl _)
  refine ⟨.ref s1.heap.objs.size, upd H1 s1.heap.objs.size (.lst xs), I1.laid (t' := s1.toks) (fun b u e => Heap.get?_push_of_some _ e) (Nat.le_refl _) ?_, rfl, q _ hf⟩
  exact ⟨z, us, 0, r, Heap.get?_push_size _ rfl⟩
end
/-! ### what a def promises -/
/-- a def's promise: the bound arguments in the parameters' order, the heap, the wanted end, the wanted exception -/
abbrev Sp := List V → Hp → VK → XK → Prop
/-- how an exception lies behind a call (file 08 gives it): the callers' frames, abstract heap and state ahead of the call, the wish, the exception, the state -/
abbrev CXT := List Env → Hp → Shared → XK → Value → Shared → Prop
/-- the state at a call -/
structure Env0 (P : Program) (w : World) (K : PySem.W.Frag) (mg : Str → Option Value) (base : Heap) (A : Around) (outer : List Env) (s : Shared) (H : Hp) : Prop where
  frames : A.frames = some outer
  mod : Mod K mg base
  bs : ∀ b o, base.get? b = some o → s.heap.get? b = some o ∧ H b = none
  bsz : base.objs.size ≤ s.heap.objs.size
  funs : s.heap.FunFrames base outer
  frf : ∀ b ∈ frs outer, H b = none
  hok : HOk P w H s.heap
  bare : AllBare s.gens
/-- a call's end -/
def CE (outer : List Env) (P : Program) (w : World) (H : Hp) (s : Shared) (Q : VK) (u : Value) (s' : Shared) : Prop :=
  ∃ v H', s'.os = s.os ∧ AllBare s'.gens ∧ Un (frs outer) [] H H' s.heap s'.heap ∧ HOk P w H' s'.heap ∧ RelV v u ∧ Q v H'
def CR (CX : CXT) (outer : List Env) (P : Program) (w : World) (H : Hp) (s : Shared) (Q : VK) (E : XK) (r : Result) (s' : Shared) : Prop :=
  match r with
  | .ok (.ret u) => CE outer P w H s Q u s'
  | .ok _ => False
  | .error e => CX outer H s E e s'
structure FnOk (P : Program) (w : World) (K : PySem.W.Frag) (mg : Str → Option Value) (base : Heap) (CX : CXT) (k : Nat) (f : Addr) (fd : FuncData) (ps : List Str) (sp : Sp) : Prop where
  len : ∀ vs H Q E, sp vs H Q E → vs.length = ps.length
  run : ∀ (A : Around) (outer : List Env) (s : Shared) (H : Hp) (args : Args) (us : List Value) (vs : List V) (Q : VK) (E : XK), Room k A → Env0 P w K mg base A outer s H → BindsTo s fd args (ps.zip us) → Vals vs us → sp vs H Q E →
    codeAny (model P w) A (.call (.ref f) args) (CR CX outer P w H s Q E) s
theorem FnOk.mono {P : Program} {w : World} {K : PySem.W.Frag} {mg : Str → Option Value} {base : Heap} {CX : CXT} {j k : Nat} {f : Addr} {fd : FuncData} {ps : List Str} {sp : Sp} (F : FnOk P w K mg base CX j f fd ps sp) (h : j ≤ k) :
    FnOk P w K mg base CX k f fd ps sp := ⟨F.len, fun A outer s H args us vs Q E hr => F.run A outer s H args us vs Q E (hr.mono h)⟩
section
variable {X : Cx} {pins : List (Addr × Obj)} {σ : St} {H : Hp} {s s' : Shared}
/-- from a body: what a callee wants -/
theorem Inv.env0 (I : Inv X pins σ H s) : Env0 X.prog X.w X.K X.mg X.base X.A X.stack s H :=
  ⟨I.ok.frames, I.ok.mod, I.bs, Nat.le_trans I.ok.bsz I.sz, I.stack, I.stkFree, I.hok, I.bare⟩
/-- behind a call -/
theorem Inv.after {Q : VK} {u : Value} (I : Inv X pins σ H s) (h : CE X.stack X.prog X.w H s Q u s') : EP X pins σ Q u s' := by
  obtain ⟨v, H', os, bare, un, hok, r, q⟩ := h
  obtain ⟨hh, g, d, t, os'⟩ := s'
  obtain rfl : os' = s.os := os
  exact ⟨v, H', I.call (h' := hh) (g' := g) (d' := d) (t' := t) (ch := []) un hok bare (fun b z => absurd z (by simp)), r, q⟩
end
/-! ### calls -/
/-- f(..): the written arguments, then the defaults dvs; E: what is wanted of an exception -/
def tCall (sp : Sp) (dvs : List V) (E : XK) (t : TA) : TE := fun σ H Q => t σ H fun vs H1 => sp (vs ++ dvs) H1 Q E
/-- how the parameters are bound: us the positional arguments, kw the keywords' values by name, ds the defaults that fill up -/
def Binds (K : PySem.W.Frag) (fd : FuncData) (ps : List Str) (ds : List Value) : Prop :=
  ∀ (s : Shared) (us : List Value), K.In s.heap → (us ++ ds).length = ps.length → BindsTo s fd ⟨us, []⟩ (ps.zip (us ++ ds))
/-- every parameter is given -/
theorem Binds.all {K : PySem.W.Frag} {fd : FuncData} {ps : List Str} (h : ∀ us : List Value, us.length = ps.length → bindArgs fd ⟨us, []⟩ = pure (ps.zip us)) : Binds K fd ps [] := fun s us _ hl => by
  rw [List.append_nil] at hl ⊢
  exact .of_eq (h us hl)
/-- an exception of a callee reaches what this body wants of exceptions -/
def Passes (CX : CXT) (X : Cx) (E : XK) : Prop := ∀ (pins : List (Addr × Obj)) (σ : St) (H : Hp) (s : Shared) (e : Value) (s' : Shared), Inv X pins σ H s → CX X.stack H s E e s' → X.xe e s'
section
variable {X : Cx} {CX : CXT} {k : Nat} {f C : Addr} {fd : FuncData} {ps : List Str} {sp : Sp} {dvs : List V} {ds : List Value} {E : XK} {x m : Str} {p pos apos : Pos} {e o : Expr} {es : List Expr} {ta : TE} {t : TA}
/-- the callee runs -/
theorem run_fn {pins : List (Addr × Obj)} {σ : St} {H : Hp} {s : Shared} {Q : VK} {us : List Value} {vs : List V} (F : FnOk X.prog X.w X.K X.mg X.base CX k f fd ps sp) (hr : Room k X.A) (hb : Binds X.K fd ps ds) (hd : Vals dvs ds) (hx : Passes CX X E)
    (I : Inv X pins σ H s) (r : Vals vs us) (h : sp (vs ++ dvs) H Q E) : wpAny (model X.prog X.w) X.A (call (.ref f) us) (EP X pins σ Q) X.xe s := by
  have r2 : Vals (vs ++ dvs) (us ++ ds) := r.append hd
  have hl : (us ++ ds).length = ps.length := by rw [← r2.length]; exact F.len _ _ _ _ h
  refine wpAny_call (codeAny_mono (F.run X.A X.stack s H ⟨us, []⟩ (us ++ ds) (vs ++ dvs) Q E hr I.env0 (hb s us I.kIn hl) r2 h) fun r s' hq => ?_)
  cases r with
  | error e => exact hx pins σ H s e s' I hq
  | ok fl =>
    cases fl with
    | ret u => exact I.after hq
    | next => exact False.elim hq
    | brk => exact False.elim hq
    | cont => exact False.elim hq
theorem pe_call (F : FnOk X.prog X.w X.K X.mg X.base CX k f fd ps sp) (hr : Room k X.A) (hg : Gl X x) (hm : X.mg x = some (.ref f)) (hk : PySem.W.keepIn X.K (.ref f) = true) (hb : Binds X.K fd ps ds) (hd : Vals dvs ds) (hx : Passes CX X E)
    (ha : PA X (e :: es) t) (hdb : (x == ("__debug__" : Str)) = false := by decide) (he : starEach (e :: es) X.env = (false, eval e X.env) :: starEach es X.env := by rfl) (hpl : (backTo pos (starEach es X.env)).any (·.1) = false := by rfl) :
    PE X (.Call (.Name x p) (e :: es) [] pos) (tCall sp dvs E t) := by
  intro pins s σ H Q I h
  refine wpAny_Call_Name_kw (ld_glob I hg hm ?_ hdb)
  refine PySem.W.callWith_K (h₀ := X.base) I.ok.mod.kin hk (thn (ha pos pins s σ H _ I h) fun us s1 ⟨vs, H1, I1, r, q⟩ => ⟨I1.kIn, ?_⟩) he hpl
  exact run_fn F hr hb hd hx I1 r q
end
/-! ### keywords -/
section
variable {X : Cx} {CX : CXT} {k : Nat} {f C : Addr} {fd : FuncData} {ps ks : List Str} {sp : Sp} {E : XK} {x m : Str} {p pos apos kpos : Pos} {e o : Expr} {es : List Expr} {kws : List Keyword} {te ta : TE} {t tk : TA} {nm : Option Str}
variable {g : List Value → List Value → List Value} {gV : List V → List V → List V}
end
/-! ### a def's body keeps its promise -/
/-- names: the parameters first -/
structure FnScope (N P : List Str) (sc : Scope) : Prop where
  kind : sc.kind = .function
  co : sc.isCoroutine = false
  gen : sc.isGenerator = false
  nd : N.Nodup
  pre : N.take P.length = P
  par : ∀ x ∈ P, sc.names.lookup x = some .local ∨ sc.names.lookup x = some .cell
  nofree : ∀ y ∈ sc.names, y.2 ≠ .free
theorem bindL_out {kindOf : Str → Option NameKind} {x : Str} : ∀ {binds : List (Str × Value)} {m : Str → Option Value}, (∀ v, (x, v) ∉ binds) → bindL kindOf binds m x = m x
  | [], _, _ => rfl
  | (n, v) :: r, m, h => by
    unfold bindL
    rw [bindL_out fun w hw => h w (List.mem_cons_of_mem _ hw)]
    split
    · have : x ≠ n := by rintro rfl; exact h v List.mem_cons_self
      simp [this]
    · rfl
theorem bindC_out {kindOf : Str → Option NameKind} {x : Str} : ∀ {binds : List (Str × Value)} {m : Str → Option Value}, (∀ v, (x, v) ∉ binds) → bindC kindOf binds m x = m x
  | [], _, _ => rfl
  | (n, v) :: r, m, h => by
    unfold bindC
    rw [bindC_out fun w hw => h w (List.mem_cons_of_mem _ hw)]
    split
    · rfl
    · have : x ≠ n := by rintro rfl; exact h v List.mem_cons_self
      simp [this]
theorem bindL_get {kindOf : Str → Option NameKind} {x : Str} {v : Value} : ∀ {P : List Str} {vs : List Value} {i : Nat} {m : Str → Option Value}, P.Nodup → P[i]? = some x → vs[i]? = some v → kindOf x = some .local →
    bindL kindOf (P.zip vs) m x = some v
  | [], _, _, _, _, h, _, _ => by simp at h
  | _ :: _, [], _, _, _, _, h, _ => by simp at h
  | p :: P, w :: vs, 0, m, nd, h1, h2, hk => by
    simp at h1 h2; subst h1; subst h2
    show bindL kindOf ((p, w) :: P.zip vs) m p = _
    unfold bindL
    rw [bindL_out fun v hv => (List.nodup_cons.mp nd).1 (List.of_mem_zip hv).1, if_pos hk]
    simp
  | p :: P, w :: vs, i + 1, m, nd, h1, h2, hk => by
    show bindL kindOf ((p, w) :: P.zip vs) m x = _
    unfold bindL
    exact bindL_get (i := i) (List.nodup_cons.mp nd).2 (by simpa using h1) (by simpa using h2) hk
theorem bindC_get {kindOf : Str → Option NameKind} {x : Str} {v : Value} : ∀ {P : List Str} {vs : List Value} {i : Nat} {m : Str → Option Value}, P.Nodup → P[i]? = some x → vs[i]? = some v → kindOf x ≠ some .local →
    bindC kindOf (P.zip vs) m x = some v
  | [], _, _, _, _, h, _, _ => by simp at h
  | _ :: _, [], _, _, _, _, h, _ => by simp at h
  | p :: P, w :: vs, 0, m, nd, h1, h2, hk => by
    simp at h1 h2; subst h1; subst h2
    show bindC kindOf ((p, w) :: P.zip vs) m p = _
    unfold bindC
    rw [bindC_out fun v hv => (List.nodup_cons.mp nd).1 (List.of_mem_zip hv).1, if_neg hk]
    simp
  | p :: P, w :: vs, i + 1, m, nd, h1, h2, hk => by
    show bindC kindOf ((p, w) :: P.zip vs) m x = _
    unfold bindC
    exact bindC_get (i := i) (List.nodup_cons.mp nd).2 (by simpa using h1) (by simpa using h2) hk
/-- the names' values at the entry -/
def start (N : List Str) (vs : List V) : St := vs.map some ++ List.replicate (N.length - vs.length) none
/-- the context of a def's body, at its entry; an exception leaves the frame, then lies as CX says -/
def cxOf (CX : CXT) (P : Program) (w : World) (K : PySem.W.Frag) (mg : Str → Option Value) (base : Heap) (N : List Str) (qual : Str) (scope : Scope) (f : Addr) (cd : Value) (A : Around) (outer : List Env) (s : Shared) (H : Hp) (E : XK) : Cx where
  prog := P
  w := w
  K := K
  mg := mg
  base := base
  A := A.deeper (envOfC qual scope s.heap.objs.size f cd)
  N := N
  s₀ := s
  H₀ := H
  env := envOfC qual scope s.heap.objs.size f cd
  outer := outer
  stack := envOfC qual scope s.heap.objs.size f cd :: outer
  ex := []
  calm := true
  fn := fun _ => true
  pn := []
  xe := fun e s' => wpAny (model P w) (A.deeper (envOfC qual scope s.heap.objs.size f cd)) (leaving (envOfC qual scope s.heap.objs.size f cd) e) (fun _ s'' => CX outer H s E e s'') (fun e' s'' => CX outer H s E e' s'') s'
theorem cell_has {sc : Scope} {n : Nat} {x : Str} (h : sc.names.lookup x = some .cell) : ∃ c, (cellsFrom n sc.names []).lookup x = some c := by
  have q := PySem.W.cellsFrom_some sc.names n [] (.inl h)
  exact Option.isSome_iff_exists.mp q
theorem inv_start {CX : CXT} {P : Program} {w : World} {K : PySem.W.Frag} {mg : Str → Option Value} {base : Heap} {N ps : List Str} {qual : Str} {scope : Scope} {f : Addr} {cd : Value} {A : Around} {outer : List Env} {s s1 : Shared} {H : Hp} {E : XK} {us : List Value} {vs : List V}
    (S : FnScope N ps scope) (hd : A.handled = none) (e0 : Env0 P w K mg base A outer s H) (hl : vs.length = ps.length) (r : Vals vs us)
    (x : InCallC s s.heap.objs.size (bindL (envOfC qual scope s.heap.objs.size f cd).kindOf (ps.zip us) fun _ => none) (cellsFrom (s.heap.objs.size + 1) scope.names []) (bindC (envOfC qual scope s.heap.objs.size f cd).kindOf (ps.zip us) fun _ => none) s1) :
    Inv (cxOf CX P w K mg base N qual scope f cd A outer s H E) [] (start N vs) H s1 := by
  have hpl : ps.length ≤ N.length := by have := congrArg List.length S.pre; rw [List.length_take] at this; omega
  obtain ⟨h1, tk, rfl, hk⟩ := x.done
  have noA : ∀ b : Addr, b ∉ (cxOf CX P w K mg base N qual scope f cd A outer s H E).ex := fun b z => absurd (show b ∈ ([] : List Addr) from z) (by simp)
  refine ⟨⟨e0.mod, S.kind, rfl, rfl, Nat.le_refl _, fun y z c h1 h2 => ?_, fun y hy => ?_, fun y c _ h => ?_, fun _ => hd, Around.frames_deeper e0.frames, .inr ⟨rfl, rfl⟩, fun b z => absurd z (noA b), e0.bs, e0.bsz, fun b _ _ => noA b, fun b z => absurd z (noA b), e0.funs, e0.frf⟩,
    rfl, e0.bare, Un.kept hk, ⟨_, x.toInCall.ns, fun i y v h1 h2 h3 => ?_⟩, fun y c h => ⟨_, x.cell y c h⟩, e0.hok.fresh (Nat.le_refl _), fun y c h => ?_, fun p hp => absurd (show p ∈ ([] : List (Addr × Obj)) from hp) (by simp), e0.hok.kept hk, ?_⟩
  · exact name_of_addr x.apart (PySem.mem_of_lookup h1) (PySem.mem_of_lookup h2)
  · have hy : scope.names.lookup y = some .cell ∨ scope.names.lookup y = some .free := hy
    rcases hy with hy | hy
    · exact cell_has hy
    · exact absurd rfl (S.nofree _ (PySem.mem_of_lookup hy))
  · exact Nat.le_of_lt (x.above y c (PySem.mem_of_lookup h))
  · have hi : i < vs.length := by
      unfold start at h2
      by_cases hi : i < vs.length
      · exact hi
      · rw [List.getElem?_append_right (by simpa using hi)] at h2
        rw [List.getElem?_replicate] at h2
        split at h2 <;> cases h2
    have ha : vs[i]? = some v := by
      unfold start at h2
      rw [List.getElem?_append_left (by simpa using hi), List.getElem?_map] at h2
      cases e : vs[i]? with
      | none => rw [e] at h2; cases h2
      | some a => rw [e] at h2; cases h2; rfl
    obtain ⟨u, hu, rv⟩ := r.get ha
    have hp : ps[i]? = some y := by
      rw [← S.pre, List.getElem?_take_of_lt (by omega)]; exact h1
    have ndP : ps.Nodup := by rw [← S.pre]; exact S.nd.sublist (List.take_sublist _ _)
    refine ⟨u, rv, ?_⟩
    rcases S.par y (List.mem_of_getElem? hp) with k | k
    · exact .inl ⟨k, bindL_get ndP hp hu k⟩
    · obtain ⟨c, e⟩ := cell_has (n := s.heap.objs.size + 1) k
      refine .inr ⟨.inl k, c, e, ?_⟩
      have q := x.cell y c e
      rw [bindC_get ndP hp hu (by show scope.names.lookup y ≠ _; rw [k]; decide)] at q
      exact q
  · exact e0.hok.fresh (Nat.le_of_lt (x.above y c (PySem.mem_of_lookup h)))
  · unfold start
    show _ = N.length
    rw [List.length_append, List.length_map, List.length_replicate]
    omega
/-- THE RULE: a def (or a method) of the text, by its body. The body's reading t is chosen for each entry; it is run at the parameters' values -/
theorem fn_of {CX : CXT} {P : Program} {w : World} {K : PySem.W.Frag} {mg : Str → Option Value} {base : Heap} {k : Nat} {f : Addr} {name qual : Str} {params : Arguments} {body : List Stmt} {scope : Scope} {dV kV doc pm cdv ct oc : Value} {an od : Option Addr}
    {osl : Array (Option Value)} {N ps : List Str} {sp : Sp} (lk : K.lookup f = some ⟨oc, od, .func (PySem.W.fnOf name qual params body scope dV kV doc pm an cdv ct), osl⟩) (hcd : PySem.W.codeIn K cdv qual = true) (S : FnScope N ps scope)
    (len : ∀ vs H Q E, sp vs H Q E → vs.length = ps.length)
    (hbody : ∀ (A : Around) (outer : List Env) (s : Shared) (H : Hp) (vs : List V) (Q : VK) (E : XK), Room k (A.deeper (envOfC qual scope s.heap.objs.size f cdv)) → sp vs H Q E →
      ∃ t, PSs (cxOf CX P w K mg base N qual scope f cdv A outer s H E) body t ∧ t { nx := fun _ H' => Q .non H', rt := Q } (start N vs) H) :
    FnOk P w K mg base CX (k + 1) f (PySem.W.fnOf name qual params body scope dV kV doc pm an cdv ct) ps sp := by
  refine ⟨len, fun A outer s H args us vs Q E hr e0 hb r hsp => ?_⟩
  have hl := len _ _ _ _ hsp
  have KX : K.In s.heap := e0.mod.kin.keeps fun b o e => (e0.bs b o e).1
  have lim : s.heap.NoLimit := e0.mod.nolimit.keeps fun b o e => (e0.bs b o e).1
  have hkind : ∀ y ∈ ps.zip us, scope.names.lookup y.1 = some .local ∨ (scope.names.lookup y.1 = some .cell ∧ ((cellsFrom (s.heap.objs.size + 1) scope.names []).lookup y.1).isSome = true) := fun ⟨n, v⟩ hy => by
    rcases S.par n (List.of_mem_zip hy).1 with q | q
    · exact .inl q
    · exact .inr ⟨q, PySem.W.cellsFrom_some _ _ _ (.inl q)⟩
  refine codeAny_call_function hr.depth (KX _ _ lk) rfl S.co S.gen rfl (PySem.W.codeRec_of KX hcd) (hb _ _ _ _ ?_)
  refine wpAny_newFunctionEnv_cells S.kind hkind fun env he s1 x => ?_
  subst he
  refine ⟨lim.keeps x.toInCall.keep, codeAny_func ?_⟩
  obtain ⟨t, ht, hq⟩ := hbody A outer s H vs Q E (hr.deeper _) hsp
  have I : Inv (cxOf CX P w K mg base N qual scope f cdv A outer s H E) [] (start N vs) H s1 := inv_start S hr.hd e0 hl r x
  refine wpAny_mono (ht [] s1 (start N vs) H _ I hq) (fun fl s' hs => ?_) fun e s' hs => hs
  have fin : ∀ {σ' : St} {H' : Hp} {v : V} {u : Value}, Inv (cxOf CX P w K mg base N qual scope f cdv A outer s H E) [] σ' H' s' → RelV v u → Q v H' → CE outer P w H s Q u s' :=
    fun {σ' H' v u} J rv q => ⟨v, H', J.os, J.bare, J.base, J.hok, rv, q⟩
  cases fl with
  | ret u =>
    obtain ⟨v, σ', H', J, rv, q⟩ := hs
    exact fin J rv q
  | next =>
    obtain ⟨σ', H', J, q⟩ := hs
    exact fin (v := V.non) (u := Value.none) J rfl q
  | brk =>
    obtain ⟨_, _, _, q⟩ := hs
    exact False.elim q
  | cont =>
    obtain ⟨_, _, _, q⟩ := hs
    exact False.elim q
end L2
namespace L2
open PySem PySem.Spec PyProof.Rows
section
variable {X : Cx} {x : Str} {p pos : Pos} {e : Expr} {es : List Expr} {t : TA} {id T : String} {r : List V → Hp → VK → Prop}
def tCB (r : List V → Hp → VK → Prop) (t : TA) : TE := fun σ H Q => t σ H fun vs H1 => r vs H1 Q
/-- f(e, ..), f a built-in function -/
theorem pe_callB (hc : CallR X (.builtin id) r) (hg : Gl X x) (hm : X.mg x = none) (hv : bootBuiltins x = some (.builtin id)) (ha : PA X (e :: es) t) (hn : x ≠ "__name__" := by decide) (hdb : (x == ("__debug__" : Str)) = false := by decide)
    (he : starEach (e :: es) X.env = (false, eval e X.env) :: starEach es X.env := by rfl) (hpl : (backTo pos (starEach es X.env)).any (·.1) = false := by rfl) : PE X (.Call (.Name x p) (e :: es) [] pos) (tCB r t) := by
  intro pins s σ H Q I h
  refine wpAny_Call_Name_kw (ld_blt I hg hm hv ?_ hn hdb)
  exact PyProof.Rows.callWith_builtin1 (thn (ha pos pins s σ H _ I h) fun us s1 ⟨vs, H1, I1, r1, q1⟩ => hc pins s1 σ H1 vs us Q I1 r1 q1) he hpl
end
end L2
namespace HT
open PySem PyProof.Rows
section
open PySem.SeqAt
open PySem.AutoSeq1 (wpAny_loadPart')
open PySem.MeetsSeq PySem.MeetsSeq2 PySem.MeetsSeq3
end
section
variable {prog : Program} {w : World} {A : Around} {E : Value → Shared → Prop} {s : Shared}
/-! ### t[a:b], not the whole -/
end
end HT
namespace L2
open PySem PySem.Spec PyProof.Rows
/-! ### the parts of a slice -/
section
variable {X : Cx} {e : Expr} {te : TE} {lo hi : Option Expr} {tl th : TO} {pos p2 : Pos}
/-! ### t < u, t + u -/
end
end L2
namespace L2
open PySem PySem.Spec PyProof.Rows
/-! ### places -/
/-- the place that an index of any sign means -/
def ixN (n : Nat) (i : Int) : Option Nat := if 0 ≤ i then (if i < n then some i.toNat else none) else if -(n : Int) ≤ i then some (i + n).toNat else none
def atI {α : Type} (xs : List α) (i : Int) : Option α := (ixN xs.length i).bind fun j => xs[j]?
theorem ixN_seq {n : Nat} {i : Int} {j : Nat} (h : ixN n i = some j) : seqIndex? i n = some j ∧ j < n ∧ -(n : Int) ≤ i ∧ i < n := by
  unfold ixN at h
  by_cases h0 : 0 ≤ i
  · rw [if_pos h0] at h
    by_cases h1 : i < n
    · rw [if_pos h1] at h
      have e : i.toNat = j := Option.some.inj h
      exact ⟨by rw [seqIndex_of h0 h1, e], by omega, by omega, h1⟩
    · rw [if_neg h1] at h; cases h
  · rw [if_neg h0] at h
    by_cases h1 : -(n : Int) ≤ i
    · rw [if_pos h1] at h
      have e : (i + n).toNat = j := Option.some.inj h
      exact ⟨by rw [seqIndex_neg (by omega) h1, e], by omega, h1, by omega⟩
    · rw [if_neg h1] at h; cases h
theorem atI_get {α : Type} {xs : List α} {i : Int} {v : α} (h : atI xs i = some v) : ∃ j, seqIndex? i xs.length = some j ∧ xs[j]? = some v ∧ j < xs.length ∧ -(xs.length : Int) ≤ i ∧ i < xs.length := by
  unfold atI at h
  cases e : ixN xs.length i with
  | none => rw [e] at h; cases h
  | some j =>
    rw [e] at h
    obtain ⟨h1, h2, h3, h4⟩ := ixN_seq e
    exact ⟨j, h1, h, h2, h3, h4⟩
theorem atI_nat {α : Type} {xs : List α} {j : Nat} {v : α} (h : xs[j]? = some v) : atI xs (j : Int) = some v := by
  have hj : j < xs.length := (List.getElem?_eq_some_iff.mp h).1
  have e : ixN xs.length (j : Int) = some j := by
    unfold ixN
    rw [if_pos (by omega), if_pos (by omega)]; simp
  unfold atI; rw [e]; exact h
/-! ### what may be subscripted -/
/-- what stands as an index of a plain subscript -/
def PlainIx (b : Expr) : Prop := ∀ o i, subscripted b false o i = operate [o, i] (getItem o i)
/-- a subscript by values -/
def IxR (X : Cx) (r : R2) : Prop :=
  ∀ (value slice : Expr) (pins : List (Addr × Obj)) (s : Shared) (σ : St) (H : Hp) (x y : V) (v u : Value) (Q : VK), Inv X pins σ H s → RelV x v → RelV y u → r x y H Q →
    subscripted slice false v u = operate [v, u] (getItem v u) → wpAny (model X.prog X.w) X.A (subscriptTail value slice v u) (EP X pins σ Q) X.xe s
section
variable {X : Cx} {a b : Expr} {ta tb : TE} {pos : Pos}
/-- a[b] -/
theorem pe_ix {r : R2} (hr : IxR X r) (ha : PE X a ta) (hb : PE X b tb) (hs : PlainIx b) : PE X (.Subscript a b pos) (tOp r ta tb) := by
  intro pins s σ H Q I h
  exact Subscript_ (binT ha hb I h fun v u s2 x y H2 I2 rx ry q => hr a b pins s2 σ H2 x y v u Q I2 rx ry q (hs _ _))
def rIxL (K : PySem.W.Frag) : R2 := fun x y H Q => ∃ p xs i v, x = .ref p ∧ y = .int i ∧ SqL K H p xs ∧ atI xs i = some v ∧ Q v H
def rIxT (K : PySem.W.Frag) : R2 := fun x y H Q => ∃ p xs i v, x = .ref p ∧ y = .int i ∧ SqT K H p xs ∧ atI xs i = some v ∧ Q v H
theorem ix_list : IxR X (rIxL X.K) := by
  intro value slice pins s σ H x y v u Q I rx ry h hs
  obtain ⟨p, xs, i, z, rfl, rfl, hq, he, q⟩ := h
  cases rx
  obtain ⟨t, rfl⟩ := ry
  obtain ⟨its, r, pl, hz⟩ := I.list hq
  obtain ⟨j, h1, h2, h3, h4, h5⟩ := atI_get he
  obtain ⟨w, ew, rw'⟩ := r.get h2
  have hl := r.length
  have hn := line63
  have fin : EP X pins σ Q w s := ⟨z, H, I, rw', q⟩
  by_cases h0 : 0 ≤ i
  · have hj : i.toNat = j := by
      rw [seqIndex_of h0 h5] at h1
      exact Option.some.inj h1
    exact item_listR pl.isList h0 (by omega) (by rw [hj]; simpa using ew) fin hs
  · have hj : (i + (its.toArray.size : Int)).toNat = j := by
      rw [seqIndex_neg (by omega) h4] at h1
      rw [List.size_toArray, ← hl]
      exact Option.some.inj h1
    exact subscriptTail_builtinR (x := w) pl.isList.typeIs slot_list_getitem.lookup
      (wpAny_getItem_list_neg (Q := fun r s' => r = w ∧ EP X pins σ Q r s') pl.isList (by omega) (by rw [List.size_toArray] <;> omega) (by omega) (by rw [hj]; simpa using ew) ⟨rfl, fin⟩) hs
theorem ix_tup : IxR X (rIxT X.K) := by
  intro value slice pins s σ H x y v u Q I rx ry h hs
  obtain ⟨p, xs, i, z, rfl, rfl, hq, he, q⟩ := h
  cases rx
  obtain ⟨t, rfl⟩ := ry
  obtain ⟨its, r, pl, hz⟩ := I.tuple hq
  obtain ⟨j, h1, h2, h3, h4, h5⟩ := atI_get he
  obtain ⟨w, ew, rw'⟩ := r.get h2
  have hl := r.length
  have hn := line63
  have fin : EP X pins σ Q w s := ⟨z, H, I, rw', q⟩
  exact subscriptTail_builtinR (x := w) pl.typeIs slot_tuple_getitem.lookup
    (getItem_tuple (j := j) (Q := fun r s' => r = w ∧ EP X pins σ Q r s') pl (by omega) (by omega) (by rw [List.size_toArray, ← hl]; exact h1) (by simpa using ew) ⟨rfl, fin⟩) hs
/-! ### xs[i] = v, any sign -/
/-! ### slices -/
/-! ### in, not in: flat items -/
/-! ### len, list(x), tuple(x) of any list or tuple that is read -/
theorem call_len_seq : CallR X (.builtin "len") (fun xs H Q => ∃ p ys, xs = [.ref p] ∧ (SqL X.K H p ys ∨ SqT X.K H p ys) ∧ Q (.int ys.length) H) := by
  intro pins s σ H xs us Q I r h
  obtain ⟨p, ys, rfl, hq, q⟩ := h
  obtain ⟨u, rfl, rx⟩ := vals1 r
  cases rx
  have hn := line63
  rcases hq with hq | hq
  · obtain ⟨its, r', pl, hz⟩ := I.list hq
    have hlen := r'.length
    exact Calls.call_len_list pl.isList (by simp only [List.size_toArray] <;> omega) ⟨.int ys.length, H, I.tok _, ⟨s.toks + 1, by rw [List.size_toArray, hlen]⟩, q⟩
  · obtain ⟨its, r', pl, hz⟩ := I.tuple hq
    have hlen := r'.length
    exact len_tuple pl (by simp only [List.size_toArray] <;> omega) ⟨.int ys.length, H, I.tok _, ⟨s.toks + 1, by rw [List.size_toArray, hlen]⟩, q⟩
/-! ### the call of a builtin's method: o.m(..) -/
variable {o e : Expr} {es : List Expr} {to : TE} {t : TA} {name : Str} {apos cpos : Pos} {T id : String} {r : V → List V → Hp → VK → Prop}
/- xs.append(e), list.index on a module's tuple .. are MtR facts of 06m -/
end
end L2
namespace L2
open PySem PySem.Spec PyProof.Rows
/-! ### lists of values -/
section
variable {X : Cx} {pins : List (Addr × Obj)} {σ : St} {H : Hp} {s : Shared} {l b : Addr} {xs ys zs : List V}
/-! ### the two steps: a tracked list is rewritten, a new list is laid -/
theorem Inv.lnew {its : List Value} {t' : Nat} (I : Inv X pins σ H s) (hv : Vals ys its) (hz : ys.length ≤ sizeLine) :
    Inv X pins σ (upd H s.heap.objs.size (.lst ys)) { s with heap := s.heap.push { cls := .type "list", data := .seq its.toArray }, toks := t' } :=
  I.laid (fun _ _ q => Heap.get?_push_of_some _ q) (Nat.le_refl _) ⟨hz, its, 0, hv, Heap.get?_push_size _ rfl⟩
theorem Inv.fresh (I : Inv X pins σ H s) : H s.heap.objs.size = none := I.hok.fresh (Nat.le_refl _)
theorem Inv.lstM (I : Inv X pins σ H s) (hH : H l = some (.lst xs)) : xs.length ≤ sizeLine ∧ ∃ (its : List Value) (n : Nat), Vals xs its ∧ xs.length = its.length ∧ s.heap.get? l = some { cls := .type "list", data := .seq its.toArray n } := by
  obtain ⟨z, its, n, r, e⟩ := I.hok l _ hH
  exact ⟨z, its, n, r, r.length, e⟩
end
section
variable {X : Cx}
/-! ### methods -/
/-! ### list + list, list += list, list * int -/
def rCat : R2 := fun x y H Q => ∃ l b xs zs, x = .ref l ∧ y = .ref b ∧ H l = some (.lst xs) ∧ H b = some (.lst zs) ∧ xs.length + zs.length ≤ sizeLine ∧ ∀ p, H p = none → Q (.ref p) (upd H p (.lst (xs ++ zs)))
theorem op_cat : OpR X (binaryOp .Add) rCat := by
  intro pins s σ H x y v u Q I rx ry h
  obtain ⟨l, b, xs, zs, rfl, rfl, hH, hB, hz, q⟩ := h
  cases rx
  cases ry
  obtain ⟨z, its, n, r, hl, e⟩ := I.lstM hH
  obtain ⟨z2, its2, n2, r2, hl2, e2⟩ := I.lstM hB
  refine PySem.P.add_list e e2 ?_ (by rw [List.size_toArray, List.size_toArray]; omega)
  have ea : its.toArray ++ its2.toArray = (its ++ its2).toArray := by simp
  rw [ea]
  exact ⟨.ref _, _, I.lnew (t' := s.toks) (r.append r2) (by rw [List.length_append]; omega), rfl, q _ I.fresh⟩
/-! ### del xs[i] -/
end
/-! ### xs[a:b] = ys -/
section
variable {prog : Program} {w : World} {A : Around} {E : Value → Shared → Prop} {s : Shared}
set_option maxRecDepth 100000 in
end
section
variable {X : Cx}
end
end L2
namespace Att
open PySem PySem.W PySem.Calls PyProof.Rows
/-! ### the script -/
theorem ints_of_wellAll {P : Params} {h : Heap} : ∀ (ns : List Int) (vs : List Value), WellAll P h vs (ns.map WData.int) → IntsAre vs ns := by
  intro ns
  induction ns with
  | nil =>
    intro vs w
    rw [List.map_nil] at w
    cases w
    exact .nil
  | cons n ns ih =>
    intro vs w
    rw [List.map_cons] at w
    cases w with
    | cons a b =>
      cases a
      exact .cons _ _ (ih _ b)
theorem script_of {l : OpenLaw} {n : Nat} (hn : l.most = some n) {P : Params} {h : Heap} {args : List WData} {vals : List Value}
    (hpre : l.row.toRowW.claim.pre args = true) (hwl : WellAll P h vals args) :
    ∃ a vs ns, vals = [Value.ref a] ∧ args = [WData.list (ns.map WData.int)] ∧ h.get? a = some { cls := .type "list", data := .seq vs.toArray } ∧ IntsAre vs ns ∧ ns.length ≤ n := by
  have hsh : WShape.hasAll [] args [.list .int] = true := (pre_splitW hpre).1
  have hc : l.pre.holds [] { args := args } = true := (pre_splitW hpre).2
  obtain ⟨d, r, rfl, h1, h2⟩ := hasAllW_cons hsh
  obtain rfl := hasAllW_nil h2
  obtain ⟨xs, rfl, h3⟩ := hasW_list h1
  obtain ⟨ns, rfl⟩ := items_int h3
  have hlen : ns.length ≤ n := by
    unfold OpenLaw.pre at hc
    have h4 : (WTm.not (.lt (.lit (.int (n : Int))) (.len (.arg 0)))).holds [] { args := [.list (ns.map .int)] } = true := by
      have h4 := (holds_andW hc).1
      rw [hn] at h4
      exact h4
    have h5 := condW_of h4 (w_not (w_lt w_lit (w_len_list (w_arg rfl))))
    rw [List.length_map] at h5
    refine Nat.le_of_not_lt fun q => ?_
    have q' : (n : Int) < ((ns.length : Nat) : Int) := by omega
    first
      | (rw [decide_eq_true q'] at h5; exact absurd h5 (by decide))
      | (simp at h5; omega)
  cases hwl with
  | cons w1 w2 =>
    cases w2
    cases w1 with
    | list ho hall => exact ⟨_, _, ns, rfl, rfl, ho, ints_of_wellAll ns _ hall, hlen⟩
theorem post_true (l : OpenLaw) (args : List WData) : l.row.toRowW.claim.post args (.bool true) args = true :=
  postW_of (r := l.row.toRowW) (X := (true == true))
    (show WShape.has [] (.bool true) .bool = true by first | rfl | decide | simp [WShape.has, WShape.arms, WShape.armsAll])
    (show (WTm.eq .res (.lit (.bool true))).value [] { args := args, res := some (.bool true), after := args } = some (.bool (true == true)) from w_eq_bool (w_res rfl) w_lit) rfl
/-! ### the attachment: holds_open's last premise (the goal 'hc' behind k_head) from a wpAny of the law's body -/
/-- the same from a codeAny of the CALL (for a layer whose function contracts speak of calls) -/
theorem attach_call {l : OpenLaw} {n : Nat} {q : Program} {loose : List Str} {XP : (Str → Option Value) → Heap → Prop} {YP : World → Heap → Prop} {d : DefRec}
    (hn : l.most = some n) (hdf : d.params.defaults = [])
    (call : ∀ (w : World) (s₀ s₁ : Shared) (mg mb : Str → Option Value) (fa : Addr) (o : Obj) (pm cd doc : Value) (a : Addr) (vs : List Value) (ns : List Int),
      Ground q loose [] XP w s₀ mg mb s₁.heap → YP w s₁.heap →
      s₁.heap.get? fa = some o → o.data = .func (docDef d.name d.params d.body d.scope pm cd doc) → s₁.heap.CodeRec cd d.name → mg d.name = some (.ref fa) →
      s₁.heap.get? a = some { cls := .type "list", data := .seq vs.toArray } → IntsAre vs ns → ns.length ≤ n → s₁.gens = #[] →
      codeAny (model l.prog w) callerA (.call (.ref fa) ⟨[.ref a], []⟩) (fun r s' => r = .ok (.ret (.bool true)) ∧ OldK s₁.heap s'.heap ∧ s'.os = s₁.os ∧ AllBare s'.gens) s₁) :
    WalkO q loose XP YP l.row.toRowW d [] (fun f vs => PySem.call f vs) := by
  intro w s₀ s₁ mg mb G Y fa o pm cd doc dV kV ho hd hcd hD hmg hg args vals as hpre hlay hrd hwl hlo
  obtain rfl : dV = .none := Dflts.none hD hdf
  obtain rfl : kV = .none := Dflts.noKw hD
  obtain ⟨a, vs, ns, rfl, rfl, hobj, hints, hlen⟩ := script_of hn hpre hwl
  refine enter_call (codeAny_mono (call w s₀ s₁ mg mb fa o pm cd doc a vs ns G Y ho (fd_plain hd) hcd hmg hobj hints hlen hg) fun r s' hq => ?_)
  obtain ⟨rfl, h2, h3, h4⟩ := hq
  exact ⟨.inl ⟨.bool true, .bool true, [], rfl, fun _ => rfl, .bool true, post_true l _, fun _ => ⟨List.Pairwise.nil, fun _ hm => (nomatch hm)⟩⟩, h2, h3, h4⟩
/-! ### rules over ANY heap (no ledger) from facts about the written part K: the library's own take a ledger (News) for what they write -/
section
variable {prog : Program} {w : World} {A : Around} {E : Value → Shared → Prop} {s : Shared} {K : Frag}
/-! the whole heap as the ledger: makes every rule that writes through a ledger a rule over any heap -/
end
end Att
namespace L2
open PySem PySem.Spec PyProof.Rows
theorem vals_ints : ∀ {vs : List Value} {ns : List Int}, IntsAre vs ns → Vals (ns.map V.int) vs
  | _, _, .nil => .nil
  | _, _, .cons n t h => .cons ⟨t, rfl⟩ (vals_ints h)
/-- nothing is tracked but the script, known to the object (or it is an object of the module) -/
def Only (H : Hp) : Prop := ∀ b, H b = none ∨ ∃ o xs, H b = some (.frz o (.lst xs))
/-- THE HEAD: the law's promise, at the heap behind the top. F, the promise of the law's def, may use that base is part of the heap (so K.In base, base.Ns mainGlobals mg stand in Mod) -/
theorem law_call {P : Program} {w : World} {K : PySem.W.Frag} {mg mb : Str → Option Value} {CX : CXT} {k : Nat} {fa a : Addr} {fd : FuncData} {x : Str} {sp : Sp} {s₁ : Shared} {vs : List Value} {ns : List Int}
    (KX : K.In s₁.heap) (hns : s₁.heap.Ns mainGlobals mg) (hb : s₁.heap.Ns builtinsNs mb) (hbb : ∀ x : Str, x ≠ "__name__" → mb x = bootBuiltins x) (hlim : s₁.heap.NoLimit) (hg : s₁.gens = #[])
    (ha : s₁.heap.get? a = some { cls := .type "list", data := .seq vs.toArray }) (hi : IntsAre vs ns) (hl : ns.length ≤ sizeLine) (hr : Room k callerA)
    (F : ∀ base : Heap, K.In base → base.Ns mainGlobals mg → FnOk P w K mg base CX k fa fd [x] sp) (hbind : ∀ (s : Shared) (u : Value), BindsTo s fd ⟨[u], []⟩ [(x, u)])
    (hsp : ∀ H : Hp, Only H → SqL K H a (ns.map V.int) → sp [.ref a] H (fun v _ => v = .bl true) fun _ _ _ => False)
    (hCX : ∀ H e s', CX [] H s₁ (fun _ _ _ => False) e s' → False) :
    codeAny (model P w) callerA (.call (.ref fa) ⟨[.ref a], []⟩) (fun r s' => r = .ok (.ret (.bool true)) ∧ OldK s₁.heap s'.heap ∧ s'.os = s₁.os ∧ AllBare s'.gens) s₁ := by
  have rv := vals_ints hi
  have lenV := hi.length
  -- from an abstract heap in which nothing but the script may be tracked
  have core : ∀ H : Hp, Only H → SqL K H a (ns.map V.int) → HOk P w H s₁.heap → (∀ b, H b ≠ none → b = a) → (H a ≠ none → K.lookup a = none) →
      codeAny (model P w) callerA (.call (.ref fa) ⟨[.ref a], []⟩) (fun r s' => r = .ok (.ret (.bool true)) ∧ OldK s₁.heap s'.heap ∧ s'.os = s₁.os ∧ AllBare s'.gens) s₁ := by
    intro H hO hS hok hA hK
    have base_of : ∀ {b : Addr} {o : Obj}, s₁.heap.get? b = some o → H b = none → (hidT s₁.heap H).get? b = some o := fun e n => hidT_get e n
    have noA : ∀ {b : Addr} {o : Obj} {es : Array DictEntry} {ep : Nat}, s₁.heap.get? b = some o → o.data = .dict es ep → H b = none := fun {b o es ep} e d => by
      cases q : H b with
      | none => rfl
      | some u =>
        have e' : b = a := hA b (by rw [q]; simp)
        subst e'
        rw [ha] at e; cases e
        have d' : Data.seq vs.toArray _ = Data.dict es ep := d
        cases d'
    have nsK : ∀ {b : Addr} {m : Str → Option Value}, s₁.heap.Ns b m → (hidT s₁.heap H).Ns b m := fun {b m} ⟨o, es, ep, e, d, r⟩ => ⟨o, es, ep, base_of e (noA e d), d, r⟩
    have hKb : K.In (hidT s₁.heap H) := fun b o e => base_of (KX b o e) (by
      cases q : H b with
      | none => rfl
      | some u =>
        have e' : b = a := hA b (by rw [q]; simp)
        subst e'
        rw [hK (by rw [q]; simp)] at e; cases e)
    have hM : Mod K mg (hidT s₁.heap H) := ⟨hKb, nsK hns, ⟨mb, nsK hb, hbb⟩, let ⟨mc, h1, h2⟩ := hlim; ⟨mc, nsK h1, h2⟩⟩
    have e0 : Env0 P w K mg (hidT s₁.heap H) callerA [] s₁ H := ⟨rfl, hM, fun b o e => of_hidT e, Nat.le_of_eq (hidT_size _ _), trivial, fun b hb => absurd (show b ∈ ([] : List Addr) from hb) (by simp), hok, .of_eq hg⟩
    refine codeAny_mono ((F _ hKb (nsK hns)).run callerA [] s₁ H ⟨[.ref a], []⟩ [.ref a] [.ref a] _ _ hr e0 (hbind s₁ (.ref a)) (.cons rfl .nil) (hsp H hO hS)) fun r s' h => ?_
    cases r with
    | error e => exact (hCX H e s' h).elim
    | ok fl =>
      cases fl with
      | next => exact False.elim h
      | brk => exact False.elim h
      | cont => exact False.elim h
      | ret u =>
        obtain ⟨v, H', os, bare, un, hok', r', q⟩ := h
        have q' : v = .bl true := q
        subst q'
        obtain rfl : u = Value.bool true := r'
        refine ⟨rfl, OldK.of_keep fun b o e => ?_, os, bare⟩
        cases q : H b with
        | none => exact un.keep b o e q (by intro z; exact absurd (show b ∈ ([] : List Addr) from z) (by simp)) (by simp)
        | some u =>
          rcases hO b with z | ⟨ob, xs, z⟩
          · rw [q] at z; cases z
          · have z2 := un.frzs b ob _ z
            obtain ⟨e1, _⟩ := hok b _ z
            obtain ⟨e2, _⟩ := hok' b _ z2
            rw [e] at e1; cases e1
            exact e2
  cases hk : K.lookup a with
  | some o =>
    -- the script is one of the module's own objects
    have e := KX a o hk
    rw [ha] at e
    cases e
    refine core (fun _ => none) (fun _ => .inl rfl) (.inr ⟨_, vs.toArray, _, hk, rfl, rfl, rfl, by rw [List.size_toArray, lenV]; exact hl, by simpa using rv⟩) (fun b u z => by have z' : (none : Option HO) = some u := z; cases z') (fun b z => absurd rfl z) fun z => absurd rfl z
  | none =>
    refine core (fun b => if b = a then some (.frz { cls := .type "list", data := .seq vs.toArray } (.lst (ns.map V.int))) else none) (fun b => ?_) (.inl (.inr ⟨{ cls := .type "list", data := .seq vs.toArray }, if_pos rfl⟩)) (fun b u z => ?_) (fun b z => ?_) fun _ => hk
    · by_cases hb : b = a
      · exact .inr ⟨_, _, if_pos hb⟩
      · exact .inl (if_neg hb)
    · by_cases hb : b = a
      · have z' := (if_pos hb).symm.trans z
        cases z'
        subst hb
        exact ⟨ha, by rw [List.length_map]; exact hl, vs, _, rv, ha⟩
      · have z' := (if_neg hb).symm.trans z
        cases z'
    · by_cases hb : b = a
      · exact hb
      · exact absurd (if_neg hb) z
end L2
namespace L2
open PySem PySem.Spec PyProof.Rows
/-- the goal that k_head leaves (case hc), from the law's promise. F gives the function object fd (K's own) once, then the promise over every base -/
theorem walk_of {l : PySem.W.OpenLaw} {n k : Nat} {q : Program} {loose : List Str} {XP : (Str → Option Value) → Heap → Prop} {YP : World → Heap → Prop} {d : DefRec} {K : Params → PySem.W.Frag} {CX : World → CXT} {sp : World → Sp} {x : Str}
    (hn : l.most = some n) (hn2 : n ≤ sizeLine) (hdf : d.params.defaults = []) (hr : Room k callerA)
    (hY : ∀ (w : World) (h : Heap), YP w h → (K w.params).In h)
    (F : ∀ (w : World) (mg : Str → Option Value) (fa : Addr) (h : Heap), (K w.params).In h → h.Ns mainGlobals mg → mg d.name = some (.ref fa) →
      ∃ fd : FuncData, (∀ (s : Shared) (u : Value), BindsTo s fd ⟨[u], []⟩ [(x, u)]) ∧
        ∀ base : Heap, (K w.params).In base → base.Ns mainGlobals mg → FnOk l.prog w (K w.params) mg base (CX w) k fa fd [x] (sp w))
    (hsp : ∀ (w : World) (H : Hp) (a : Addr) (ns : List Int), ns.length ≤ n → Only H → SqL (K w.params) H a (ns.map V.int) → sp w [.ref a] H (fun v _ => v = .bl true) fun _ _ _ => False)
    (hCX : ∀ (w : World) (H : Hp) (s : Shared) (e : Value) (s' : Shared), CX w [] H s (fun _ _ _ => False) e s' → False) :
    PySem.W.WalkO q loose XP YP l.row.toRowW d [] (fun f vs => PySem.call f vs) := by
  refine Att.attach_call hn hdf fun w s₀ s₁ mg mb fa o pm cd doc a vs ns G Y ho hd hcd hmg hobj hints hlen hg => ?_
  have KX := hY w _ Y
  obtain ⟨fd, hb, hF⟩ := F w mg fa _ KX G.T.g hmg
  exact law_call KX G.T.g G.T.b G.T.builtins G.T.nolimit hg hobj hints (Nat.le_trans hlen hn2) hr hF hb (fun H hO hS => hsp w H a ns hlen hO hS) fun H e s' => hCX w H s₁ e s'
end L2
/- THE LAST THEOREM (shape; LID, My.* are yours):
   My.Adr: a structure of the addresses that your layer names (classes, functions); My.Txt K t: a structure (Prop) of the equations over K;
   My.txt_mk : {K} {implicit addresses ..} (e1 : nsIn K mainGlobals "law" = some (some (.ref f))) (e2 : K.lookup f = some ⟨oc, od, .func (fnOf "law" "law" params body scope dV kV doc pm an cdv ct), sl⟩) (e3 : codeIn K cdv "law" = true) .. : ∃ t, My.Txt K t
set_option maxRecDepth 100000 in
set_option maxHeartbeats 0 in
theorem PySem.Challenge.cw_LID_holds : PySem.Challenge.rw_LID.Holds := by
  w_on; o_law; k_head; (case hw => w_witness2)
  k_fill
  refine L2.walk_of (l := PySem.Challenge.rw_LID) (n := 63) (k := 40) (x := "script") (CX := fun w => ..) (sp := fun _ => My.sp_law) rfl (by decide) rfl ⟨rfl, by decide, by decide⟩ (fun w h Y => PySem.W.kIn_of Y) ?F ?S ?C
  case F =>
    intro w mg fa h KX G hmg
    have T : ∃ t, My.Txt (L2.KOf KX) t := by
      dsimp only [L2.KOf]                          -- K must stand as «<heap const> w.params» for k_is
      refine' My.txt_mk ?e1 ?e2 ?e3 ..
      (case e1 => PySem.W.k_is)                    -- in the order: a name -> its address -> its object -> its parts
      (case e2 => PySem.W.k_is)
      ..
    obtain ⟨t, T⟩ := T
    have e0 := hmg.symm.trans (PySem.W.mg_of KX G T.law)
    cases e0                                       -- fa is the law's own address
    exact ⟨_, fun s u => .of_eq rfl, fun base kb nb => My.law_fn T kb nb⟩     -- if «.of_eq rfl» comes too early: refine' ⟨_, ?b, fun base kb nb => My.law_fn T kb nb⟩; exact fun s u => .of_eq rfl
  case S => exact fun w H a ns hl hO hS => ..
  case C => exact ..
(the tactic k_is has no namespace: write k_is) -/
/-! SHORT WORDS over the layer: a def of the text, its body, what a loop and a test want. -/
namespace L2
open PySem PySem.Spec PyProof.Rows
/-! ### the text by places -/
def defArgs (s : Stmt) : Arguments := match s with
  | .FunctionDef _ a _ _ _ _ _ _ _ _ => a
  | _ => { posonlyargs := [], args := [], vararg := none, kwonlyargs := [], kw_defaults := [], kwarg := none, defaults := [] }
def defBody (s : Stmt) : List Stmt := match s with
  | .FunctionDef _ _ b _ _ _ _ _ _ _ => b
  | _ => []
def defScope (s : Stmt) : Scope := match s with
  | .FunctionDef _ _ _ _ _ _ sc _ _ _ => sc
  | _ => { kind := .function, names := [], isGenerator := false, isCoroutine := false }
/-! ### no exception leaves a def -/
abbrev CX0 : CXT := fun _ _ _ _ _ _ => False
abbrev E0 : XK := fun _ _ _ => False
theorem pass0 {X : Cx} : Passes CX0 X E0 := fun _ _ _ _ _ _ _ h => h.elim
/-! ### a def (or method) of the text as it stands behind the top -/
structure Fun (K : PySem.W.Frag) (x qual : Str) (st : Stmt) (f : Addr) (fd : FuncData) : Prop where
  ex : ∃ (oc : Value) (od : Option Addr) (kV doc pm : Value) (an : Option Addr) (cdv ct : Value) (osl : Array (Option Value)),
    fd = PySem.W.fnOf x qual (defArgs st) (defBody st) (defScope st) .none kV doc pm an cdv ct ∧ K.lookup f = some ⟨oc, od, .func fd, osl⟩ ∧ PySem.W.codeIn K cdv qual = true
  kp : PySem.W.keepIn K (.ref f) = true
section
variable {P : Program} {w : World} {K : PySem.W.Frag} {mg : Str → Option Value} {base : Heap}
/-- THE RULE for a def: its body as a term of rules, and the reading of that term -/
theorem Fun.ok {x qual : Str} {st : Stmt} {f : Addr} {fd : FuncData} {N ps : List Str} {k : Nat} {sp : Sp} (F : Fun K x qual st f fd) (S : FnScope N ps (defScope st)) (len : ∀ vs H Q E, sp vs H Q E → vs.length = ps.length)
    (hbody : ∀ (cdv : Value) (A : Around) (outer : List Env) (s : Shared) (H : Hp) (vs : List V) (Q : VK) (E : XK), Room k (A.deeper (envOfC qual (defScope st) s.heap.objs.size f cdv)) → sp vs H Q E →
      ∃ t, PSs (cxOf CX0 P w K mg base N qual (defScope st) f cdv A outer s H E).nox (defBody st) t ∧ t { nx := fun _ H' => Q .non H', rt := Q } (start N vs) H) : FnOk P w K mg base CX0 (k + 1) f fd ps sp := by
  obtain ⟨oc, od, kV, doc, pm, an, cdv, ct, osl, rfl, lk, hcd⟩ := F.ex
  refine fn_of lk hcd S len fun A outer s H vs Q E hr hsp => ?_
  obtain ⟨t, h, q⟩ := hbody cdv A outer s H vs Q E hr hsp
  exact ⟨t, h.nox, q⟩
/-- how its arguments bind (no defaults): h is «fun _ _ _ _ _ _ us hl => match us, hl with | [_, _], _ => rfl», one _ a parameter -/
theorem Fun.binds {x qual : Str} {st : Stmt} {f : Addr} {fd : FuncData} {ps : List Str} (F : Fun K x qual st f fd)
    (h : ∀ (kV doc pm : Value) (an : Option Addr) (cdv ct : Value) (us : List Value), us.length = ps.length → bindArgs (PySem.W.fnOf x qual (defArgs st) (defBody st) (defScope st) .none kV doc pm an cdv ct) ⟨us, []⟩ = pure (ps.zip us)) : Binds K fd ps [] := by
  obtain ⟨oc, od, kV, doc, pm, an, cdv, ct, osl, rfl, lk, hcd⟩ := F.ex
  exact .all (h kV doc pm an cdv ct)
theorem fun_mk {x qual : Str} {st : Stmt} {f : Addr} {oc : Value} {od an : Option Addr} {osl : Array (Option Value)} {kV doc pm cdv ct : Value} (l : K.lookup f = some ⟨oc, od, .func (PySem.W.fnOf x qual (defArgs st) (defBody st) (defScope st) .none kV doc pm an cdv ct), osl⟩)
    (c : PySem.W.codeIn K cdv qual = true) (k : PySem.W.keepIn K (.ref f) = true) : Fun K x qual st f (PySem.W.fnOf x qual (defArgs st) (defBody st) (defScope st) .none kV doc pm an cdv ct) := ⟨⟨oc, od, kV, doc, pm, an, cdv, ct, osl, rfl, l, c⟩, k⟩
end
theorem small1000 {n : Nat} (h : n ≤ 1000) : n < sizeLine := Nat.lt_of_le_of_lt h (by decide)
/-! ### expressions in short: the name that stands in the i-th slot -/
section
variable {X : Cx}
end
/-! ### tests -/
theorem iteF {A B : Prop} (h : B) : if false = true then A else B := by
  rw [if_neg Bool.false_ne_true]
  exact h
theorem iteT {A B : Prop} (h : A) : if true = true then A else B := by
  rw [if_pos rfl]
  exact h
theorem ite2 {c A B : Prop} [Decidable c] (h1 : c → A) (h2 : ¬ c → B) : if c then A else B := by
  by_cases h : c
  · rw [if_pos h]
    exact h1 h
  · rw [if_neg h]
    exact h2 h
theorem iteNS {c A B : Prop} [Decidable c] (hc : c) (h : B) : if (!decide c) = true then A else B := by
  rw [decide_eq_true hc]
  exact iteF h
/-! ### heaps -/
/-- all that was tracked is as it was -/
def Same (H H' : Hp) : Prop := ∀ b o, H b = some o → H' b = some o
theorem Same.trans {H H1 H2 : Hp} (a : Same H H1) (b : Same H1 H2) : Same H H2 := fun c o h => b c o (a c o h)
theorem Same.seq {K : PySem.W.Frag} {H H' : Hp} {a : Addr} {xs : List V} (e : Same H H') (h : SqL K H a xs) : SqL K H' a xs := by
  rcases h with (h | ⟨o, h⟩) | h
  · exact .inl (.inl (e _ _ h))
  · exact .inl (.inr ⟨o, e _ _ h⟩)
  · exact .inr h
end L2
set_option Elab.async false
set_option linter.all false
set_option maxRecDepth 100000
namespace LN
/-- a size: below 2 to the power n, without the sign -/
def Bd (n : Nat) (i : Int) : Prop := i.natAbs < 2 ^ n
theorem Bd.mono {m n : Nat} {i : Int} (h : Bd m i) (hmn : m ≤ n) : Bd n i :=
  Nat.lt_of_lt_of_le h (Nat.pow_le_pow_right (by decide) hmn)
theorem Bd.mul {m n : Nat} {i j : Int} (hi : Bd m i) (hj : Bd n j) : Bd (m + n) (i * j) := by
  unfold Bd at *
  rw [Int.natAbs_mul, Nat.pow_add]
  exact Nat.mul_lt_mul_of_lt_of_le hi (Nat.le_of_lt hj) (Nat.two_pow_pos n)
theorem Bd.neg {n : Nat} {i : Int} (hi : Bd n i) : Bd n (-i) := by
  unfold Bd at *
  omega
theorem Bd.of_le {n : Nat} {i j : Int} (hj : Bd n j) (h : i.natAbs ≤ j.natAbs) : Bd n i := Nat.lt_of_le_of_lt h hj
theorem Bd.dvd {n : Nat} {i j : Int} (hj : Bd n j) (h : i ∣ j) (h0 : j ≠ 0) : Bd n i :=
  hj.of_le (Nat.le_of_dvd (Int.natAbs_pos.mpr h0) (Int.natAbs_dvd_natAbs.mpr h))
theorem Bd.log2 {n : Nat} {i : Int} (h : Bd n i) (hn : 0 < n) : i.natAbs.log2 < n := by
  by_cases h0 : i.natAbs = 0
  · rw [h0]
    exact Nat.lt_of_le_of_lt (by decide : Nat.log2 0 ≤ 0) hn
  · exact (Nat.log2_lt h0).mpr h
theorem Bd.of_abs {n : Nat} {i : Int} {b : Nat} (h1 : -(b : Int) ≤ i) (h2 : i ≤ (b : Int)) (hb : b < 2 ^ n) : Bd n i := by
  unfold Bd
  omega
/-! ### powers by squares -/
/-! ### how often p divides -/
end LN
set_option Elab.async false
set_option linter.all false
set_option maxRecDepth 100000
namespace LN
/-! ### the greatest common divisor -/
theorem gcd_turn {a b : Nat} : Nat.gcd b (a % b) = Nat.gcd a b := by
  rw [Nat.gcd_comm b, ← Nat.gcd_rec, Nat.gcd_comm]
/-- (x, y) is t by b in lowest terms -/
structure Low (t b x y : Int) : Prop where
  pos : 0 < y
  cop : Nat.gcd x.natAbs y.natAbs = 1
  eq : x * b = t * y
  xd : x ∣ t
  yd : y ∣ b
theorem Low.of {t b c : Int} {g : Nat} (hg : Nat.gcd t.natAbs b.natAbs = g) (hb : b ≠ 0) (hc : c.natAbs = g) (hs : 0 < b → 0 < c) (hs' : b < 0 → c < 0) : Low t b (t.fdiv c) (b.fdiv c) := by
  have hg0 : 0 < g := by rw [← hg]; exact Nat.gcd_pos_of_pos_right _ (Int.natAbs_pos.mpr hb)
  have hc0 : c ≠ 0 := by omega
  have d1 : c ∣ t := Int.natAbs_dvd_natAbs.mp (by rw [hc, ← hg]; exact Nat.gcd_dvd_left _ _)
  have d2 : c ∣ b := Int.natAbs_dvd_natAbs.mp (by rw [hc, ← hg]; exact Nat.gcd_dvd_right _ _)
  obtain ⟨x, rfl⟩ := d1
  obtain ⟨y, rfl⟩ := d2
  rw [Int.mul_fdiv_cancel_left x hc0, Int.mul_fdiv_cancel_left y hc0]
  have hy : 0 < y := by
    rcases Int.lt_trichotomy c 0 with h | h | h
    · rcases Int.lt_or_le 0 y with z | z
      · exact z
      · exfalso
        have := Int.mul_nonneg_of_nonpos_of_nonpos (Int.le_of_lt h) z
        rcases Int.lt_or_le 0 (c * y) with q | q
        · have := hs q; omega
        · exact hb (by omega)
    · exact absurd h hc0
    · rcases Int.lt_or_le 0 y with z | z
      · exact z
      · exfalso
        have := Int.mul_nonpos_of_nonneg_of_nonpos (Int.le_of_lt h) z
        rcases Int.lt_or_le (c * y) 0 with q | q
        · have := hs' q; omega
        · exact hb (by omega)
  refine ⟨hy, ?_, ?_, ⟨c, Int.mul_comm c x⟩, ⟨c, Int.mul_comm c y⟩⟩
  · rw [Int.natAbs_mul, Int.natAbs_mul, Nat.gcd_mul_left, hc] at hg
    have : g * Nat.gcd x.natAbs y.natAbs = g * 1 := by omega
    exact Nat.eq_of_mul_eq_mul_left hg0 this
  · rw [Int.mul_left_comm, Int.mul_assoc]
theorem dvd_of_cross {x y x' y' : Int} (h : x * y' = x' * y) (c : Nat.gcd x.natAbs y.natAbs = 1) : y ∣ y' := by
  have h1 : y ∣ x * y' := ⟨x', by rw [h, Int.mul_comm]⟩
  refine Int.natAbs_dvd_natAbs.mp ?_
  have h2 : y.natAbs ∣ x.natAbs * y'.natAbs := by rw [← Int.natAbs_mul]; exact Int.natAbs_dvd_natAbs.mpr h1
  exact Nat.Coprime.dvd_of_dvd_mul_left (Nat.Coprime.symm c) h2
theorem Low.cross {t b x y x' y' : Int} (hb : b ≠ 0) (h : Low t b x y) (h' : Low t b x' y') : x * y' = x' * y := by
  refine Int.eq_of_mul_eq_mul_right hb ?_
  rw [Int.mul_right_comm, h.eq, Int.mul_right_comm x', h'.eq, Int.mul_right_comm]
theorem cross_one {x y x' y' : Int} (p : 0 < y) (p' : 0 < y') (c : Nat.gcd x.natAbs y.natAbs = 1) (c' : Nat.gcd x'.natAbs y'.natAbs = 1) (h : x * y' = x' * y) : x = x' ∧ y = y' := by
  have h1 := Int.le_of_dvd p' (dvd_of_cross h c)
  have h2 := Int.le_of_dvd p (dvd_of_cross h.symm c')
  have e : y = y' := by omega
  subst e
  exact ⟨Int.eq_of_mul_eq_mul_right (by omega) h, rfl⟩
theorem Low.one {t b x y x' y' : Int} (hb : b ≠ 0) (h : Low t b x y) (h' : Low t b x' y') : x = x' ∧ y = y' := cross_one h.pos h'.pos h.cop h'.cop (h.cross hb h')
end LN
set_option Elab.async false
set_option linter.all false
set_option maxRecDepth 100000
/-! WHAT ALL MY LAWS USE: the built-ins' names, kinds of things, cells of the script. -/
namespace L2
open PySem PySem.Spec PyProof.Rows
theorem bt_int : bootBuiltins "int" = some (.type "int") := by decide +kernel
theorem bt_bool : bootBuiltins "bool" = some (.type "bool") := by decide +kernel
theorem bt_tuple : bootBuiltins "tuple" = some (.type "tuple") := by decide +kernel
theorem bt_isinstance : bootBuiltins "isinstance" = some (.builtin "isinstance") := by decide +kernel
theorem bt_len : bootBuiltins "len" = some (.builtin "len") := by decide +kernel
theorem bt_abs : bootBuiltins "abs" = some (.builtin "abs") := by decide +kernel
theorem bt_any : bootBuiltins "any" = some (.builtin "any") := by decide +kernel
section
variable {es : List Expr} {env : Env} {pos : Pos}
theorem star_Constant {c : Const} {k : Nat} : starEach (.Constant c k pos :: es) env = (false, eval (.Constant c k pos) env) :: starEach es env := by rw [starEach]; intro e p z; cases z
theorem star_Name {x : Str} : starEach (.Name x pos :: es) env = (false, eval (.Name x pos) env) :: starEach es env := by rw [starEach]; intro e p z; cases z
theorem star_List {l : List Expr} : starEach (.List l pos :: es) env = (false, eval (.List l pos) env) :: starEach es env := by rw [starEach]; intro e p z; cases z
theorem star_Tuple {l : List Expr} {k : Nat} : starEach (.Tuple l k pos :: es) env = (false, eval (.Tuple l k pos) env) :: starEach es env := by rw [starEach]; intro e p z; cases z
theorem star_Dict {a : List (Option Expr)} {b : List Expr} : starEach (.Dict a b pos :: es) env = (false, eval (.Dict a b pos) env) :: starEach es env := by rw [starEach]; intro e p z; cases z
theorem star_BinOp {a b : Expr} {o : Operator} : starEach (.BinOp a o b pos :: es) env = (false, eval (.BinOp a o b pos) env) :: starEach es env := by rw [starEach]; intro e p z; cases z
theorem star_UnaryOp {a : Expr} {o : UnaryOp} : starEach (.UnaryOp o a pos :: es) env = (false, eval (.UnaryOp o a pos) env) :: starEach es env := by rw [starEach]; intro e p z; cases z
theorem star_Call {f : Expr} {a : List Expr} {k : List Keyword} : starEach (.Call f a k pos :: es) env = (false, eval (.Call f a k pos) env) :: starEach es env := by rw [starEach]; intro e p z; cases z
theorem star_Subscript {a b : Expr} : starEach (.Subscript a b pos :: es) env = (false, eval (.Subscript a b pos) env) :: starEach es env := by rw [starEach]; intro e p z; cases z
end
theorem same_new {H : Hp} {p : Addr} (h : H p = none) (o : HO) : Same H (upd H p o) := fun b u q => by rw [upd_ne (ne_of_none q h)]; exact q
/-- the kinds of things that are drawn -/
inductive Kind : String → Bool → Bool → Bool → Prop where
  | non : Kind "NoneType" false false false
  | bl : Kind "bool" true true false
  | int : Kind "int" true false false
  | str : Kind "str" false false false
  | lst : Kind "list" false false false
  | tup : Kind "tuple" false false true
  | dct : Kind "dict" false false false
theorem Kind.kit_int {K : PySem.W.Frag} {t : String} {i b u : Bool} (k : Kind t i b u) : PySem.W.kitOne K (.type t) (.type "int") = some i := by
  cases k <;> kernel_rfl
theorem Kind.kit_bool {K : PySem.W.Frag} {t : String} {i b u : Bool} (k : Kind t i b u) : PySem.W.kitOne K (.type t) (.type "bool") = some b := by
  cases k <;> kernel_rfl
theorem Kind.kit_tuple {K : PySem.W.Frag} {t : String} {i b u : Bool} (k : Kind t i b u) : PySem.W.kitOne K (.type t) (.type "tuple") = some u := by
  cases k <;> kernel_rfl
def isI : V → Bool
  | .int _ => true
  | _ => false
/-- a thing: of one of these kinds -/
def Thing (K : PySem.W.Frag) (H : Hp) (v : V) : Prop := ∃ t i b u, Kind t i b u ∧ TyOf K H v (.type t) ∧ (i && !b) = isI v
section
variable {K : PySem.W.Frag} {H : Hp}
theorem Thing.int (i : Int) : Thing K H (.int i) := ⟨_, _, _, _, .int, .int i, rfl⟩
theorem Thing.bl (i : Bool) : Thing K H (.bl i) := ⟨_, _, _, _, .bl, .bl i, rfl⟩
theorem Thing.non : Thing K H .non := ⟨_, _, _, _, .non, .non, rfl⟩
theorem Thing.str (x : Str) : Thing K H (.str x) := ⟨_, _, _, _, .str, .str x, rfl⟩
theorem Thing.lst {a : Addr} {xs : List V} (h : H a = some (.lst xs)) : Thing K H (.ref a) := ⟨_, _, _, _, .lst, .lst h, rfl⟩
theorem Thing.tup {a : Addr} {xs : List V} (h : H a = some (.tup xs)) : Thing K H (.ref a) := ⟨_, _, _, _, .tup, .tup h, rfl⟩
theorem Thing.dct {a : Addr} {xs : List (Key × V)} (h : H a = some (.dK xs)) : Thing K H (.ref a) := ⟨_, _, _, _, .dct, .dK h, rfl⟩
end
/-- is_whole, _law_number: of any thing -/
def spWhole (K : PySem.W.Frag) : Sp := fun vs H Q _ => ∃ v, vs = [v] ∧ Thing K H v ∧ Q (.bl (isI v)) H
/-- a cell of the script -/
def spCell (K : PySem.W.Frag) : Sp := fun vs H Q _ => ∃ (a : Addr) (ns : List Int) (k : Nat), vs = [.ref a, .int (k : Int)] ∧ SqL K H a (ns.map V.int) ∧ Q (.int (ns.getD k 0)) H
/-- what law(script) promises -/
def spLaw (K : PySem.W.Frag) : Sp := fun vs H Q _ => ∃ (a : Addr) (ns : List Int), vs = [.ref a] ∧ SqL K H a (ns.map V.int) ∧ ns.length ≤ 63 ∧ ∀ H', Q (.bl true) H'
theorem small {n : Nat} (h : n ≤ 1000) : n ≤ sizeLine := Nat.le_of_lt (small1000 h)
theorem cell_there {ns : List Int} {k : Nat} (h : k < ns.length) : atI (ns.map V.int) (k : Int) = some (.int (ns.getD k 0)) := by
  refine atI_nat ?_
  rw [List.getElem?_map, List.getElem?_eq_getElem h, List.getD_eq_getElem?_getD, List.getElem?_eq_getElem h]
  rfl
theorem cell_none {ns : List Int} {k : Nat} (h : ¬ k < ns.length) : ns.getD k 0 = 0 := by
  rw [List.getD_eq_getElem?_getD, List.getElem?_eq_none (by omega)]
  rfl
/-- the item of a written list at a rest -/
theorem at_rest {xs : List V} {i : Int} {P : V → Prop} (h0 : 0 ≤ i) (h1 : i < (xs.length : Int)) (h : ∀ v ∈ xs, P v) : ∃ v, atI xs i = some v ∧ P v := by
  have hk : i.toNat < xs.length := by omega
  have ek : i = ((i.toNat : Nat) : Int) := by omega
  refine ⟨xs[i.toNat], ?_, h _ (List.getElem_mem hk)⟩
  have q : atI xs ((i.toNat : Nat) : Int) = some xs[i.toNat] := atI_nat (List.getElem?_eq_getElem hk)
  rw [← ek] at q
  exact q
/-- a test upon ints that is known -/
theorem iteI {a b : Int} {A B : Prop} (h1 : a = b → A) (h2 : a ≠ b → B) : if decide (V.int a = V.int b) = true then A else B := by
  rw [dec_int]
  by_cases h : a = b
  · rw [h, beq_self_eq_true]
    exact iteT (h1 h)
  · rw [beq_eq_false_iff_ne.mpr h]
    exact iteF (h2 h)
theorem iteL {a b : Int} {A B : Prop} (h1 : a < b → A) (h2 : ¬ a < b → B) : if decide (a < b) = true then A else B :=
  ite2 (fun h => h1 (of_decide_eq_true h)) fun h => h2 fun z => h (decide_eq_true z)
end L2
set_option Elab.async false
set_option linter.all false
set_option maxRecDepth 100000
/-! RULES OF MY OWN over the layer: isinstance, bit_length, a range downwards, reversed, great products and quotients, an empty dict. -/
namespace L2
open PySem PySem.Spec PyProof.Rows
section
variable {X : Cx}
/-- isinstance(x, c), c a built-in type -/
def rInst (K : PySem.W.Frag) : List V → Hp → VK → Prop := fun xs H Q => ∃ (x : V) (n : String) (t : Value) (b : Bool), xs = [x, .ty n] ∧ TyOf K H x t ∧ PySem.W.kitOne K t (.type n) = some b ∧ Q (.bl b) H
theorem call_inst : CallR X (.builtin "isinstance") (rInst X.K) := by
  intro pins s σ H xs us Q I r h
  obtain ⟨x, n, t, b, rfl, ty, e, q⟩ := h
  obtain ⟨u, c, rfl, ru, rc⟩ := vals2 r
  cases (show c = Value.type n from rc)
  exact isinst_ok I ru ty e fun tk => ⟨.bl b, H, I.tok _, rfl, q⟩
/-- products and quotients of great numbers -/
def CMulB (i j : Int) : Prop := LN.Bd 1000000 i ∧ LN.Bd 1000000 j
theorem CMulB.ok {i j : Int} (h : CMulB i j) : IntMulOk i j :=
  IntMulOk.of_bits (Nat.le_trans (intBits_le_iff.mpr h.1) (by decide)) (Nat.le_trans (intBits_le_iff.mpr h.2) (by decide))
theorem op_mulB : OpR X (binaryOp .Mult) (rI CMulB fun i j => .int (i * j)) := opI fun _ _ _ _ _ _ _ hc q => mul_int q hc.ok
def CDivB (_i j : Int) : Prop := 0 < j ∧ LN.Bd 8000 j
theorem op_fdivB : OpR X (binaryOp .FloorDiv) (rI CDivB fun i j => .int (i / j)) := opI fun i j _ _ _ _ _ hc q => by
  have h1 : (0 : Int) < j := hc.1
  exact floordiv_int (by omega) (by rw [Int.fdiv_eq_ediv_of_nonneg i (by omega)]; exact q) (.inl (PyProof.noPylong_of_log2 (Nat.lt_of_lt_of_le (hc.2.log2 (by decide)) (by decide))))
def CDivN2 (_i j : Int) : Prop := j ≠ 0 ∧ LN.Bd 8000 j
theorem op_fdivN2 : OpR X (binaryOp .FloorDiv) (rI CDivN2 fun i j => .int (i.fdiv j)) := opI fun i j _ _ _ _ _ hc q =>
  floordiv_int hc.1 q (.inl (PyProof.noPylong_of_log2 (Nat.lt_of_lt_of_le (hc.2.log2 (by decide)) (by decide))))
theorem Inv.big2 {pins : List (Addr × Obj)} {σ : St} {H : Hp} {s : Shared} (I : Inv X pins σ H s) : sysModules < s.heap.objs.size := by
  have h : mainGlobals < s.heap.objs.size := (I.mod.glob.keeps I.bk).lt
  exact Nat.lt_trans (by decide) h
def tDNew2 : TE := fun _ H Q => ∀ p, H p = none → Q (.ref p) (upd H p (.dK []))
theorem pe_dnew2 {pos : Pos} : PE X (.Dict [] [] pos) tDNew2 := fun pins s σ H Q I h =>
  wpAny_Dict_empty ⟨.ref s.heap.objs.size, _, I.laid (a := s.heap.objs.size) (o := .dK []) (t' := s.toks) (fun _ _ q => Heap.get?_push_of_some _ q) (Nat.le_refl _)
    ⟨Nat.zero_le _, beq_eq_false_iff_ne.mpr (Ne.symm (Nat.ne_of_lt I.big2)), [], .nil, Heap.DictOf.new s.heap⟩, rfl, h _ (I.hok.fresh (Nat.le_refl _))⟩
end
/-! ### a range downwards -/
section
variable {X : Cx} {tg : Expr}
end
/-! ### reversed(a list) -/
section
variable {X : Cx} {tg : Expr}
end
end L2
set_option Elab.async false
set_option linter.all false
set_option maxRecDepth 100000
/-! The layer's judgements, wrapped: a structure is not unfolded when a long body is matched. -/
namespace L2
open PySem PySem.Spec PyProof.Rows
structure QE (X : Cx) (e : Expr) (t : TE) : Prop where
  ok : PE X e t
structure QT (X : Cx) (e : Expr) (t : TT) : Prop where
  ok : PT X e t
structure QW (X : Cx) (e : Expr) (t : TT) : Prop where
  ok : PW X e t
structure QA (X : Cx) (es : List Expr) (t : TA) : Prop where
  ok : PA X es t
structure QS (X : Cx) (st : Stmt) (t : TS) : Prop where
  ok : PS X st t
structure QSs (X : Cx) (st : List Stmt) (t : TS) : Prop where
  ok : PSs X st t
structure QG (X : Cx) (tg : Expr) (t : TG) : Prop where
  ok : PG X tg t
structure QGs (X : Cx) (es : List Expr) (t : TGs) : Prop where
  ok : PGs X es t
section
variable {X : Cx} {a b e o : Expr} {es rest : List Expr} {ta tb te : TE} {tA tB' : TT} {t : TA} {pos p cpos apos : Pos} {st : Stmt} {sts : List Stmt} {u v : TS}
theorem qpe_int {i j pos} : QE X (.Constant (.int i) j pos) (tC (.int i)) := ⟨pe_int⟩
theorem qpe_bl {b j pos} : QE X (.Constant (.bool b) j pos) (tC (.bl b)) := ⟨pe_bl⟩
theorem qpe_non {j pos} : QE X (.Constant .none j pos) (tC .non) := ⟨pe_non⟩
theorem qpe_str {x j pos} : QE X (.Constant (.str x) j pos) (tC (.str x)) := ⟨pe_str⟩
theorem qpv (i : Nat) {x : Str} {pos : Pos} (hN : X.N[i]? = some x := by rfl) (hv : Vis X.env.scope x := by first | exact Or.inl rfl | exact Or.inr (Or.inl rfl) | exact Or.inr (Or.inr rfl)) (hd : (x == ("__debug__" : Str)) = false := by decide)
    (hcd : (x == ("__classdict__" : Str)) = false := by decide) : QE X (.Name x pos) (tVar i) := ⟨pe_var hN hv hd hcd⟩
theorem qpe_glob {x : Str} {v : V} {u : Value} {pos : Pos} (hg : Gl X x) (hm : X.mg x = some u) (r : RelV v u) (hd : (x == ("__debug__" : Str)) = false := by decide) : QE X (.Name x pos) (tC v) := ⟨pe_glob hg hm r hd⟩
theorem qpe_bltn {x : Str} {v : V} {u : Value} {pos : Pos} (hg : Gl X x) (hm : X.mg x = none) (hv : bootBuiltins x = some u) (r : RelV v u) (hn : x ≠ "__name__" := by decide) (hd : (x == ("__debug__" : Str)) = false := by decide) : QE X (.Name x pos) (tC v) := ⟨pe_bltn hg hm hv r hn hd⟩
theorem qpe_op {op : Operator} {r : R2} (ho : OpR X (binaryOp op) r) (ha : QE X a ta) (hb : QE X b tb) : QE X (.BinOp a op b pos) (tOp r ta tb) := ⟨pe_op ho ha.ok hb.ok⟩
theorem qpe_un {op : UnaryOp} {r : V → Hp → VK → Prop} (ho : UnR X (unaryOp op) r) (ha : QE X a ta) : QE X (.UnaryOp op a pos) (tUn r ta) := ⟨pe_un ho ha.ok⟩
theorem qpe_not (ha : QE X a ta) : QE X (.UnaryOp .Not a pos) (tNotV ta) := ⟨pe_not ha.ok⟩
theorem qpe_one {op} (h : QE X a ta) : QE X (.BoolOp op [a] pos) ta := ⟨pe_one h.ok⟩
theorem qpe_and (ha : QE X a ta) (hb : QE X (.BoolOp .And (b :: rest) pos) tb) : QE X (.BoolOp .And (a :: b :: rest) pos) (tAndV ta tb) := ⟨pe_and ha.ok hb.ok⟩
theorem qpe_or (ha : QE X a ta) (hb : QE X (.BoolOp .Or (b :: rest) pos) tb) : QE X (.BoolOp .Or (a :: b :: rest) pos) (tOrV ta tb) := ⟨pe_or ha.ok hb.ok⟩
theorem qpe_cmpR {op : CmpOp} {r : R2} (ho : OpR X (compareOp op) r) (ha : QE X a ta) (hb : QE X b tb) (hm : behindInMarks op b = false) : QE X (.Compare a [op] [b] pos) (tOp r ta tb) := ⟨pe_cmpR ho ha.ok hb.ok hm⟩
theorem qpt_cmpR {op : CmpOp} {r : R2} (ho : OpR X (compareOp op) r) (ha : QE X a ta) (hb : QE X b tb) (hm : behindInMarks op b = false) : QT X (.Compare a [op] [b] pos) (tTest (tOp r ta tb)) := ⟨pt_cmpR ho ha.ok hb.ok hm⟩
theorem qpt_val (h : QE X e te) (he : ∀ whole, isTrue e X.env whole = (do let v ← whole; standAt e.pos; holding [v] (truthy v)) := by intro _; rfl) : QT X e (tB te) := ⟨pt_val h.ok he⟩
theorem qpt_not (ha : QT X a tA) : QT X (.UnaryOp .Not a pos) (tNot tA) := ⟨pt_not ha.ok⟩
theorem qpw_or1 (ha : QT X a tA) : QW X (.BoolOp .Or [a] pos) tA := ⟨pw_or1 ha.ok⟩
theorem qpw_or (ha : QT X a tA) (hb : QW X (.BoolOp .Or (b :: rest) pos) tB') : QW X (.BoolOp .Or (a :: b :: rest) pos) (tOr tA tB') := ⟨pw_or ha.ok hb.ok⟩
theorem QW.pt (h : QW X e tA) : QT X e tA := ⟨PW.pt h.ok⟩
theorem qpa_nil : QA X [] tNil := ⟨pa_nil⟩
theorem qpa_cons (ha : QE X e te) (hr : QA X es t) (hs : starEach (e :: es) X.env = (false, eval e X.env) :: starEach es X.env := by rfl) : QA X (e :: es) (tCons te t) := ⟨pa_cons ha.ok hr.ok hs⟩
theorem qpe_tup {x1} (h : QA X es t) : QE X (.Tuple es x1 pos) (tTup t) := ⟨pe_tup h.ok⟩
theorem qpe_lst (h : QA X es t) : QE X (.List es pos) (tLst t) := ⟨pe_lst h.ok⟩
theorem qpe_dnew2 : QE X (.Dict [] [] pos) tDNew2 := ⟨pe_dnew2⟩
theorem qpe_ix {r : R2} (hr : IxR X r) (ha : QE X a ta) (hb : QE X b tb) (hs : PlainIx b) : QE X (.Subscript a b pos) (tOp r ta tb) := ⟨pe_ix hr ha.ok hb.ok hs⟩
theorem qpe_call {CX : CXT} {k : Nat} {f : Addr} {fd : FuncData} {ps : List Str} {sp : Sp} {dvs : List V} {ds : List Value} {E : XK} {x : Str} (F : FnOk X.prog X.w X.K X.mg X.base CX k f fd ps sp) (hr : Room k X.A) (hg : Gl X x) (hm : X.mg x = some (.ref f)) (hk : PySem.W.keepIn X.K (.ref f) = true) (hb : Binds X.K fd ps ds) (hd : Vals dvs ds) (hx : Passes CX X E)
    (ha : QA X (e :: es) t) (hdb : (x == ("__debug__" : Str)) = false := by decide) (he : starEach (e :: es) X.env = (false, eval e X.env) :: starEach es X.env := by rfl) (hpl : (backTo pos (starEach es X.env)).any (·.1) = false := by rfl) :
    QE X (.Call (.Name x p) (e :: es) [] pos) (tCall sp dvs E t) := ⟨pe_call F hr hg hm hk hb hd hx ha.ok hdb he hpl⟩
theorem qpe_callB {id : String} {x : Str} {r : List V → Hp → VK → Prop} (hc : CallR X (.builtin id) r) (hg : Gl X x) (hm : X.mg x = none) (hv : bootBuiltins x = some (.builtin id)) (ha : QA X (e :: es) t) (hn : x ≠ "__name__" := by decide) (hdb : (x == ("__debug__" : Str)) = false := by decide)
    (he : starEach (e :: es) X.env = (false, eval e X.env) :: starEach es X.env := by rfl) (hpl : (backTo pos (starEach es X.env)).any (·.1) = false := by rfl) : QE X (.Call (.Name x p) (e :: es) [] pos) (tCB r t) := ⟨pe_callB hc hg hm hv ha.ok hn hdb he hpl⟩
theorem qpss_nil : QSs X [] tNext := ⟨pss_nil⟩
theorem qpss_cons (h1 : QS X st u) (h2 : QSs X sts v) : QSs X (st :: sts) (tSeq u v) := ⟨pss_cons h1.ok h2.ok⟩
theorem qpss_one (h1 : QS X st u) : QSs X [st] u := ⟨pss_one h1.ok⟩
theorem qps_ret (he : QE X e te) : QS X (.Return (some e) pos) (tRet te) := ⟨ps_ret he.ok⟩
theorem qps_if {c : Expr} {a b : List Stmt} {tc : TT} (hc : QT X c tc) (ha : QSs X a u) (hb : QSs X b v) : QS X (.If c a b pos) (tIfS tc u v) := ⟨ps_if hc.ok ha.ok hb.ok⟩
theorem qps_set {i : Nat} {x : Str} {pos' : Pos} (hN : X.N.Nodup) (hi : X.N[i]? = some x) (hx : Loc X.env.scope x) (he : QE X e te) (hs : swapsWith e (some (.Name x pos')) pos.line X.env = pure false := by rfl) (hf : X.fn x = true ∨ X.env.scope.names.lookup x = some .local := by first | exact .inl rfl | exact .inr rfl | assumption) :
    QS X (.Assign [.Name x pos'] e pos) (tAsg te (gName i)) := ⟨ps_set hN hi hx he.ok hs hf⟩
theorem qps_par {i j : Nat} {x y : Str} {ta : TA} {px py pt : Pos} {kt k2 pt2} (hc : X.calm = true) (hN : X.N.Nodup) (hi : X.N[i]? = some x) (hj : X.N[j]? = some y) (hij : i ≠ j)
    (hx : X.env.scope.names.lookup x = some .local) (hy : X.env.scope.names.lookup y = some .local) (ha : QA X [a, b] ta)
    (hw : swappedStores [.Tuple [.Name x px, .Name y py] kt pt] (.Tuple [a, b] k2 pt2) X.env = pure (some [x, y]))
    (hs : swapsWithSole [.Tuple [.Name x px, .Name y py] kt pt] (.Tuple [a, b] k2 pt2) pos.line X.env = pure false := by rfl) :
    QS X (.Assign [.Tuple [.Name x px, .Name y py] kt pt] (.Tuple [a, b] k2 pt2) pos) (tPar i j ta) := ⟨ps_par hc hN hi hj hij hx hy ha.ok hw hs⟩
theorem qps_asg {tg : Expr} {g : TG} (he : QE X e te) (hg : QG X tg g) (hs : swapsWithSole [tg] e pos.line X.env = pure false := by rfl) (hw : swappedStores [tg] e X.env = pure none := by rfl)
    (h1 : (assignEach [tg] X.env).map (·.2) = [assign tg X.env] := by rfl) : QS X (.Assign [tg] e pos) (tAsg te g) := ⟨ps_asg he.ok hg.ok hs hw h1⟩
theorem qpg_name {i : Nat} {x : Str} (hN : X.N.Nodup) (hi : X.N[i]? = some x) (hx : Loc X.env.scope x) (hf : X.fn x = true ∨ X.env.scope.names.lookup x = some .local := by first | exact .inl rfl | exact .inr rfl | assumption) : QG X (.Name x pos) (gName i) := ⟨pg_name hN hi hx hf⟩
theorem qpgs_nil : QGs X [] gNil := ⟨pgs_nil⟩
theorem qpgs_cons {t : TG} {u : TGs} (h1 : QG X e t) (h2 : QGs X es u)
    (hs : (assignEach (e :: es) X.env).map (·.2) = assign e X.env :: (assignEach es X.env).map (·.2) := by rfl) : QGs X (e :: es) (gCons t u) := ⟨pgs_cons h1.ok h2.ok hs⟩
theorem qpg_tup {k : Nat} {t : TGs} {n : Nat} (hc : X.calm = true) (h : QGs X es t)
    (hn : (assignEach es X.env).length = n := by rfl) (hst : (assignEach es X.env).findIdx? (·.1) = none := by rfl) : QG X (.Tuple es k pos) (gTup X.K n t) := ⟨pg_tup hc h.ok hn hst⟩
theorem qps_while {c : Expr} {body : List Stmt} {tc : TT} (hp : PassesOwn (model X.prog X.w) X.A X.env X.xe) (hc : QT X c tc) (hb : QSs X body u) : QS X (.While c body [] pos) (tWhile tc u) := ⟨ps_while hp hc.ok hb.ok⟩
end
section
variable {P : Program} {w : World} {K : PySem.W.Frag} {mg : Str → Option Value} {base : Heap}
theorem Fun.okq {x qual : Str} {st : Stmt} {f : Addr} {fd : FuncData} {N ps : List Str} {k : Nat} {sp : Sp} (F : Fun K x qual st f fd) (S : FnScope N ps (defScope st)) (len : ∀ vs H Q E, sp vs H Q E → vs.length = ps.length)
    (hbody : ∀ (cdv : Value) (A : Around) (outer : List Env) (s : Shared) (H : Hp) (vs : List V) (Q : VK) (E : XK), Room k (A.deeper (envOfC qual (defScope st) s.heap.objs.size f cdv)) → sp vs H Q E →
      ∃ t, QSs (cxOf CX0 P w K mg base N qual (defScope st) f cdv A outer s H E).nox (defBody st) t ∧ t { nx := fun _ H' => Q .non H', rt := Q } (start N vs) H) : FnOk P w K mg base CX0 (k + 1) f fd ps sp :=
  F.ok S len fun cdv A outer s H vs Q E hr h => by
    obtain ⟨t, h1, h2⟩ := hbody cdv A outer s H vs Q E hr h
    exact ⟨t, h1.ok, h2⟩
end
end L2
set_option Elab.async false
set_option linter.all false
set_option maxRecDepth 100000
/-! EXCEPTIONS OF ONE'S OWN over the layer: raised, passing a frame, caught by their very class. -/
namespace L2
open PySem PySem.Spec PyProof.Rows
section
variable {P : Program} {w : World} {H : Hp} {h h' : Heap} {a e T : Addr} {o : HO} {l : List Env}
theorem ObjOk.got (x : ObjOk P w H h a o) : ∃ ob, h.get? a = some ob := by
  induction o with
  | lst xs => obtain ⟨_, its, n, _, q⟩ := x; exact ⟨_, q⟩
  | tup xs => obtain ⟨_, its, _, ob, q, _⟩ := x; exact ⟨_, q⟩
  | dK kvs => obtain ⟨_, _, vs, _, ob, es, ep, q, _⟩ := x; exact ⟨_, q⟩
  | dT kvs => obtain ⟨_, _, xs, _, ob, es, ep, q, _⟩ := x; exact ⟨_, q⟩
  | set S n => obtain ⟨ob, es, ep, t, q, _⟩ := x; exact ⟨_, q⟩
  | ins C dx fs => obtain ⟨_, _, _, q, _⟩ := x; exact ⟨_, q⟩
  | own y => exact x
  | xd fs => obtain ⟨mA, ⟨od, es, ep, q, _⟩, _⟩ := x; exact ⟨_, q⟩
  | rng lo hi => obtain ⟨t, u, v, q⟩ := x; exact ⟨_, q⟩
  | frz ob u ih => obtain ⟨q, _⟩ := x; exact ⟨_, q⟩
  | tbl ps => exact ⟨_, (show h.get? a = some _ from x)⟩
  | met f y => exact ⟨_, (show h.get? a = some _ from x)⟩
  | ext p => obtain ⟨_, q, _⟩ := x; exact q
theorem HOk.none_of (x : HOk P w H h) (q : h.get? a = none) : H a = none := by
  cases z : H a with
  | none => rfl
  | some o =>
    obtain ⟨ob, r⟩ := (x a o z).got
    rw [q] at r
    cases r
/-- frames are untracked and hold no record -/
def FrOk (H : Hp) (h : Heap) (l : List Env) : Prop := ∀ b ∈ frs l, H b = none ∧ ∃ o, h.get? b = some o ∧ ∀ vs, o.data ≠ .fields vs
end
section
variable {X : Cx} {pins : List (Addr × Obj)} {σ : St} {H H' : Hp} {s s' : Shared} {h' : Heap}
theorem Inv.frOk (I : Inv X pins σ H s) : FrOk H s.heap X.stack := fun b hb => ⟨I.stkFree b hb, (I.stack.mem hb).2⟩
end
/-! ### leaving a def's body -/
section
variable {P : Program} {w : World} {K : PySem.W.Frag} {mg : Str → Option Value} {base : Heap} {N : List Str} {qual : Str} {scope : Scope} {f : Addr} {cd : Value} {A : Around} {outer : List Env} {s0 : Shared} {H0 : Hp} {E : XK}
  {pins : List (Addr × Obj)} {σ : St} {H H' : Hp} {s s' : Shared} {h' : Heap} {e T : Addr} {cls : Value}
end
end L2
set_option Elab.async false
set_option linter.all false
set_option maxRecDepth 100000
/-! raise, try -/
namespace L2
open PySem PySem.Spec PyProof.Rows
/-- the bases of ValueError, itself first -/
abbrev bmVE : List Value := [.type "ValueError", .type "Exception", .type "BaseException", .type "object"]
theorem own_cls {K : PySem.W.Frag} {h : Heap} {mg : Str → Option Value} {x : Str} {C : Addr} {bmB : List Value} {newId : String} (X : K.In h) (hm : mg x = some (.ref C)) (q : PySem.W.excIn K C bmB newId = true) : OwnCls x C bmB newId mg h := by
  refine ⟨hm, ?_⟩
  unfold PySem.W.excIn at q
  split at q
  · rename_i dd cd sl ho
    split at q
    · rename_i C' bm k0 k1 k2 k3 n k5 hm hs
      simp only [Bool.and_eq_true, beq_iff_eq, Bool.not_eq_true'] at q
      obtain ⟨⟨⟨⟨⟨rfl, rfl⟩, hdel⟩, ht⟩, hok⟩, hni⟩ := q
      obtain ⟨nm, bs, mro, ns, qn, hd, sn, sub, ab, col, del⟩ := cd
      dsimp only at hm hdel hok hni
      subst hm hdel
      have hsl : sl = #[k0, k1, k2, k3, some (.builtin n), k5] := by
        obtain ⟨l⟩ := sl
        simp only at hs
        rw [hs]
      subst hsl
      exact ⟨bm, ns, nm, qn, bs, hd, sn, sub, ab, col, dd, k0, k1, k2, k3, k5, _, X _ _ ho, .of_isNs (PySem.W.isNs_of_in X hok), PySem.W.nsMap_none_of_in X hok hni, PySem.W.tail_of_in X ht⟩
    · cases q
  · cases q
def tRaise (E : XK) (C : Addr) (ta : TA) : TS := fun _ σ H => ta σ H fun vs H1 => vs.length ≤ sizeLine ∧ E (.ref C) none H1
/-- what a made exception does to the body that raises it -/
def Throws (X : Cx) (E : XK) (C : Addr) : Prop := ∀ (pins : List (Addr × Obj)) (σ : St) (H : Hp) (s : Shared) (h' : Heap) (e : Addr) (vs : List Value), Inv X pins σ H s → Heap.MadeExcOf s.heap h' e (.ref C) vs → E (.ref C) none H → X.xe (.ref e) { s with heap := h' }
section
variable {X : Cx} {x y : Str} {C : Addr} {a : Expr} {es : List Expr} {ta : TA} {np cpos pos epos hpos p : Pos} {E : XK}
theorem qps_raise (hx : Throws X E C) (hg : Gl X x) (hm : X.mg x = some (.ref C)) (q : PySem.W.excIn X.K C bmVE "ValueError.__new__" = true) (hc : X.calm = true) (ha : QA X (a :: es) ta)
    (he : starEach (a :: es) X.env = (false, eval a X.env) :: starEach es X.env := by rfl) (hpl : (backTo cpos (starEach es X.env)).any (·.1) = false := by rfl) (hd : (x == ("__debug__" : Str)) = false := by decide) :
    QS X (.Raise (some (.Call (.Name x np) (a :: es) [] cpos)) none pos) (tRaise E C ta) := ⟨by
  intro pins s σ H D I h
  obtain ⟨tl, N, nm, qn, bs, hdct, sn, sub, ab, col, dd, k0, k1, k2, k3, k5, mN, hC, hN, hni, T⟩ := (own_cls (h := X.base) I.ok.mod.kin hm q).obj
  refine wpAny_Raise_call_subT (C := C) (nm := nm) (q := qn) (N := N) (bs := bs) (bm := tl) (hdct := hdct) (sn := sn) (sub := sub) (ab := ab) (col := col) (dd := dd) (k0 := k0) (k1 := k1) (k2 := k2) (k3 := k3) (k5 := k5)
    PySem.F.excBase_ValueError (mN := mN) (T.hasType PySem.F.excBase_ValueError.hasBase) (I.ok.hd hc) (by rw [he]; show (false || (backTo cpos (starEach es X.env)).any (·.1)) = false; rw [hpl]; rfl) hni (ld_glob I hg hm ⟨rfl, ?_⟩ hd)
  have hA := ha.ok cpos pins s σ H _ I h
  rw [he] at hA ⊢
  refine Calls.evalArgs_plain (thn hA fun us s2 ⟨vs, H1, I1, r, z, qE⟩ => ?_)
  refine ⟨rfl, by rw [← r.length]; exact z, I1.bk _ _ hC, hN.keeps I1.bk, T.keeps I1.bk, fun h' e hx' => hx pins σ H1 s2 h' e _ I1 hx' qE⟩⟩
end
/-- within an except suite -/
abbrev Cx.marked (X : Cx) (ev : Value) : Cx := { X with A := X.A.mark (some ev), calm := false }
section
variable {X : Cx} {pins : List (Addr × Obj)} {σ : St} {H : Hp} {s : Shared} {ev : Value}
theorem Cx.Ok.marked (ok : X.Ok) : (X.marked ev).Ok :=
  ⟨ok.mod, ok.kind, ok.glob, ok.blt, ok.above, ok.inj, ok.has, ok.cab, fun z => (nomatch z), ok.frames, ok.stk, ok.exf, ok.bs, ok.bsz, ok.noex, ok.exfs, ok.funs, ok.frf⟩
theorem Inv.marked (I : Inv X pins σ H s) : Inv (X.marked ev) pins σ H s := ⟨I.ok.marked, I.os, I.bare, I.base, I.loc, I.cell, I.free, I.freeC, I.pin, I.hok, I.len⟩
theorem Inv.unmarked (I : Inv (X.marked ev) pins σ H s) (ok : X.Ok) : Inv X pins σ H s := ⟨ok, I.os, I.bare, I.base, I.loc, I.cell, I.free, I.freeC, I.pin, I.hok, I.len⟩
theorem SP.unmarked {D : Ends} {f : Flow} {s' : Shared} (ok : X.Ok) (h : SP (X.marked ev) pins D f s') : SP X pins D f s' := by
  cases f with
  | next => obtain ⟨σ', H', I, q⟩ := h; exact ⟨σ', H', I.unmarked ok, q⟩
  | brk => obtain ⟨σ', H', I, q⟩ := h; exact ⟨σ', H', I.unmarked ok, q⟩
  | cont => obtain ⟨σ', H', I, q⟩ := h; exact ⟨σ', H', I.unmarked ok, q⟩
  | ret u => obtain ⟨v, σ', H', I, r, q⟩ := h; exact ⟨v, σ', H', I.unmarked ok, r, q⟩
end
section
variable {X : Cx} {k : Nat} {f C : Addr} {fd : FuncData} {ps : List Str} {sp : Sp} {dvs : List V} {ds : List Value} {x y : Str} {p pos cpos epos hpos np : Pos} {e : Expr} {es : List Expr} {t : TA} {b0 : Stmt} {suite : List Stmt} {ts : TS}
end
end L2
set_option Elab.async false
set_option linter.all false
set_option maxRecDepth 100000
/-! defs that may raise, defs with defaults -/
namespace L2
open PySem PySem.Spec PyProof.Rows
structure FunD (K : PySem.W.Frag) (x qual : Str) (st : Stmt) (f : Addr) (fd : FuncData) : Prop where
  ex : ∃ (oc : Value) (od : Option Addr) (dV kV doc pm : Value) (an : Option Addr) (cdv ct : Value) (osl : Array (Option Value)),
    fd = PySem.W.fnOf x qual (defArgs st) (defBody st) (defScope st) dV kV doc pm an cdv ct ∧ K.lookup f = some ⟨oc, od, .func fd, osl⟩ ∧ PySem.W.codeIn K cdv qual = true
  kp : PySem.W.keepIn K (.ref f) = true
section
variable {P : Program} {w : World} {K : PySem.W.Frag} {mg : Str → Option Value} {base : Heap} {x qual : Str} {st : Stmt} {f : Addr} {fd : FuncData} {N ps : List Str} {k : Nat} {sp : Sp}
theorem funD_mk {oc : Value} {od an : Option Addr} {osl : Array (Option Value)} {dV kV doc pm cdv ct : Value} (l : K.lookup f = some ⟨oc, od, .func (PySem.W.fnOf x qual (defArgs st) (defBody st) (defScope st) dV kV doc pm an cdv ct), osl⟩)
    (c : PySem.W.codeIn K cdv qual = true) (k : PySem.W.keepIn K (.ref f) = true) : FunD K x qual st f (PySem.W.fnOf x qual (defArgs st) (defBody st) (defScope st) dV kV doc pm an cdv ct) := ⟨⟨oc, od, dV, kV, doc, pm, an, cdv, ct, osl, rfl, l, c⟩, k⟩
end
theorem iteN {a b : Int} {A B : Prop} (h1 : a ≠ b → A) (h2 : a = b → B) : if (!decide (V.int a = V.int b)) = true then A else B := by
  rw [dec_int]
  by_cases h : a = b
  · rw [h, beq_self_eq_true]
    exact iteF (h2 h)
  · rw [beq_eq_false_iff_ne.mpr h]
    exact iteT (h1 h)
theorem iteG {a b : Int} {A B : Prop} (h1 : a ≤ b → A) (h2 : ¬ a ≤ b → B) : if decide (a ≤ b) = true then A else B :=
  ite2 (fun h => h1 (of_decide_eq_true h)) fun h => h2 fun z => h (decide_eq_true z)
/-- a fraction at a -/
abbrev FrAt (H : Hp) (a : Addr) (x y : Int) : Prop := H a = some (.tup [.int x, .int y])
end L2
set_option Elab.async false
set_option linter.all false
set_option maxRecDepth 100000
namespace LN
/-! ### fractions: sizes, exponents -/
theorem abs_nn (i : Int) : 0 ≤ (if i < 0 then -i else i) := by split <;> omega
theorem abs_abs (i : Int) : (if i < 0 then -i else i).natAbs = i.natAbs := by split <;> omega
theorem gcd_turnI {x y : Int} (hx : 0 ≤ x) (hy : 0 < y) : Nat.gcd y.natAbs (x % y).natAbs = Nat.gcd x.natAbs y.natAbs := by
  have e : (x % y).natAbs = x.natAbs % y.natAbs := by
    have h1 : x = ((x.natAbs : Nat) : Int) := by omega
    have h2 : y = ((y.natAbs : Nat) : Int) := by omega
    have h3 : x % y = ((x.natAbs % y.natAbs : Nat) : Int) := by rw [Int.natCast_emod, ← h1, ← h2]
    rw [h3]
    rfl
  rw [e]
  exact gcd_turn
theorem mod_lt {x y : Int} (hy : 0 < y) : (x % y).natAbs < y.natAbs := by
  have h1 := Int.emod_nonneg x (show y ≠ 0 by omega)
  have h2 := Int.emod_lt_of_pos x hy
  omega
theorem gcd_zero {x : Int} (hx : 0 ≤ x) : ((Nat.gcd x.natAbs (0 : Int).natAbs : Nat) : Int) = x := by
  rw [show (0 : Int).natAbs = 0 from rfl, Nat.gcd_zero_right]
  omega
theorem gcd_bd {n : Nat} {t b : Int} (hb : b ≠ 0) (h : Bd n b) : Bd n ((Nat.gcd t.natAbs b.natAbs : Nat) : Int) := by
  refine h.of_le ?_
  rw [Int.natAbs_natCast]
  exact Nat.gcd_le_right _ (Int.natAbs_pos.mpr hb)
theorem gcd_ne {t b : Int} (hb : b ≠ 0) : ((Nat.gcd t.natAbs b.natAbs : Nat) : Int) ≠ 0 := by
  have := Nat.gcd_pos_of_pos_right t.natAbs (Int.natAbs_pos.mpr hb)
  omega
theorem Low.x0 {t b x y : Int} (h : Low t b x y) (hb : b ≠ 0) (ht : t = 0) : x = 0 := by
  have e := h.eq
  rw [ht, Int.zero_mul] at e
  exact (Int.mul_eq_zero.mp e).resolve_right hb
theorem Low.bdx {n : Nat} {t b x y : Int} (h : Low t b x y) (hb : b ≠ 0) (ht : Bd n t) : Bd n x := by
  by_cases z : t = 0
  · rw [h.x0 hb z, ← z]
    exact ht
  · exact ht.dvd h.xd z
theorem Low.bdy {n : Nat} {t b x y : Int} (h : Low t b x y) (hb : b ≠ 0) (ht : Bd n b) : Bd n y := ht.dvd h.yd hb
end LN
namespace L2
open PySem
/-- a fraction at a: its size -/
def FrB (N : Nat) (H : Hp) (a : Addr) (x y : Int) : Prop := FrAt H a x y ∧ 0 < y ∧ LN.Bd N x ∧ LN.Bd N y
theorem FrB.same {N : Nat} {H H' : Hp} {a : Addr} {x y : Int} (h : FrB N H a x y) (g : Same H H') : FrB N H' a x y := ⟨g _ _ h.1, h.2⟩
theorem FrB.mono {M N : Nat} {H : Hp} {a : Addr} {x y : Int} (h : FrB M H a x y) (l : M ≤ N) : FrB N H a x y := ⟨h.1, h.2.1, h.2.2.1.mono l, h.2.2.2.mono l⟩
theorem FrB.of {N : Nat} {H : Hp} {a : Addr} {x y t b : Int} (h : FrAt H a x y) (l : LN.Low t b x y) (hb : b ≠ 0) (h1 : LN.Bd N t) (h2 : LN.Bd N b) : FrB N H a x y := ⟨h, l.pos, l.bdx hb h1, l.bdy hb h2⟩
theorem FrB.tup {K : PySem.W.Frag} {N : Nat} {H : Hp} {a : Addr} {x y : Int} (h : FrB N H a x y) : SqT K H a [.int x, .int y] := SqT.of h.1
theorem at0 {x y : V} : atI [x, y] 0 = some x := rfl
theorem at1 {x y : V} : atI [x, y] 1 = some y := rfl
theorem isI_int {v : V} (h : isI v = true) : ∃ i, v = .int i := by
  cases v with
  | int i => exact ⟨i, rfl⟩
  | _ => cases h
/-! ### the promises about fractions -/
def spGcd : Sp := fun vs H Q _ => ∃ x y : Int, vs = [.int x, .int y] ∧ 0 ≤ x ∧ 0 ≤ y ∧ Q (.int ((Nat.gcd x.natAbs y.natAbs : Nat) : Int)) H
def spCommon : Sp := fun vs H Q _ => ∃ x y : Int, vs = [.int x, .int y] ∧ Q (.int ((Nat.gcd x.natAbs y.natAbs : Nat) : Int)) H
/-- fraction(top, bottom), of any things -/
def spFrac (K : PySem.W.Frag) (C : Addr) : Sp := fun vs H Q E => ∃ v1 v2 : V, vs = [v1, v2] ∧ Thing K H v1 ∧ Thing K H v2 ∧
  (∀ t b : Int, v1 = .int t → v2 = .int b → b ≠ 0 → LN.Bd 4000 t ∧ LN.Bd 4000 b ∧ ∀ (a : Addr) (x y : Int) (H' : Hp), Same H H' → FrAt H' a x y → LN.Low t b x y → Q (.ref a) H') ∧
  (isI v1 = false ∨ isI v2 = false ∨ v2 = .int 0 → E (.ref C) none H)
end L2
set_option Elab.async false
set_option linter.all false
set_option maxRecDepth 100000
/-! EXCEPTIONS OF ONE'S OWN, by name: an exception in the air, its context known to be none; caught by a class above its own, bound to a name, asked by isinstance, while it is handled. -/
namespace L2
open PySem PySem.W PySem.Spec PyProof.Rows
/-- the exception at e, its trace at T, fl: the frame in which it stands -/
structure Air (e : Addr) (cls fl : Value) (T : Addr) (h : Heap) : Prop where
  ob : ∃ oe vs oT ts, h.get? e = some oe ∧ oe.cls = cls ∧ oe.data = .fields vs ∧ vs[1]? = some (.ref T) ∧ vs[2]? = some .none ∧ h.get? T = some oT ∧ oT.data = .fields ts ∧ ts[3]? = some fl
  ne : T ≠ e
/-- all but these are kept, the frames up to slots -/
structure Wind (as fr : List Addr) (h h' : Heap) : Prop where
  keep : ∀ b o, h.get? b = some o → b ∉ as → b ∉ fr → h'.get? b = some o
  slot : ∀ b o, h.get? b = some o → b ∉ as → ∃ sl, h'.get? b = some { o with slots := sl }
theorem Wind.trans {as bs cs fr : List Addr} {h1 h2 h3 : Heap} (x : Wind as fr h1 h2) (y : Wind bs fr h2 h3) (ha : ∀ b ∈ as, b ∈ cs) (hb : ∀ b o, h1.get? b = some o → b ∈ bs → b ∈ cs) : Wind cs fr h1 h3 where
  keep := fun b o q n1 n2 => y.keep b o (x.keep b o q (fun z => n1 (ha b z)) n2) (fun z => n1 (hb b o q z)) n2
  slot := fun b o q n1 => by
    obtain ⟨s1, e1⟩ := x.slot b o q fun z => n1 (ha b z)
    obtain ⟨s2, e2⟩ := y.slot b _ e1 fun z => n1 (hb b o q z)
    exact ⟨s2, e2⟩
theorem Wind.of_keeps {fr : List Addr} {h h' : Heap} (k : ∀ b o, h.get? b = some o → h'.get? b = some o) : Wind [] fr h h' := ⟨fun b o q _ _ => k b o q, fun b o q _ => ⟨o.slots, k b o q⟩⟩
theorem Wind.frames {as : List Addr} {h h' base : Heap} {l : List Env} (x : Wind as (frs l) h h') (hl : h.FunFrames base l) (has : ∀ b ∈ as, ∀ o, h.get? b = some o → ∃ vs, o.data = .fields vs) : h'.FunFrames base l :=
  hl.of_keeps fun b o q nf => by
    obtain ⟨sl, e⟩ := x.slot b o q fun z => by
      obtain ⟨vs, d⟩ := has b z o q
      exact nf vs d
    exact ⟨_, e, rfl⟩
/-- a trace is laid, the exception told of it -/
theorem air_laid {h h1 : Heap} {fr : List Addr} {e : Addr} {oe ob : Obj} {vs ts : Array Value} {fl : Value} (k : Heap.SlotsOnly fr h h1) (he : h.get? e = some oe) (hfr : e ∉ fr) (hd : oe.data = .fields vs) (hsz : 1 < vs.size) (h2 : vs[2]? = some .none)
    (hob : ob.data = .fields ts) (h3 : ts[3]? = some fl) :
    h.get? h1.objs.size = none ∧ Air e oe.cls fl h1.objs.size ((h1.push ob).update e (Obj.mapFields (·.setIfInBounds 1 (Value.ref h1.objs.size)))) ∧ Wind [e] fr h ((h1.push ob).update e (Obj.mapFields (·.setIfInBounds 1 (Value.ref h1.objs.size)))) := by
  have e1 : h1.get? e = some oe := (k.2.1 e hfr).trans he
  have e2 : (h1.push ob).get? e = some oe := Heap.get?_push_of_some _ e1
  have ne : h1.objs.size ≠ e := Nat.ne_of_gt (Heap.lt_size e1)
  have d3 := Obj.data_mapFields hd (·.setIfInBounds 1 (Value.ref h1.objs.size))
  have e3 := Heap.get?_update_self (Obj.mapFields (·.setIfInBounds 1 (Value.ref h1.objs.size))) e2 (Obj.isFreed_of_fields d3)
  have tt : (h1.push ob).get? h1.objs.size = some ob := Heap.get?_push_size h1 (Obj.isFreed_of_fields hob)
  have t3 := (Heap.get?_update_other (h1.push ob) (Obj.mapFields (·.setIfInBounds 1 (Value.ref h1.objs.size))) (Ne.symm ne)).trans tt
  have stay : ∀ b o, b ≠ e → h1.get? b = some o → ((h1.push ob).update e (Obj.mapFields (·.setIfInBounds 1 (Value.ref h1.objs.size)))).get? b = some o := fun b o nb q =>
    (Heap.get?_update_other _ _ (Ne.symm nb)).trans (Heap.get?_push_of_some _ q)
  refine ⟨Heap.get?_none_of_le (by rw [k.1]; exact Nat.le_refl _), ⟨⟨_, _, ob, ts, e3, Obj.cls_mapFields _ _, d3, by simp [hsz], by rw [Array.getElem?_setIfInBounds_ne (by decide)]; exact h2, t3, hob, h3⟩, ne⟩, fun b o q n1 n2 => stay b o (by simpa using n1) ((k.2.1 b n2).trans q), fun b o q n1 => ?_⟩
  obtain ⟨sl, q2⟩ := k.2.2 b o q
  exact ⟨sl, stay b _ (by simpa using n1) q2⟩
section
variable {M : Model} {A : Around} {E : Value → Shared → Prop} {s : Shared} {base : Heap} {env : Env} {outer : List Env} {L e T : Addr} {cls fl : Value} {Q : Unit → Shared → Prop}
theorem entry2 {oe : Obj} {vs : Array Value} {hd0 : Value} {hn : Bool} (hfr : A.frames = some (env :: outer)) (hl : s.heap.FunFrames base (env :: outer)) (hf : env.frame = some L) (he : s.heap.get? e = some oe) (hd : oe.data = .fields vs) (hsz : 1 < vs.size) (h2 : vs[2]? = some .none)
    (h : ∀ h' T', s.heap.get? T' = none → Air e oe.cls (rawInt L) T' h' → Wind [e] (frs (env :: outer)) s.heap h' → Q () { s with heap := h' }) :
    wpAny M A (do let a ← frameOf env; let pl ← entryPlaceOf L hn; let b ← EntryCells.newEntry hd0 a .none (rawInt L) .none pl; setField (.ref e) 1 b) Q E s := by
  have nfr : e ∉ frs (env :: outer) := fun z => by
    obtain ⟨_, o, qo, nf⟩ := hl.mem z
    rw [he] at qo
    cases qo
    exact nf vs hd
  refine wpAny_bind (wpAny_frameOf_fun hfr hl hf fun h1 k1 => wpAny_bind (wpAny_entryPlaceOf fun pp hpp => ?_))
  unfold EntryCells.newEntry newFields
  refine wpAny_bind (wpAny_newObj_type ?_ (hpp.sizeOk5 _ _ _ _ _))
  obtain ⟨z1, z2, z3⟩ := air_laid (fl := rawInt L) (ob := { cls := .type "traceback", dict := none, data := .fields ([hd0, .ref L, .none, rawInt L, .none] ++ (if pp.isEmpty then List.replicate 6 Value.none else pp)).toArray }) k1 he nfr hd hsz h2 rfl (by simp)
  exact wpAny_setField (Heap.get?_push_of_some _ ((k1.2.1 e nfr).trans he)) hd hsz (h _ _ z1 z2 z3)
theorem note_first {oe : Obj} {vs : Array Value} (hfr : A.frames = some (env :: outer)) (hl : s.heap.FunFrames base (env :: outer)) (hf : env.frame = some L) (he : s.heap.get? e = some oe) (hd : oe.data = .fields vs) (h1 : vs[1]? = some .none) (h2 : vs[2]? = some .none)
    (h : ∀ h' T', s.heap.get? T' = none → Air e oe.cls (rawInt L) T' h' → Wind [e] (frs (env :: outer)) s.heap h' → Q () { s with heap := h' }) : wpAny M A (noteFrame (.ref e) env) Q E s := by
  unfold noteFrame
  simp only [hf]
  refine wpAny_bind (wpAny_field he hd h1 ?_)
  rw [if_neg (by decide)]
  exact entry2 hfr hl hf he hd (Array.getElem?_eq_some_iff.mp h1).1 h2 h
/-- the trace's mark is taken away -/
theorem set_none2 (a : Air e cls fl T s.heap) (h : ∀ h', Air e cls .none T h' → Wind [T] [] s.heap h' → Q () { s with heap := h' }) : wpAny M A (setFlight (.ref e) none) Q E s := by
  obtain ⟨⟨oe, vs, oT, ts, he, hc, hd, h1, h2, hT, hdT, h3⟩, ne⟩ := a
  have z3 : 3 < ts.size := (Array.getElem?_eq_some_iff.mp h3).1
  have oth : ∀ b, b ≠ T → (s.heap.update T (Obj.mapFields (·.setIfInBounds 3 Value.none))).get? b = s.heap.get? b := fun b nb => Heap.get?_update_other _ _ (Ne.symm nb)
  have dT := Obj.data_mapFields hdT (·.setIfInBounds 3 Value.none)
  have tt := Heap.get?_update_self (Obj.mapFields (·.setIfInBounds 3 Value.none)) hT (Obj.isFreed_of_fields dT)
  unfold setFlight
  refine wpAny_bind (wpAny_field he hd h1 ?_)
  rw [if_pos (by simp : (Value.ref T != Value.none) = true)]
  refine wpAny_setField hT hdT z3 (h _ ⟨⟨oe, vs, _, _, (oth e (Ne.symm ne)).trans he, hc, hd, h1, h2, tt, dT, by simp [z3]⟩, ne⟩ ⟨fun b o q n1 _ => (oth b (by simpa using n1)).trans q, fun b o q n1 => ⟨o.slots, (oth b (by simpa using n1)).trans q⟩⟩)
theorem note_next (hfr : A.frames = some (env :: outer)) (hl : s.heap.FunFrames base (env :: outer)) (hf : env.frame = some L) (a : Air e cls .none T s.heap)
    (h : ∀ h' T', s.heap.get? T' = none → Air e cls (rawInt L) T' h' → Wind [e, T] (frs (env :: outer)) s.heap h' → Q () { s with heap := h' }) : wpAny M A (noteFrame (.ref e) env) Q E s := by
  obtain ⟨⟨oe, vs, oT, ts, he, hc, hd, h1, h2, hT, hdT, h3⟩, ne⟩ := a
  subst hc
  have z3 : 3 < ts.size := (Array.getElem?_eq_some_iff.mp h3).1
  have oth : ∀ b, b ≠ T → (s.heap.update T (Obj.mapFields (·.setIfInBounds 3 Value.none))).get? b = s.heap.get? b := fun b nb => Heap.get?_update_other _ _ (Ne.symm nb)
  have wd : Wind [T] (frs (env :: outer)) s.heap (s.heap.update T (Obj.mapFields (·.setIfInBounds 3 Value.none))) := ⟨fun b o q n1 _ => (oth b (by simpa using n1)).trans q, fun b o q n1 => ⟨o.slots, (oth b (by simpa using n1)).trans q⟩⟩
  unfold noteFrame
  simp only [hf]
  refine wpAny_bind (wpAny_field he hd h1 ?_)
  rw [if_pos (by simp : (Value.ref T != Value.none) = true)]
  refine wpAny_bind (wpAny_field hT hdT h3 ?_)
  rw [if_neg (by simp [rawInt] : ¬ ((Value.none == rawInt L) = true))]
  refine wpAny_bind (wpAny_setField hT hdT z3 ?_)
  refine entry2 (s := { s with heap := s.heap.update T (Obj.mapFields (·.setIfInBounds 3 Value.none)) }) hfr (wd.frames hl fun b hb o q => ?_) hf ((oth e (Ne.symm ne)).trans he) hd (Array.getElem?_eq_some_iff.mp h1).1 h2 fun h' T' z1 z2 z4 => h h' T' ?_ z2 (wd.trans z4 (by simp) (fun b o _ z => by simp at z; simp [z]))
  · obtain rfl : b = T := by simpa using hb
    rw [hT] at q
    cases q
    exact ⟨ts, hdT⟩
  · by_cases hb : T' = T
    · subst hb
      have tt := Heap.get?_update_self (Obj.mapFields (·.setIfInBounds 3 Value.none)) hT (Obj.isFreed_of_fields (Obj.data_mapFields hdT _))
      rw [tt] at z1
      cases z1
    · exact (oth T' hb).symm.trans z1
end
end L2
set_option Elab.async false
set_option linter.all false
set_option maxRecDepth 100000
/-! an exception of one's own, by its class: isinstance -/
namespace L2
open PySem PySem.W PySem.Spec PyProof.Rows
/-- what the text says of a class of exceptions -/
structure XCls (K : PySem.W.Frag) (C : Addr) : Prop where
  ga : PySem.W.findIn K (.ref C) "__getattribute__" = some (some (.builtin "BaseException.__getattribute__"))
  gt : PySem.W.findIn K (.ref C) "__getattr__" = some none
  cl : PySem.W.findIn K (.ref C) "__class__" = some (some (.builtin "object.__class__"))
  ob : PySem.W.subIn K (.ref C) (.type "object") = some true
  be : PySem.W.subIn K (.ref C) (.type "BaseException") = some true
  is : (PySem.W.clsIn K C).isSome = true
/-- an object of the class C -/
def ExcAt (e C : Addr) (h : Heap) : Prop := ∃ o, h.get? e = some o ∧ o.cls = .ref C
section
variable {prog : Program} {w : World} {A : Around} {E : Value → Shared → Prop} {h : Heap} {g : Array GenState} {d : Drawn} {t : Nat} {os : OsState} {a C : Addr} {o : Obj} {K : PySem.W.Frag}
theorem xcls_get {R : Result → Shared → Prop} (X : K.In h) (Z : XCls K C) (hx : h.get? a = some o) (hc : o.cls = .ref C) (hq : R (.ok (.ret (.ref C))) ⟨h, g, d, t, os⟩) :
    codeAny (model prog w) A (.call (.builtin "getset_descriptor.__get__") ⟨[.builtin "object.__class__", .ref a, .ref C], []⟩) R ⟨h, g, d, t, os⟩ := by
  have h5 : (⟨h, g, d, t, os⟩ : Shared).TypeIs (.builtin "object.__class__") "getset_descriptor" := F.typeOf_object_class
  have ls : Looks (model prog w) h (isSubtype (.ref C) (.type (".".intercalate ("object.__class__".cutAt '.').dropLast))) true := by rw [F.owner_object_class]; exact looks_subIn X Z.ob
  refine codeAny_call_builtin F.slot_gs_get.plain F.entry_gs_get (F.slot_gs_get.check _ _ _ _ _ _ _ _ h5 (F.args_gs_get _ _ _) ?_)
  repeat (any_goals (first | assumption | (with_reducible refine wpAny_loadPart_at hx ?_; rw [hc]) | with_reducible refine ls.at ?_ | wp_step))
  refine ⟨Code.quiet_builtin _ (by decide +kernel), codeAny_builtin F.entry_object_class ?_⟩
  repeat (any_goals (first | assumption | (with_reducible refine wpAny_loadPart_at hx ?_; rw [hc]) | wp_step))
theorem xcls_entry {tk : Tok} {Q : Fin → Shared → Prop} (X : K.In h) (Z : XCls K C) (hx : h.get? a = some o) (hc : o.cls = .ref C) (hq : Q (.done (.ret (.ref C))) ⟨h, g, d, t, os⟩) :
    wpAny (model prog w) A (Builtin.«object.__getattribute__» ⟨[.ref a, .str "__class__" tk], []⟩) Q E ⟨h, g, d, t, os⟩ := by
  have h5 : (⟨h, g, d, t, os⟩ : Shared).TypeIs (.builtin "object.__class__") "getset_descriptor" := F.typeOf_object_class
  have f5 := F.typeOf_object_class
  have f6 := F.slot_gs_get.lookup
  have f7 := F.slot_gs_set.lookup
  have l4 := looks_findIn (M := model prog w) X Z.cl
  repeat (any_goals (first | assumption | (with_reducible refine wpAny_loadPart_at hx ?_; rw [hc]) | with_reducible refine l4.at ?_ | wp_step))
  refine xcls_get X Z hx hc ?_
  repeat (any_goals (first | assumption | wp_step))
theorem xcls_check {M : Model} {nv : Value} {Q : Unit → Shared → Prop} (X : K.In h) (Z : XCls K C) (hx : h.get? a = some o) (hc : o.cls = .ref C) (hq : Q () ⟨h, g, d, t, os⟩) :
    wpAny M A (checkBuiltinCall "BaseException.__getattribute__" ⟨[.ref a, nv], []⟩) Q E ⟨h, g, d, t, os⟩ := by
  have k1 : builtinKind "BaseException.__getattribute__" = some .slot := by decide +kernel
  have k2 : splitId "BaseException.__getattribute__" = some ("BaseException", "__getattribute__") := by decide +kernel
  have ls : Looks M h (isSubtype (.ref C) (.type "BaseException")) true := looks_subIn X Z.be
  have k3 := F.args_bexc_ga (.ref a) nv
  simp only [checkBuiltinCall, k1, k2]
  refine wpAny_bind ?_
  unfold isInstance
  repeat (first | (with_reducible refine wpAny_loadPart_at hx ?_; rw [hc]) | with_reducible refine ls.at ?_ | wp_step)
  exact hq
theorem xcls_call {tk : Tok} {R : Result → Shared → Prop} (X : K.In h) (Z : XCls K C) (hx : h.get? a = some o) (hc : o.cls = .ref C) (hq : R (.ok (.ret (.ref C))) ⟨h, g, d, t, os⟩) :
    codeAny (model prog w) A (.call (.builtin "BaseException.__getattribute__") ⟨[.ref a, .str "__class__" tk], []⟩) R ⟨h, g, d, t, os⟩ :=
  codeAny_call_builtin (by decide +kernel) F.entry_bexc_ga (xcls_check X Z hx hc (xcls_entry X Z hx hc hq))
theorem xcls_by {tk : Tok} {Q : Value → Shared → Prop} (X : K.In h) (Z : XCls K C) (hx : h.get? a = some o) (hc : o.cls = .ref C) (hq : Q (.ref C) ⟨h, g, d, t, os⟩) :
    wpAny (model prog w) A (getAttrBy (.ref a) (.str "__class__" tk) false) Q E ⟨h, g, d, t, os⟩ := by
  have l1 := looks_findIn (M := model prog w) X Z.ga
  have l2 := looks_findIn (M := model prog w) X Z.gt
  have f3 := F.excAttr_ValueError.ga.bind (.ref a)
  have y2 : (Value.builtin "BaseException.__getattribute__" == Value.builtin "object.__getattribute__") = false := by decide +kernel
  have y1 : (onTheHeap (Value.ref C) && Value.builtin "BaseException.__getattribute__" == Value.builtin "object.__getattribute__") = false := by rw [y2]; rfl
  repeat (any_goals (first | assumption | (with_reducible refine wpAny_loadPart_at hx ?_; rw [hc]) | with_reducible refine l1.at ?_ | with_reducible refine l2.at ?_ | wp_step))
  refine xcls_call X Z hx hc ?_
  repeat (any_goals (first | assumption | wp_step))
theorem xcls_attr {Q : Option Value → Shared → Prop} (X : K.In h) (Z : XCls K C) (hx : h.get? a = some o) (hc : o.cls = .ref C) (hq : Q (some (.ref C)) ⟨h, g, d, t + 1, os⟩) : wpAny (model prog w) A (getAttr? (.ref a) "__class__") Q E ⟨h, g, d, t, os⟩ := by
  unfold getAttr? getAttrBy?
  repeat (any_goals (first | assumption | with_reducible apply xcls_by X Z hx hc | wp_step))
theorem kitx_exc (Z : XCls K C) : KitX K (.ref a) (.ref C) (ExcAt a C) where
  ty := fun M h _ p => by
    obtain ⟨o, h1, h2⟩ := p
    exact h2 ▸ (Looks.ld h1).andThen .now
  it := fun _ _ X _ => by
    have hi := Z.is
    unfold clsIn at hi
    split at hi
    · rename_i ho
      intro A' Q' E' s' k q
      unfold isType loadHead
      exact wpAny_bind (wpAny_loadPart (k _ _ (X _ _ ho)) (wpAny_pure q))
    · cases hi
  ne := fun h tp dd its n sl X htp => Bool.eq_false_iff.mpr fun q => by
    have e : C = tp := Value.ref.inj (beq_iff_eq.mp q)
    subst e
    have hi := Z.is
    unfold clsIn at hi
    split at hi
    · rename_i ho
      exact absurd ((X _ _ ho).symm.trans htp) (fun z => nomatch z)
    · cases hi
  ca := fun {_ _ _ _ _ s} X p k => by
    obtain ⟨o, h1, h2⟩ := p
    obtain ⟨hh, gg, dd, tt, oo⟩ := s
    exact xcls_attr X Z h1 h2 k
end
section
variable {X : Cx}
/-- an exception of the class C at e, its context none -/
def ExcX (e C : Addr) (h : Heap) : Prop := ∃ o vs, h.get? e = some o ∧ o.cls = .ref C ∧ o.data = .fields vs ∧ vs[2]? = some .none
abbrev ExH (H : Hp) (e C : Addr) : Prop := H e = some (.ext (ExcX e C))
theorem excX_ok {P : Program} {w : World} {H : Hp} {h : Heap} {e C : Addr} (p : ExcX e C h) : ObjOk P w H h e (.ext (ExcX e C)) := by
  obtain ⟨o, vs, q, r⟩ := p
  exact ⟨⟨o, vs, q, r⟩, ⟨o, q⟩, fun h1 h2 ⟨o', vs', q', r'⟩ k => ⟨o', vs', k _ q', r'⟩⟩
/-- isinstance(e, c), e an exception -/
def rInstX (K : PySem.W.Frag) : List V → Hp → VK → Prop := fun xs H Q => ∃ (e C : Addr) (c : V) (cv : Value) (b : Bool), xs = [.ref e, c] ∧ RelV c cv ∧ (∀ u, RelV c u → u = cv) ∧ ExH H e C ∧ XCls K C ∧ PySem.W.kitOne K (.ref C) cv = some b ∧ Q (.bl b) H
theorem call_instX : CallR X (.builtin "isinstance") (rInstX X.K) := by
  intro pins s σ H xs us Q I r h
  obtain ⟨e, C, c, cv, b, rfl, _, one, ex, Z, k, q⟩ := h
  obtain ⟨u, u2, rfl, ru, rc⟩ := vals2 r
  cases (show u = Value.ref e from ru)
  cases one u2 rc
  obtain ⟨⟨o, vs, h1, h2, _⟩, _⟩ := (show ObjOk X.prog X.w H s.heap e (.ext (ExcX e C)) from I.hok e _ ex)
  exact PySem.W.kia_one (kitx_exc Z) I.kIn ⟨o, h1, h2⟩ k (fun z => nomatch z) fun tk => ⟨.bl b, H, I.tok _, rfl, q⟩
end
end L2
set_option Elab.async false
set_option linter.all false
set_option maxRecDepth 100000
/-! an exception leaves a def; it is caught -/
namespace L2
open PySem PySem.W PySem.Spec PyProof.Rows
structure Fly2 (H : Hp) (hs : Heap) (e : Addr) (cls : Value) (T : Addr) (h : Heap) : Prop where
  air : Air e cls .none T h
  e0 : hs.get? e = none
  t0 : hs.get? T = none
  eH : H e = none
  tH : H T = none
/-- how an exception lies behind a call -/
def CX2 (P : Program) (w : World) : CXT := fun outer H s E ev s' =>
  ∃ (e T : Addr) (cls : Value) (H' : Hp), ev = .ref e ∧ s'.os = s.os ∧ AllBare s'.gens ∧ Un (frs outer) [] H H' s.heap s'.heap ∧ HOk P w H' s'.heap ∧ Fly2 H' s.heap e cls T s'.heap ∧ E cls none H'
theorem pass2 {X : Cx} : Passes (CX2 X.prog X.w) X E0 := fun _ _ _ _ _ _ _ h => by
  obtain ⟨_, _, _, _, _, _, _, _, _, _, z⟩ := h
  exact z.elim
theorem Wind.hok {P : Program} {w : World} {H : Hp} {as fr : List Addr} {h h' : Heap} (x : Wind as fr h h') (hfr : ∀ b ∈ fr, H b = none) (has : ∀ b ∈ as, H b = none) (k : HOk P w H h) : HOk P w H h' := fun a o ea =>
  (k a o ea).stay (fun b u hb q => by
    have hn : H b ≠ none := by
      rcases hb with z | z
      · rw [z, ea]; intro y; cases y
      · rw [z]; intro y; cases y
    exact x.keep b u q (fun z => hn (has b z)) fun z => hn (hfr b z)) (fun _ q => q) fun _ _ q => q
theorem un_wind {fr as : List Addr} {hs h h' : Heap} {H0 H : Hp} (u : Un fr [] H0 H hs h) (x : Wind as fr h h') (has : ∀ b ∈ as, hs.get? b = none) : Un fr [] H0 H hs h' where
  keep := fun b o q n hb hx => x.keep b o (u.keep b o q n hb hx) (fun z => by rw [has b z] at q; cases q) hb
  slot := fun b o q n hb hx => by
    obtain ⟨sl, q1⟩ := u.slot b o q n hb hx
    obtain ⟨sl', q2⟩ := x.slot b _ q1 fun z => by rw [has b z] at q; cases q
    exact ⟨sl', q2⟩
  free := u.free
  there := fun b o q hx => by
    obtain ⟨o', q1⟩ := u.there b o q hx
    obtain ⟨sl', q2⟩ := x.slot b o' q1 fun z => by rw [has b z] at q; cases q
    exact ⟨_, q2⟩
  tups := u.tups
  frzs := u.frzs
  tbls := u.tbls
section
variable {P : Program} {w : World} {K : PySem.W.Frag} {mg : Str → Option Value} {base : Heap} {N : List Str} {qual : Str} {scope : Scope} {f : Addr} {cd : Value} {A : Around} {outer : List Env} {s0 : Shared} {H0 : Hp} {E : XK}
  {pins : List (Addr × Obj)} {σ : St} {H H' : Hp} {s s' : Shared} {h' : Heap} {e T : Addr} {cls : Value}
/-- what is true behind the frame that was left -/
theorem left_cx2 (I : Inv (cxOf (CX2 P w) P w K mg base N qual scope f cd A outer s0 H0 E) pins σ H s) {as : List Addr} (L : Wind as (frs (envOfC qual scope s0.heap.objs.size f cd :: outer)) s.heap h')
    (u1 : ∀ b ∈ as, s0.heap.get? b = none) (has : ∀ b ∈ as, H b = none) (air : Air e cls .none T h') (en : s0.heap.get? e = none) (tn : s0.heap.get? T = none) (eH : H e = none) (tH : H T = none) (q : E cls none H) : CX2 P w outer H0 s0 E (.ref e) { s with heap := h' } := by
  have B : Un (frs outer) [] H0 H s0.heap s.heap := I.base
  have own : ∀ b o, s0.heap.get? b = some o → b ∉ frs outer → b ∉ frs (envOfC qual scope s0.heap.objs.size f cd :: outer) := fun b o qb hb z => by
    obtain ⟨ev, hev, hf⟩ := List.mem_filterMap.mp z
    rcases List.mem_cons.mp hev with r | r
    · subst r
      have e1 : s0.heap.objs.size = b := Option.some.inj hf
      have lt := Heap.lt_size qb
      rw [e1] at lt
      exact Nat.lt_irrefl _ lt
    · exact hb (List.mem_filterMap.mpr ⟨ev, r, hf⟩)
  have out : ∀ b o, s0.heap.get? b = some o → b ∉ as := fun b o qb z => by rw [u1 b z] at qb; cases qb
  refine ⟨e, T, cls, H, rfl, I.os, I.bare, ?_, L.hok (fun b hb => (I.frOk b hb).1) has I.hok, ⟨air, en, tn, eH, tH⟩, q⟩
  refine ⟨fun b o qb n hb hx => L.keep b o (B.keep b o qb n hb hx) (out b o qb) (own b o qb hb), fun b o qb n hb hx => ?_, B.free, fun b o qb hx => ?_, B.tups, B.frzs, B.tbls⟩
  · obtain ⟨sl, q1⟩ := B.slot b o qb n hb hx
    obtain ⟨sl', q2⟩ := L.slot b _ q1 (out b o qb)
    exact ⟨sl', q2⟩
  · obtain ⟨o', q1⟩ := B.there b o qb hx
    obtain ⟨sl', q2⟩ := L.slot b o' q1 (out b o qb)
    exact ⟨_, q2⟩
/-- an exception that was just made leaves the def -/
theorem leave_new2 (I : Inv (cxOf (CX2 P w) P w K mg base N qual scope f cd A outer s0 H0 E) pins σ H s) {vs : List Value} (hx : Heap.MadeExcOf s.heap h' e cls vs) (q : E cls none H) :
    (cxOf (CX2 P w) P w K mg base N qual scope f cd A outer s0 H0 E).xe (.ref e) { s with heap := h' } := by
  have sub : ∀ b o, s0.heap.get? b = some o → ∃ o', s.heap.get? b = some o' := fun b o z => I.base.there b o z (by simp [cxOf])
  have none0 : ∀ b, s.heap.get? b = none → s0.heap.get? b = none := fun b z => by
    cases y : s0.heap.get? b with
    | none => rfl
    | some o =>
      obtain ⟨o', y'⟩ := sub b o y
      rw [z] at y'
      cases y'
  have noneS : ∀ b, h'.get? b = none → s.heap.get? b = none := fun b z => by
    cases y : s.heap.get? b with
    | none => rfl
    | some o =>
      have y' := hx.keeps b o y
      rw [z] at y'
      cases y'
  obtain ⟨t, he, _, _⟩ := hx.there
  have w0 : Wind [] (frs (envOfC qual scope s0.heap.objs.size f cd :: outer)) s.heap h' := .of_keeps hx.keeps
  refine wpAny_bind (note_first (s := { s with heap := h' }) (env := envOfC qual scope s0.heap.objs.size f cd) (outer := outer) (L := s0.heap.objs.size) (base := base) I.ok.frames (w0.frames I.stack (fun b z => nomatch z)) rfl he rfl rfl rfl fun h1 T1 f1 a1 w1 => ?_)
  refine set_none2 (s := { s with heap := h1 }) a1 fun h2 a2 w2 => ?_
  have w01 := w0.trans (cs := [e]) w1 (by simp) (fun b o _ z => z)
  have w12 : Wind [T1] (frs (envOfC qual scope s0.heap.objs.size f cd :: outer)) h1 h2 := ⟨fun b o q n _ => w2.keep b o q n (by simp), w2.slot⟩
  have w02 := w01.trans (cs := [e, T1]) w12 (by simp) (fun b o _ z => by simp at z; simp [z])
  have eS := hx.new
  have tS := noneS T1 f1
  refine left_cx2 (s := s) (h' := h2) I w02 (fun b hb => ?_) (fun b hb => ?_) a2 (none0 e eS) (none0 T1 tS) (I.hok.none_of eS) (I.hok.none_of tS) q
  · rcases List.mem_cons.mp hb with r | r
    · rw [r]; exact none0 e eS
    · rw [List.mem_singleton.mp r]; exact none0 T1 tS
  · rcases List.mem_cons.mp hb with r | r
    · rw [r]; exact I.hok.none_of eS
    · rw [List.mem_singleton.mp r]; exact I.hok.none_of tS
theorem throws_new2 {C : Addr} : Throws (cxOf (CX2 P w) P w K mg base N qual scope f cd A outer s0 H0 E) E C := fun _ _ _ _ _ _ _ I hx q => leave_new2 I hx q
end
section
variable {P : Program} {w : World} {K : PySem.W.Frag} {mg : Str → Option Value} {base : Heap} {x qual : Str} {st : Stmt} {f : Addr} {fd : FuncData} {N ps : List Str} {k : Nat} {sp : Sp}
/-- a def that may raise -/
theorem FunD.ok2 (F : FunD K x qual st f fd) (S : FnScope N ps (defScope st)) (len : ∀ vs H Q E, sp vs H Q E → vs.length = ps.length)
    (hbody : ∀ (cdv : Value) (A : Around) (outer : List Env) (s : Shared) (H : Hp) (vs : List V) (Q : VK) (E : XK), Room k (A.deeper (envOfC qual (defScope st) s.heap.objs.size f cdv)) → sp vs H Q E →
      ∃ t, QSs (cxOf (CX2 P w) P w K mg base N qual (defScope st) f cdv A outer s H E) (defBody st) t ∧ t { nx := fun _ H' => Q .non H', rt := Q } (start N vs) H) : FnOk P w K mg base (CX2 P w) (k + 1) f fd ps sp := by
  obtain ⟨oc, od, dV, kV, doc, pm, an, cdv, ct, osl, rfl, lk, hcd⟩ := F.ex
  refine fn_of lk hcd S len fun A outer s H vs Q E hr hsp => ?_
  obtain ⟨t, h, q⟩ := hbody cdv A outer s H vs Q E hr hsp
  exact ⟨t, h.ok, q⟩
end
end L2
set_option Elab.async false
set_option linter.all false
set_option maxRecDepth 100000
/-! the suite behind `except C as e`: the exception is handled while it runs -/
namespace L2
open PySem PySem.W PySem.Spec PyProof.Rows
/-! ### a walk over a list ends while an exception is handled -/
theorem ent_unchain : entryFor table "proto.unchain" = some Builtin.«proto.unchain» := entryFor_of_fast (by kernel_rfl)
section
variable {prog : Program} {w : World} {A : Around} {E : Value → Shared → Prop} {s : Shared}
theorem raise_new2 {α : Type} {a ea C : Addr} {oa : Obj} {vs : Array Value} {Q : α → Shared → Prop} (hh : A.handled = some (.ref ea)) (ex : ExcX ea C s.heap) (hne : a ≠ ea) (ho : s.heap.get? a = some oa) (hd : oa.data = .fields vs) (h2 : 2 < vs.size)
    (h : E (.ref a) { s with heap := s.heap.update a (Obj.mapFields (·.setIfInBounds 2 (.ref ea))) }) : wpAny (model prog w) A (raiseNew (.ref a) : Sem α) Q E s := by
  obtain ⟨o, us, q1, _, q3, q4⟩ := ex
  unfold raiseNew
  refine wpAny_bind (wpAny_handled ?_)
  rw [hh]
  have nn : (Value.ref ea != Value.ref a) = true := by
    rw [bne_iff_ne]
    exact fun z => hne (Value.ref.inj z).symm
  simp only [nn, if_true]
  refine wpAny_bind (wpAny_holding (wpAny_runValue (codeAny_builtin ent_unchain ?_)))
  unfold Builtin.«proto.unchain»
  refine wpAny_bind (wpAny_field q1 q3 q4 ?_)
  rw [if_pos (by decide)]
  refine wpAny_pure ?_
  have sf : wpAny (model prog w) A (setField (.ref a) 2 (.ref ea)) (fun _ s' => E (.ref a) s') E s := wpAny_setField ho hd h2 h
  exact wpAny_bind (wpAny_mono (show wpAny (model prog w) A (updateField a 2 (.ref ea)) (fun _ s' => E (.ref a) s') E s from sf) (fun _ s' z => wpAny_throw z) fun _ _ z => z)
theorem ExcX.keeps {ea C : Addr} {h h' : Heap} (x : ExcX ea C h) (k : ∀ o, h.get? ea = some o → h'.get? ea = some o) : ExcX ea C h' := by
  obtain ⟨o, us, q1, q2⟩ := x
  exact ⟨o, us, k o q1, q2⟩
theorem stop_raised {hp : Heap} {oe : Obj} {vs : Array Value} {ea C : Addr} {Q : Option Value → Shared → Prop} {Q' : Fin → Shared → Prop} (hh : A.handled = some (.ref ea)) (ex : ExcX ea C hp) (hd : oe.data = .fields vs) (h2 : 2 < vs.size) (hc : oe.cls = .type "StopIteration")
    (hq : ∀ h', (∀ b o, hp.get? b = some o → h'.get? b = some o) → Q none { s with heap := h' }) :
    wpAny (model prog w) A.in1 (raiseNew (.ref hp.objs.size)) Q' (fun e s' => wpAny (model prog w) A (do let b ← isInstance e (.type "StopIteration"); if b = true then pure none else throw e) Q E s') { s with heap := hp.push oe } := by
  have g1 : (hp.push oe).get? hp.objs.size = some oe := Heap.get?_push_size _ (Obj.isFreed_of_fields hd)
  have ne : hp.objs.size ≠ ea := by
    obtain ⟨o, us, q1, _⟩ := ex
    exact Nat.ne_of_gt (Heap.lt_size q1)
  have g2 := Heap.get?_update_self (Obj.mapFields (·.setIfInBounds 2 (Value.ref ea))) g1 (Obj.isFreed_of_fields (Obj.data_mapFields hd _))
  refine raise_new2 (s := { s with heap := hp.push oe }) (A := A.in1) hh (ex.keeps fun o q => Heap.get?_push_of_some _ q) ne g1 hd h2 ?_
  refine wpAny_bind (wpAny_isInstance (T := "StopIteration") (b := true) ⟨_, g2, (Obj.cls_mapFields _ _).trans hc⟩ isSubtype_stop ?_)
  exact wpAny_pure (hq _ fun b o q => (Heap.get?_update_other _ _ (Nat.ne_of_gt (Heap.lt_size q))).trans (Heap.get?_push_of_some _ q))
theorem list_end2 {it l ea C : Addr} {i : Nat} {items : Array Value} {Q : Option Value → Shared → Prop} (hh : A.handled = some (.ref ea)) (ex : ExcX ea C s.heap) (hei : ea ≠ it) (hit : s.heap.IsListIter it l i) (hl : s.heap.IsList l items) (hx : items[i]? = none)
    (hQ : ∀ h', Heap.ExtBut it s.heap h' → Q none { s with heap := h' }) : wpAny (model prog w) A (pyNext (.ref it)) Q E s := by
  obtain ⟨o, ho, hc, hd⟩ := id hit
  obtain ⟨ol, hol, _, nl, hdl⟩ := hl
  unfold pyNext
  refine wpAny_bind (wpAny_attempt (wpAny_callSpecial?_slot (name := Str.ofString "__next__") hit.typeIs slot_listiter_next (wpAny_call_entry slot_listiter_next hit.typeIs entry_listiter_next ?_ (args_listiter_next _))))
  show wpAny _ _ (field (.ref it) 0 >>= _) _ _ s
  refine wpAny_bind (wpAny_field ho hd (x := .ref l) rfl ?_)
  simp only [show (Value.ref l == Value.none) = false from rfl, Bool.false_eq_true, if_false]
  refine wpAny_bind (wpAny_field ho hd (x := .int i 0) rfl ?_)
  refine wpAny_bind (wpAny_seqItems hol hdl ?_)
  simp only [Int.toNat_natCast, hx]
  refine wpAny_bind (wpAny_rule (wpAny_bind (wpAny_setField ho hd (by simp) (wpAny_bind ?_))))
  simp only [newExc, newTuple]
  refine wpAny_bind (wpAny_newObj_type ?_ (by size_fits))
  refine wpAny_bind (m := firstArgMember _ _) (wpAny_of_eq (a := Value.none) (by first | rfl | (simp only [firstArgMember]; rfl)) (wpAny_newObj_type ?_ (by size_fits)))
  have x1 : Heap.ExtBut it s.heap (s.heap.update it (Obj.mapFields fun x => x.setIfInBounds 0 Value.none)) := (Heap.SameBut.update ..).extBut
  obtain ⟨o', us, q1, q2⟩ := ex
  exact stop_raised (s := s) hh ⟨o', us, Heap.get?_push_of_some _ (x1 _ _ hei q1), q2⟩ rfl (Nat.lt_of_lt_of_le (by decide : 2 < 6) (by simp)) rfl fun h' k => hQ h' fun b ob nb q => k b ob (Heap.get?_push_of_some _ (x1 b ob nb q))
/-- the walk over a list while an exception is handled -/
theorem walks2 {ea C I ax : Addr} (hh : A.handled = some (.ref ea)) (hne : ax ≠ I) (hei : ea ≠ I) (items : Array Value) :
    Walks prog w A I [I, ax, ea] [I] items.size (fun i v => items[i]? = some v) (fun i h => (h.IsListIter I ax i ∧ h.IsList ax items) ∧ ExcX ea C h) where
  sub := fun b hb => by simp at hb; simp [hb]
  frame := fun _ _ _ st hk => ⟨⟨st.1.1.at fun o e => hk I (by simp) o e, st.1.2.at fun o e => hk ax (by simp) o e⟩, st.2.keeps fun o e => hk ea (by simp) o e⟩
  item := fun i s Q E hi st hQ => by
    refine wpAny_pyNext_list_item st.1.1 st.1.2 (x := items[i]) (by simp [hi]) fun h1 i1 s1 => ?_
    exact hQ _ h1 s.toks (by simp [hi]) ⟨⟨i1, st.1.2.extBut s1.extBut hne⟩, st.2.keeps fun o e => s1.extBut ea o hei e⟩ fun b o hb e => s1.extBut b o (fun z => hb (by simp [z])) e
  done := fun s Q E st hQ => list_end2 hh st.2 hei st.1.1 st.1.2 (by simp) fun h1 x1 => hQ h1 s.toks fun b o hb e => x1 b o (fun z => hb (by simp [z])) e
  self := fun _ _ _ _ st hQ => wpAny_pyIter_listiter st.1.1 hQ
end
section
variable {X : Cx}
/-- any(a list of truths), while an exception is handled -/
theorem call_any2 {ea : Addr} (hh : X.A.handled = some (.ref ea)) : CallR X (.builtin "any") (fun xs H Q => ∃ (p : Addr) (bs : List Bool) (C : Addr), xs = [.ref p] ∧ H p = some (.lst (bs.map V.bl)) ∧ ExH H ea C ∧ Q (.bl (bs.any id)) H) := by
  intro pins s σ H xs us Q I r h
  obtain ⟨p, bs, C, rfl, hp, ex, q⟩ := h
  cases r with
  | cons r rr =>
    cases rr
    cases (show _ = Value.ref p from r)
    obtain ⟨its, rv, pl, hz⟩ := I.list (SqL.of hp)
    obtain ⟨xx, _⟩ := (show ObjOk X.prog X.w H s.heap ea (.ext (ExcX ea C)) from I.hok ea _ ex)
    have hl := rv.length
    have ho : (s.heap.push { cls := .type "list_iterator", data := .fields #[.ref p, .int 0 0] }).IsListIter s.heap.objs.size p 0 := ⟨_, Heap.get?_push_size _ rfl, rfl, rfl⟩
    have np : p ≠ s.heap.objs.size := Nat.ne_of_lt (I.hok.lt hp)
    have ne : ea ≠ s.heap.objs.size := Nat.ne_of_lt (I.hok.lt ex)
    refine call_any_walk (wpAny_pyIter_list pl.isList ⟨s.heap.objs.size, _, _, _, _, _, fun i => bs.getD i false, rfl, walks2 (C := C) (A := X.A.in1) hh np ne its.toArray, ⟨⟨ho, pl.isList.at fun o e => Heap.get?_push_of_some _ e⟩, xx.keeps fun o e => Heap.get?_push_of_some _ e⟩, fun i v s Q E hv hq => ?_, fun h' tk k => ?_⟩)
    · have hi : its[i]? = some v := by simpa using hv
      have hb : i < bs.length := by
        have := (List.getElem?_eq_some_iff.mp hi).1
        rw [← hl, List.length_map] at this
        exact this
      obtain ⟨u, hu, ru⟩ := rv.get (x := V.bl bs[i]) (by rw [List.getElem?_map, List.getElem?_eq_getElem hb]; rfl)
      rw [hi] at hu
      cases hu
      cases (show v = Value.bool bs[i] from ru)
      have e : bs.getD i false = bs[i] := by rw [List.getD_eq_getElem?_getD, List.getElem?_eq_getElem hb]; rfl
      have hq : Q (bs.getD i false) s := hq
      rw [e] at hq
      exact wpAny_pure hq
    · have e : (List.range its.toArray.size).any (fun i => bs.getD i false) = bs.any id := by
        have hs : its.toArray.size = bs.length := by rw [List.size_toArray, ← hl, List.length_map]
        rw [hs]
        have key : (List.range bs.length).map (fun i => bs.getD i false) = bs := by
          refine List.ext_getElem (by simp) fun i h1 h2 => ?_
          simp [h2]
        conv => rhs; rw [← key]
        rw [List.any_map]
        rfl
      refine ⟨.bl (bs.any id), H, I.kept (t' := tk) fun b o q => ?_, by rw [← e]; rfl, q⟩
      exact k b o (fun z => Nat.ne_of_lt (Heap.lt_size q) (by simpa using z)) (Heap.get?_push_of_some _ q)
end
end L2
set_option Elab.async false
set_option linter.all false
set_option maxRecDepth 100000
/-! a def that is called while an exception is handled; try .. except C as e -/
namespace L2
open PySem PySem.W PySem.Spec PyProof.Rows
structure RoomE (ea : Addr) (k : Nat) (A : Around) : Prop where
  hd : A.handled = some (.ref ea)
  dp : A.depth + 3 * k + 5 < recursionLimit
  un : A.units + 16 * k + 200 < cLine
theorem RoomE.deeper {ea : Addr} {k : Nat} {A : Around} (r : RoomE ea (k + 1) A) (env : Env) : RoomE ea k (A.deeper env) :=
  ⟨r.hd, by have := r.dp; show A.depth + 1 + 3 * k + 5 < _; omega, by have := r.un; show A.units + 3 + 16 * k + 200 < _; omega⟩
theorem Room.marked {ea : Addr} {k : Nat} {A : Around} (r : Room k A) : RoomE ea k (A.mark (some (.ref ea))) := ⟨rfl, r.dp, r.un⟩
/-- a context in which an exception is handled -/
abbrev Cx.hot (X : Cx) : Cx := { X with calm := false }
section
variable {X : Cx} {pins : List (Addr × Obj)} {σ : St} {H : Hp} {s : Shared}
end
structure FnOkE (P : Program) (w : World) (K : PySem.W.Frag) (mg : Str → Option Value) (base : Heap) (k : Nat) (f : Addr) (fd : FuncData) (ps : List Str) (sp : Addr → Sp) : Prop where
  len : ∀ ea vs H Q E, sp ea vs H Q E → vs.length = ps.length
  run : ∀ (ea : Addr) (A : Around) (outer : List Env) (s : Shared) (H : Hp) (args : Args) (us : List Value) (vs : List V) (Q : VK) (E : XK), RoomE ea k A → Env0 P w K mg base A outer s H → BindsTo s fd args (ps.zip us) → Vals vs us → sp ea vs H Q E →
    codeAny (model P w) A (.call (.ref f) args) (CR CX0 outer P w H s Q E) s
section
variable {P : Program} {w : World} {K : PySem.W.Frag} {mg : Str → Option Value} {base : Heap}
/-- a def's body while an exception is handled -/
theorem Fun.okE {x qual : Str} {st : Stmt} {f : Addr} {fd : FuncData} {N ps : List Str} {k : Nat} {sp : Addr → Sp} (F : Fun K x qual st f fd) (S : FnScope N ps (defScope st)) (len : ∀ ea vs H Q E, sp ea vs H Q E → vs.length = ps.length)
    (hbody : ∀ (cdv : Value) (ea : Addr) (A : Around) (outer : List Env) (s : Shared) (H : Hp) (vs : List V) (Q : VK) (E : XK), RoomE ea k (A.deeper (envOfC qual (defScope st) s.heap.objs.size f cdv)) → sp ea vs H Q E →
      ∃ t, QSs (cxOf CX0 P w K mg base N qual (defScope st) f cdv A outer s H E).hot.nox (defBody st) t ∧ t { nx := fun _ H' => Q .non H', rt := Q } (start N vs) H) : FnOkE P w K mg base (k + 1) f fd ps sp := by
  obtain ⟨oc, od, kV, doc, pm, an, cdv, ct, osl, rfl, lk, hcd⟩ := F.ex
  refine ⟨len, fun ea A outer s H args us vs Q E hr e0 hb r hsp => ?_⟩
  have hl := len _ _ _ _ _ hsp
  have KX : K.In s.heap := e0.mod.kin.keeps fun b o e => (e0.bs b o e).1
  have lim : s.heap.NoLimit := e0.mod.nolimit.keeps fun b o e => (e0.bs b o e).1
  have hkind : ∀ y ∈ ps.zip us, (defScope st).names.lookup y.1 = some .local ∨ ((defScope st).names.lookup y.1 = some .cell ∧ ((cellsFrom (s.heap.objs.size + 1) (defScope st).names []).lookup y.1).isSome = true) := fun ⟨n, v⟩ hy => by
    rcases S.par n (List.of_mem_zip hy).1 with q | q
    · exact .inl q
    · exact .inr ⟨q, PySem.W.cellsFrom_some _ _ _ (.inl q)⟩
  refine codeAny_call_function (by have := hr.dp; omega) (KX _ _ lk) rfl S.co S.gen rfl (PySem.W.codeRec_of KX hcd) (hb _ _ _ _ ?_)
  refine wpAny_newFunctionEnv_cells S.kind hkind fun env he s1 x => ?_
  subst he
  refine ⟨lim.keeps x.toInCall.keep, codeAny_func ?_⟩
  obtain ⟨t, ht, hq⟩ := hbody cdv ea A outer s H vs Q E (hr.deeper _) hsp
  have I0 : Inv (cxOf CX0 P w K mg base N qual (defScope st) f cdv { A with handled := none } outer s H E) [] (start N vs) H s1 := inv_start S rfl ⟨e0.frames, e0.mod, e0.bs, e0.bsz, e0.funs, e0.frf, e0.hok, e0.bare⟩ hl r x
  have ok0 := I0.ok
  have I : Inv (cxOf CX0 P w K mg base N qual (defScope st) f cdv A outer s H E).hot [] (start N vs) H s1 :=
    ⟨⟨ok0.mod, ok0.kind, ok0.glob, ok0.blt, ok0.above, ok0.inj, ok0.has, ok0.cab, fun z => (nomatch z), Around.frames_deeper e0.frames, ok0.stk, ok0.exf, ok0.bs, ok0.bsz, ok0.noex, ok0.exfs, ok0.funs, ok0.frf⟩, I0.os, I0.bare, I0.base, I0.loc, I0.cell, I0.free, I0.freeC, I0.pin, I0.hok, I0.len⟩
  refine wpAny_mono (ht.ok.nox [] s1 (start N vs) H _ I hq) (fun fl s' hs => ?_) fun e s' hs => hs
  have fin : ∀ {σ' : St} {H' : Hp} {v : V} {u : Value}, Inv (cxOf CX0 P w K mg base N qual (defScope st) f cdv A outer s H E).hot [] σ' H' s' → RelV v u → Q v H' → CE outer P w H s Q u s' :=
    fun {σ' H' v u} J rv q => ⟨v, H', J.os, J.bare, J.base, J.hok, rv, q⟩
  cases fl with
  | ret u =>
    obtain ⟨v, σ', H', J, rv, q⟩ := hs
    exact fin J rv q
  | next =>
    obtain ⟨σ', H', J, q⟩ := hs
    exact fin (v := V.non) (u := Value.none) J rfl q
  | brk =>
    obtain ⟨_, _, _, q⟩ := hs
    exact False.elim q
  | cont =>
    obtain ⟨_, _, _, q⟩ := hs
    exact False.elim q
end
section
variable {X : Cx} {k : Nat} {f : Addr} {fd : FuncData} {ps : List Str} {sp : Addr → Sp} {ds : List Value} {dvs : List V} {x : Str} {p pos : Pos} {e : Expr} {es : List Expr} {t : TA} {ea : Addr}
theorem qpe_callE (F : FnOkE X.prog X.w X.K X.mg X.base k f fd ps sp) (hr : RoomE ea k X.A) (hg : Gl X x) (hm : X.mg x = some (.ref f)) (hk : PySem.W.keepIn X.K (.ref f) = true) (hb : Binds X.K fd ps ds) (hd : Vals dvs ds)
    (ha : QA X (e :: es) t) (hdb : (x == ("__debug__" : Str)) = false := by decide) (he : starEach (e :: es) X.env = (false, eval e X.env) :: starEach es X.env := by rfl) (hpl : (backTo pos (starEach es X.env)).any (·.1) = false := by rfl) :
    QE X (.Call (.Name x p) (e :: es) [] pos) (tCall (sp ea) dvs E0 t) := ⟨by
  intro pins s σ H Q I h
  refine wpAny_Call_Name_kw (ld_glob I hg hm ?_ hdb)
  refine PySem.W.callWith_K (h₀ := X.base) I.ok.mod.kin hk (thn (ha.ok pos pins s σ H _ I h) fun us s1 ⟨vs, H1, I1, r, q⟩ => ⟨I1.kIn, ?_⟩) he hpl
  have r2 : Vals (vs ++ dvs) (us ++ ds) := r.append hd
  have hl : (us ++ ds).length = ps.length := by rw [← r2.length]; exact F.len _ _ _ _ _ q
  refine wpAny_call (codeAny_mono (F.run ea X.A X.stack s1 H1 ⟨us, []⟩ (us ++ ds) (vs ++ dvs) Q E0 hr I1.env0 (hb s1 us I1.kIn hl) r2 q) fun r s' hq => ?_)
  cases r with
  | error e => exact False.elim hq
  | ok fl =>
    cases fl with
    | ret u => exact I1.after hq
    | next => exact False.elim hq
    | brk => exact False.elim hq
    | cont => exact False.elim hq⟩
end
/-! ### caught by a class above its own -/
theorem exc_matches2 {M : Model} {A : Around} {E : Value → Shared → Prop} {K : PySem.W.Frag} {nm q : Str} {C D N : Addr} {bs bm : List Value} {hdct : Bool} {sn : List Str} {sub : List Value} {ab : Bool} {col : Option Bool} {dd : Option Addr} {k0 k1 k2 k3 k5 : Option Value} {newId : String}
    {h : Heap} {g : Array GenState} {d : Drawn} {t : Nat} {os : OsState} {e : Addr} {oe : Obj} {Q : Bool → Shared → Prop} (X : K.In h) (hD : h.get? D = some (excClassObj nm q D N bs bm hdct sn sub ab col dd k0 k1 k2 k3 k5 newId)) (hbase : bm.contains (.type "BaseException") = true)
    (he : h.get? e = some oe) (hcls : oe.cls = .ref C) (hs : PySem.W.subIn K (.ref C) (.ref D) = some true) (hq : Q true ⟨h, g, d, t, os⟩) : wpAny M A (excMatches (.ref e) (.ref D)) Q E ⟨h, g, d, t, os⟩ := by
  have b1 : (Value.ref D :: bm).contains (.type "BaseException") = true := by rw [List.contains_cons, hbase, Bool.or_true]
  have ls : Looks M h (isSubtype (.ref C) (.ref D)) true := looks_subIn X hs
  have f := tc_notTuple
  unfold excMatches
  repeat (first | (with_reducible refine wpAny_loadPart_at he ?_; rw [hcls]) | with_reducible refine wpAny_loadPart_at hD ?_ | with_reducible refine ls.at ?_ | (with_reducible refine wpAny_isSubtype_exc hD ?_; rw [b1]) | wp_step)
  exact hq
section
variable {X : Cx} {pins : List (Addr × Obj)} {σ : St} {H : Hp} {s : Shared}
/-- an object that no one had told of is told of -/
theorem Inv.track {a : Addr} {o : HO} (I : Inv X pins σ H s) (hH : H a = none) (h0 : X.s₀.heap.get? a = none) (hL : a ≠ X.env.locals) (hc : ∀ x c, X.env.cells.lookup x = some c → c ≠ a) (hp : ∀ p ∈ X.pn ++ pins, p.1 ≠ a) (new : ObjOk X.prog X.w (upd H a o) s.heap a o) : Inv X pins σ (upd H a o) s := by
  have at_ : ∀ b u, H b = some u → upd H a o b = some u := fun b u q => by rw [upd_ne (ne_of_none q hH)]; exact q
  refine ⟨I.ok, I.os, I.bare, ⟨I.base.keep, I.base.slot, fun b ob q n hx => ?_, I.base.there, fun b xs q => at_ b _ (I.base.tups b xs q), fun b ob u q => at_ b _ (I.base.frzs b ob u q), fun b ps q => ?_⟩, I.loc, I.cell, ?_, fun x c q => ?_, fun p q => ?_, fun b u q => ?_, I.len⟩
  · have nb : b ≠ a := fun z => by rw [z, h0] at q; cases q
    rw [upd_ne nb]
    exact I.base.free b ob q n hx
  · obtain ⟨more, q2⟩ := I.base.tbls b ps q
    exact ⟨more, at_ b _ q2⟩
  · rw [upd_ne (Ne.symm hL)]
    exact I.free
  · rw [upd_ne (hc x c q)]
    exact I.freeC x c q
  · obtain ⟨q1, q2, q3⟩ := I.pin p q
    exact ⟨q1, by rw [upd_ne (hp p q)]; exact q2, q3⟩
  · by_cases nb : b = a
    · subst nb
      rw [upd_same] at q
      cases q
      exact new
    · rw [upd_ne nb] at q
      exact (I.hok b u q).stay (fun _ _ _ z => z) (fun c z => at_ c _ z) fun c xs z => at_ c _ z
/-- the name goes behind the suite -/
theorem goes_ok {M : Model} {A : Around} {E : Value → Shared → Prop} {i : Nat} {x : Str} {pos : Pos} {Q : Unit → Shared → Prop} (I : Inv X pins σ H s) (hN : X.N.Nodup) (hi : X.N[i]? = some x) (hk : X.env.kindOf x = some .local)
    (h : ∀ s', Inv X pins (σ.set i none) H s' → Q () s') : wpAny M A (do bindName X.env x .none; unbindBehindTheSuite X.env x pos) Q E s := by
  obtain ⟨m, hn, hl⟩ := id I.loc
  have hcls : (X.env.scope.kind == .class || (X.env.scope.kind == .module && X.env.locals != X.env.globals)) = false := by rw [I.ok.kind]; rfl
  refine wpAny_nameGoes_keeps hk hn hcls fun h' v hn' hs => ?_
  obtain ⟨oL, _, _, hoL, _⟩ := id hn
  have away : ∀ b o, X.s₀.heap.get? b = some o → b ≠ X.env.locals := fun b o q => Nat.ne_of_lt (Nat.lt_of_lt_of_le (Heap.lt_size q) I.ok.above)
  refine h _ ⟨I.ok, I.os, I.bare, ⟨fun b o q n hb hx => (hs.2 b (away b o q)).trans (I.base.keep b o q n hb hx), fun b o q n hb hx => ?_, I.base.free, fun b o q hx => ?_, I.base.tups, I.base.frzs, I.base.tbls⟩, ⟨_, hn', fun j y v' e1 e2 e3 => ?_⟩, fun y c q => ?_, I.free, I.freeC, fun p hp => ?_, fun b ob q => ?_, by simpa using I.len⟩
  · obtain ⟨sl, q1⟩ := I.base.slot b o q n hb hx
    exact ⟨sl, (hs.2 b (away b o q)).trans q1⟩
  · obtain ⟨o', q1⟩ := I.base.there b o q hx
    exact ⟨o', (hs.2 b (away b o q)).trans q1⟩
  · by_cases hj : j = i
    · subst hj
      have : j < σ.length := by rw [I.len]; exact (List.getElem?_eq_some_iff.mp hi).1
      rw [List.getElem?_set_self this] at e2
      cases e2
    · rw [List.getElem?_set_ne (Ne.symm hj)] at e2
      obtain ⟨u', r', q⟩ := hl j y v' e1 e2 e3
      refine ⟨u', r', ?_⟩
      rcases q with ⟨k, e⟩ | ⟨k, c, e, z⟩
      · refine .inl ⟨k, ?_⟩
        have : y ≠ x := fun e => hj (nodup_ix hN e1 (e ▸ hi))
        simp [this, e]
      · exact .inr ⟨k, c, e, z.sameBut hs (I.cne y c e)⟩
  · obtain ⟨w', z⟩ := I.cell y c q
    exact ⟨w', z.sameBut hs (I.cne y c q)⟩
  · obtain ⟨e, n, ne, nf, d⟩ := I.pin p hp
    exact ⟨(hs.2 p.1 ne).trans e, n, ne, nf, d⟩
  · refine (I.hok b ob q).stay (fun c w' hc z => (hs.2 c ?_).trans z) (fun _ z => z) fun _ _ z => z
    rintro rfl
    rcases hc with z | z
    · rw [← z, I.free] at q; cases q
    · rw [I.free] at z; cases z
end
/-- the ends of a suite whose name goes -/
def unb (i : Nat) (D : Ends) : Ends := { nx := fun σ H => D.nx (σ.set i none) H, rt := D.rt, bk := fun σ H => D.bk (σ.set i none) H, ct := fun σ H => D.ct (σ.set i none) H }
def tTryAs (sp : Sp) (dvs : List V) (C : Addr) (i : Nat) (t : TA) (ts : Addr → TS) : TS := fun D σ H => t σ H fun vs H1 => sp (vs ++ dvs) H1 (fun _ H2 => D.nx σ H2)
  (fun cls _ H2 => cls = .ref C ∧ ∀ ea, H2 ea = none → ts ea (unb i D) (σ.set i (some (.ref ea))) (upd H2 ea (.ext (ExcX ea C))))
section
variable {X : Cx} {k i : Nat} {f C Dc : Addr} {fd : FuncData} {ps : List Str} {sp : Sp} {dvs : List V} {ds : List Value} {x y n : Str} {p pos cpos epos hpos np : Pos} {e : Expr} {es : List Expr} {t : TA} {b0 : Stmt} {suite : List Stmt} {ts : Addr → TS}
theorem qps_tryAs (F : FnOk X.prog X.w X.K X.mg X.base (CX2 X.prog X.w) k f fd ps sp) (hr : Room k X.A) (hg : Gl X x) (hm : X.mg x = some (.ref f)) (hk : PySem.W.keepIn X.K (.ref f) = true) (hb : Binds X.K fd ps ds) (hd : Vals dvs ds)
    (ha : ∀ Eb, QA (X.wish Eb) (e :: es) t) (hst : X.stack = X.env :: X.outer) (hfr : X.env.frame = some X.env.locals) (hxe : ∀ ev s, X.xe ev s → False)
    (hgy : Gl X y) (hmy : X.mg y = some (.ref Dc)) (qy : PySem.W.excIn X.K Dc bmVE "ValueError.__new__" = true) (hCD : PySem.W.subIn X.K (.ref C) (.ref Dc) = some true)
    (hN : X.N.Nodup) (hi : X.N[i]? = some n) (hloc : X.env.kindOf n = some .local) (hex : X.ex = []) (hs : ∀ ea, QSs (X.marked (.ref ea)) (b0 :: suite) (ts ea))
    (he : starEach (e :: es) X.env = (false, eval e X.env) :: starEach es X.env := by rfl) (hpl : (backTo cpos (starEach es X.env)).any (·.1) = false := by rfl) (hdb : (x == ("__debug__" : Str)) = false := by decide) (hdy : (y == ("__debug__" : Str)) = false := by decide)
    (hsw : swapsWith (.Call (.Name x p) (e :: es) [] cpos) none epos.line X.env = pure false := by rfl) :
    QS X (.Try [.Expr (.Call (.Name x p) (e :: es) [] cpos) epos] [.ExceptHandler (some (.Name y np)) (some n) (b0 :: suite) hpos] [] [] pos) (tTryAs sp dvs C i t ts) := ⟨by
  intro pins s σ H D I h
  refine wpAny_Try_except ?_
  refine wpAny_execs_cons (wpAny_mono (Q := SP X pins D) ?_ (fun fl s1 q => ?_) fun _ _ z => z)
  · generalize hEb : (fun (e : Value) (s₁ : Shared) => wpAny (model X.prog X.w) X.A (noteFrame e X.env) (fun _ s₂ => wpAny (model X.prog X.w) X.A (setFlight e none) (fun _ s₃ => wpAny (model X.prog X.w) X.A (handleBy e X.env [.ExceptHandler (some (.Name y np)) (some n) (b0 :: suite) hpos]) (SP X pins D) X.xe s₃) X.xe s₂) X.xe s₁) = Eb
    have I0 := I.wish Eb
    refine wpAny_Expr_any (Q := SP X pins D) ?_ I.quiet hsw
    refine wpAny_Call_Name_kw (ld_glob I hg hm ?_ hdb)
    refine PySem.W.callWith_K (h₀ := X.base) I.ok.mod.kin hk (thn ((ha Eb).ok cpos pins s σ H _ I0 h) fun us s1 ⟨vs, H1, I1, r, q⟩ => ⟨I1.kIn, ?_⟩) he hpl
    have r2 : Vals (vs ++ dvs) (us ++ ds) := r.append hd
    have hl : (us ++ ds).length = ps.length := by rw [← r2.length]; exact F.len _ _ _ _ q
    have J1 : Inv X pins σ H1 s1 := I1.unwish
    refine wpAny_call (codeAny_mono (F.run X.A X.stack s1 H1 ⟨us, []⟩ (us ++ ds) (vs ++ dvs) _ _ hr J1.env0 (hb s1 us J1.kIn hl) r2 q) fun r s' hq => ?_)
    cases r with
    | ok fl =>
      cases fl with
      | ret u =>
        obtain ⟨v, H2, I2, _, q2⟩ := J1.after hq
        exact ⟨σ, H2, I2, q2⟩
      | next => exact False.elim hq
      | brk => exact False.elim hq
      | cont => exact False.elim hq
    | error ev =>
      show Eb ev s'
      rw [← hEb]
      obtain ⟨ea, T, cls, H', rfl, os, bare, un, hok, fl, rfl, q⟩ := hq
      obtain ⟨hh, g, d, tk, os'⟩ := s'
      obtain rfl : os' = s1.os := os
      have I2 : Inv X pins σ H' { s1 with heap := hh, gens := g, drawn := d, toks := tk } := J1.call (h' := hh) (g' := g) (d' := d) (t' := tk) (ch := []) un hok bare (fun b z => nomatch z)
      have noneS : ∀ b ∈ [ea, T], s1.heap.get? b = none := fun b hb => by
        rcases List.mem_cons.mp hb with r | r
        · rw [r]; exact fl.e0
        · rw [List.mem_singleton.mp r]; exact fl.t0
      have noneH : ∀ b ∈ [ea, T], H' b = none := fun b hb => by
        rcases List.mem_cons.mp hb with r | r
        · rw [r]; exact fl.eH
        · rw [List.mem_singleton.mp r]; exact fl.tH
      have go : ∀ h5, Wind [ea, T] (frs X.stack) hh h5 → Inv X pins σ H' { s1 with heap := h5, gens := g, drawn := d, toks := tk } := fun h5 L =>
        J1.call (h' := h5) (g' := g) (d' := d) (t' := tk) (ch := []) (un_wind un L noneS) (L.hok (fun b hb => (I2.frOk b hb).1) noneH hok) bare (fun b z => nomatch z)
      refine note_next (s := { s1 with heap := hh, gens := g, drawn := d, toks := tk }) (L := X.env.locals) (env := X.env) (outer := X.outer) (base := X.base) (by rw [← hst]; exact I.ok.frames) (by rw [← hst]; exact I2.stack) hfr fl.air fun h4 T4 f4 a4 w4 => ?_
      refine set_none2 (s := { s1 with heap := h4, gens := g, drawn := d, toks := tk }) a4 fun h5 a5 w5 => ?_
      rw [← hst] at w4
      have w45 : Wind [T4] (frs X.stack) h4 h5 := ⟨fun b o q n _ => w5.keep b o q n (by simp), w5.slot⟩
      have fresh4 : ∀ b o, hh.get? b = some o → b ∈ [T4] → b ∈ [ea, T] := fun b o y z => by
        obtain rfl := List.mem_singleton.mp z
        rw [show hh.get? b = none from f4] at y
        cases y
      have w05 := w4.trans (cs := [ea, T]) w45 (by simp) fresh4
      have I5 := go h5 w05
      obtain ⟨⟨ob, us5, _, _, hob, hobc, _⟩, _⟩ := id a5
      refine wpAny_handleBy_cons (codeAny_handlers_test (ld_glob (X := X.marked (.ref ea)) I5.marked hgy hmy ?_ hdy)) (by intro q; cases q)
      obtain ⟨tl, N, nm, qn, bs, hdct, sn, sub, ab, col, dd, k0, k1, k2, k3, k5, mN, hC, hN', hni, TL⟩ := (own_cls (h := X.base) I.ok.mod.kin hmy qy).obj
      refine exc_matches2 I5.kIn (I5.bk _ _ hC) (TL.hasType (by decide +kernel)) hob hobc hCD (codeAny_handlers_suite_as ?_)
      refine set_none2 (s := { s1 with heap := h5, gens := g, drawn := d, toks := tk }) a5 fun h6 a6 w6 => ?_
      have w56 : Wind [T4] (frs X.stack) h5 h6 := ⟨fun b o q n _ => w6.keep b o q n (by simp), w6.slot⟩
      have w06 := w05.trans (cs := [ea, T]) w56 (by simp) fresh4
      have I6 := go h6 w06
      -- the exception is told of
      have out1 : ∀ b o, s1.heap.get? b = some o → b ≠ ea := fun b o z y => by rw [y, fl.e0] at z; cases z
      have x6 : ExcX ea C h6 := by
        obtain ⟨⟨o6, v6, _, _, z1, z2, z3, _, z4, _⟩, _⟩ := a6
        exact ⟨o6, v6, z1, z2, z3, z4⟩
      have I7 : Inv X pins σ (upd H' ea (.ext (ExcX ea C))) { s1 with heap := h6, gens := g, drawn := d, toks := tk } := by
        refine I6.track fl.eH ?_ ?_ (fun x c z => ?_) (fun p z => ?_) (excX_ok x6)
        · cases z : X.s₀.heap.get? ea with
          | none => rfl
          | some o =>
            obtain ⟨o', z'⟩ := J1.base.there ea o z (by rw [hex]; simp)
            exact absurd rfl (out1 ea o' z')
        · obtain ⟨m, ⟨o, _, _, ho, _⟩, _⟩ := J1.loc
          exact Ne.symm (out1 _ o ho)
        · obtain ⟨v, o, ho, _⟩ := J1.cell x c z
          exact out1 c o ho
        · obtain ⟨q1, _⟩ := J1.pin p z
          exact out1 p.1 p.2 q1
      refine store_ok (X := X.marked (.ref ea)) (E := _) I7.marked hN hi (.inl hloc) (v := .ref ea) rfl (fun s8 I8 => ?_) (.inr hloc)
      refine wpAny_mono ((hs ea).ok pins s8 _ _ (unb i D) I8 (q ea fl.eH)) (fun f9 s9 q9 => ?_) fun ev s' z => (hxe ev s' z).elim
      have J9 := SP.unmarked I.ok q9
      cases f9 with
      | next => obtain ⟨σ', H9, I9, q9⟩ := J9; exact goes_ok I9 hN hi hloc fun s' I' => ⟨_, _, I', q9⟩
      | brk => obtain ⟨σ', H9, I9, q9⟩ := J9; exact goes_ok I9 hN hi hloc fun s' I' => ⟨_, _, I', q9⟩
      | cont => obtain ⟨σ', H9, I9, q9⟩ := J9; exact goes_ok I9 hN hi hloc fun s' I' => ⟨_, _, I', q9⟩
      | ret u => obtain ⟨v, σ', H9, I9, r9, q9⟩ := J9; exact goes_ok I9 hN hi hloc fun s' I' => ⟨v, _, _, I', r9, q9⟩
  · cases fl with
    | next => exact wpAny_execs_nil (wpAny_execs_nil q)
    | ret v => exact q
    | brk => exact q
    | cont => exact q⟩
end
end L2
set_option Elab.async false
set_option linter.all false
set_option maxRecDepth 100000
namespace L2
open PySem PySem.W PySem.Spec PyProof.Rows
theorem bt_ValueError : bootBuiltins "ValueError" = some (.type "ValueError") := by decide +kernel
theorem FnOkE.mono {P : Program} {w : World} {K : PySem.W.Frag} {mg : Str → Option Value} {base : Heap} {j k : Nat} {f : Addr} {fd : FuncData} {ps : List Str} {sp : Addr → Sp} (F : FnOkE P w K mg base j f fd ps sp) (h : j ≤ k) : FnOkE P w K mg base k f fd ps sp :=
  ⟨F.len, fun ea A outer s H args us vs Q E r => F.run ea A outer s H args us vs Q E ⟨r.hd, by have := r.dp; omega, by have := r.un; omega⟩⟩
theorem frac_q {t b : Int} {P : Int → Int → Prop} (h : P t b) : ∀ t' b' : Int, V.int t = .int t' → V.int b = .int b' → b' ≠ 0 → P t' b' := fun t' b' e1 e2 _ => by
  cases e1
  cases e2
  exact h
theorem frac_no {t b : Int} {A : Prop} (hb : b ≠ 0) : isI (.int t) = false ∨ isI (.int b) = false ∨ V.int b = .int 0 → A := fun z => by
  rcases z with z | z | z
  · cases z
  · cases z
  · exact absurd (V.int.inj z) hb
/-! ### tuples of whole numbers, held against one another -/
theorem ints_same (ns ms : List Int) : ((List.range (min ns.length ms.length)).all (fun j => ns.getD j 0 == ms.getD j 0) && ns.length == ms.length) = decide (ns = ms) := by
  rw [Bool.eq_iff_iff, Bool.and_eq_true, List.all_eq_true, beq_iff_eq, decide_eq_true_iff]
  constructor
  · rintro ⟨h1, h2⟩
    refine List.ext_getElem h2 fun i a b => ?_
    have q := beq_iff_eq.mp (h1 i (List.mem_range.mpr (by omega)))
    rw [List.getD_eq_getElem?_getD, List.getD_eq_getElem?_getD, List.getElem?_eq_getElem a, List.getElem?_eq_getElem b] at q
    exact q
  · rintro rfl
    exact ⟨fun j _ => beq_self_eq_true _, rfl⟩
section
variable {X : Cx}
def rNeI (K : PySem.W.Frag) : R2 := fun x y H Q => ∃ (a b : Addr) (ns ms : List Int), x = .ref a ∧ y = .ref b ∧ SqT K H a (ns.map V.int) ∧ SqT K H b (ms.map V.int) ∧ Q (.bl (!decide (ns = ms))) H
theorem op_neI (hu : X.A.units < cLine) : OpR X (compareOp .NotEq) (rNeI X.K) := by
  intro pins s σ H x y v u Q I rx ry h
  obtain ⟨a, b, ns, ms, rfl, rfl, ha, hb, q⟩ := h
  cases rx
  cases ry
  obtain ⟨its, r1, p1, _⟩ := I.tuple ha
  obtain ⟨its2, r2, p2, _⟩ := I.tuple hb
  have l1 : its.toArray.size = ns.length := by rw [List.size_toArray, ← r1.length, List.length_map]
  have l2 : its2.toArray.size = ms.length := by rw [List.size_toArray, ← r2.length, List.length_map]
  have one : ∀ {zs : List Int} {vs : List Value} (r : Vals (zs.map V.int) vs) (j : Nat) (hj : j < vs.toArray.size), ∃ t, vs.toArray[j] = Value.int (zs.getD j 0) t := fun {zs vs} r j hj => by
    have hz : j < zs.length := by rw [List.size_toArray, ← r.length, List.length_map] at hj; exact hj
    obtain ⟨w, hw, t, rw⟩ := r.get (i := j) (x := V.int zs[j]) (by rw [List.getElem?_map, List.getElem?_eq_getElem hz]; rfl)
    refine ⟨t, ?_⟩
    have e : zs.getD j 0 = zs[j] := by rw [List.getD_eq_getElem?_getD, List.getElem?_eq_getElem hz]; rfl
    rw [e]
    have := (List.getElem?_eq_some_iff.mp hw).2
    rw [← rw, ← this]
    rfl
  have main := PySem.SeqAt.RcNeAt.tuples (A := X.A) (s := s) (e := fun j => ns.getD j 0 == ms.getD j 0) (show s.heap.IsTuple a its.toArray from p1) (show s.heap.IsTuple b its2.toArray from p2) hu (fun j h1 h2 => by
    obtain ⟨t1, e1⟩ := one r1 j h1
    obtain ⟨t2, e2⟩ := one r2 j h2
    rw [e1, e2]
    exact PySem.SeqAt.EqAt.int_int _ _ _ _)
  rw [l1, l2, ints_same] at main
  exact main _ _ _ _ ⟨.bl (!decide (ns = ms)), H, I, rfl, q⟩
end
/-! ### what is a fraction -/
inductive FrT (K : PySem.W.Frag) (H : Hp) : V → Bool → Prop where
  | no {v : V} {t : String} {i b : Bool} (k : Kind t i b false) (ty : TyOf K H v (.type t)) : FrT K H v false
  | len {a : Addr} {xs : List V} (h : H a = some (.tup xs)) (n : xs.length ≠ 2) : FrT K H (.ref a) false
  | part {a : Addr} {x y : V} (h : H a = some (.tup [x, y])) (tx : Thing K H x) (ty : Thing K H y) (n : isI x = false ∨ isI y = false) : FrT K H (.ref a) false
  | two {a : Addr} {x y : Int} (h : FrAt H a x y) {b : Bool} (e : b = (decide (1 ≤ y) && decide (Nat.gcd x.natAbs y.natAbs = 1))) : FrT K H (.ref a) b
theorem FrT.low {K : PySem.W.Frag} {H : Hp} {a : Addr} {x y : Int} (h : FrAt H a x y) (p : 0 < y) (c : Nat.gcd x.natAbs y.natAbs = 1) : FrT K H (.ref a) true :=
  .two h (by rw [decide_eq_true (show 1 ≤ y by omega), decide_eq_true c]; rfl)
def spFrT (K : PySem.W.Frag) : Sp := fun vs H Q _ => ∃ (v : V) (b : Bool), vs = [v] ∧ FrT K H v b ∧ Q (.bl b) H
theorem iteP {a b : Int} {A B : Prop} (h1 : b < a → A) (h2 : ¬ b < a → B) : if decide (b < a) = true then A else B :=
  ite2 (fun h => h1 (of_decide_eq_true h)) fun h => h2 fun z => h (decide_eq_true z)
end L2
set_option Elab.async false
set_option linter.all false
set_option maxRecDepth 100000
set_option maxHeartbeats 8000000
namespace K12
open PySem L2
def top (i : Nat) : Stmt := PySem.Challenge.pw_leftnumbers_k12_fractions_made.main.body.getD i (.Pass ⟨0, 0, 0, 0⟩)
abbrev s_is_whole : Stmt := top 17
abbrev s_common_divisor : Stmt := top 19
abbrev s_fraction : Stmt := top 20
abbrev s_is_fraction : Stmt := top 21
abbrev s_l_cell_at : Stmt := top 23
abbrev s_l_number : Stmt := top 24
abbrev s_l_drawn : Stmt := top 25
abbrev s_l_strange : Stmt := top 26
abbrev s_l_common : Stmt := top 27
abbrev s_l_lowest : Stmt := top 28
abbrev s_l_others : Stmt := top 29
abbrev s_l_refused : Stmt := top 30
abbrev s_l_spoiled : Stmt := top 31
abbrev s_law : Stmt := top 32
theorem sc_is_whole : FnScope ["thing"] ["thing"] (defScope s_is_whole) := ⟨rfl, rfl, rfl, by decide +kernel, rfl, by decide +kernel, by decide +kernel⟩
theorem sc_common_divisor : FnScope ["one", "other", "rest"] ["one", "other"] (defScope s_common_divisor) := ⟨rfl, rfl, rfl, by decide +kernel, rfl, by decide +kernel, by decide +kernel⟩
theorem sc_fraction : FnScope ["top", "bottom", "common"] ["top", "bottom"] (defScope s_fraction) := ⟨rfl, rfl, rfl, by decide +kernel, rfl, by decide +kernel, by decide +kernel⟩
theorem sc_is_fraction : FnScope ["thing"] ["thing"] (defScope s_is_fraction) := ⟨rfl, rfl, rfl, by decide +kernel, rfl, by decide +kernel, by decide +kernel⟩
theorem sc_l_cell_at : FnScope ["_law_script", "_law_k"] ["_law_script", "_law_k"] (defScope s_l_cell_at) := ⟨rfl, rfl, rfl, by decide +kernel, rfl, by decide +kernel, by decide +kernel⟩
theorem sc_l_number : FnScope ["_law_found"] ["_law_found"] (defScope s_l_number) := ⟨rfl, rfl, rfl, by decide +kernel, rfl, by decide +kernel, by decide +kernel⟩
theorem sc_l_drawn : FnScope ["_law_cell"] ["_law_cell"] (defScope s_l_drawn) := ⟨rfl, rfl, rfl, by decide +kernel, rfl, by decide +kernel, by decide +kernel⟩
theorem sc_l_strange : FnScope ["_law_cell", "_law_some"] ["_law_cell"] (defScope s_l_strange) := ⟨rfl, rfl, rfl, by decide +kernel, rfl, by decide +kernel, by decide +kernel⟩
theorem sc_l_common : FnScope ["_law_one", "_law_other"] ["_law_one", "_law_other"] (defScope s_l_common) := ⟨rfl, rfl, rfl, by decide +kernel, rfl, by decide +kernel, by decide +kernel⟩
theorem sc_l_lowest : FnScope ["_law_told"] ["_law_told"] (defScope s_l_lowest) := ⟨rfl, rfl, rfl, by decide +kernel, rfl, by decide +kernel, by decide +kernel⟩
theorem sc_l_others : FnScope ["_law_e", "_law_some"] ["_law_e"] (defScope s_l_others) := ⟨rfl, rfl, rfl, by decide +kernel, rfl, by decide +kernel, by decide +kernel⟩
theorem sc_l_refused : FnScope ["_law_top", "_law_bottom", "_law_found", "_law_e"] ["_law_top", "_law_bottom"] (defScope s_l_refused) := ⟨rfl, rfl, rfl, by decide +kernel, rfl, by decide +kernel, by decide +kernel⟩
theorem sc_l_spoiled : FnScope ["_law_told", "_law_cell", "_law_top", "_law_bottom", "_law_some"] ["_law_told", "_law_cell"] (defScope s_l_spoiled) := ⟨rfl, rfl, rfl, by decide +kernel, rfl, by decide +kernel, by decide +kernel⟩
theorem sc_law : FnScope ["_law_script", "_law_share", "_law_top", "_law_bottom", "_law_cell", "_law_told", "_law_good", "_law_thing", "_law_found"] ["_law_script"] (defScope s_law) := ⟨rfl, rfl, rfl, by decide +kernel, rfl, by decide +kernel, by decide +kernel⟩
set_option genInjectivity false
set_option genSizeOfSpec false
structure Txt (K : PySem.W.Frag) (mg : Str → Option Value) where
  f_is_whole : Addr
  d_is_whole : FuncData
  F_is_whole : Fun K "is_whole" "is_whole" s_is_whole f_is_whole d_is_whole
  b_is_whole : Binds K d_is_whole ["thing"] []
  m_is_whole : mg "is_whole" = some (.ref f_is_whole)
  k_is_whole : PySem.W.keepIn K (.ref f_is_whole) = true
  f_common_divisor : Addr
  d_common_divisor : FuncData
  F_common_divisor : Fun K "common_divisor" "common_divisor" s_common_divisor f_common_divisor d_common_divisor
  b_common_divisor : Binds K d_common_divisor ["one", "other"] []
  m_common_divisor : mg "common_divisor" = some (.ref f_common_divisor)
  k_common_divisor : PySem.W.keepIn K (.ref f_common_divisor) = true
  f_fraction : Addr
  d_fraction : FuncData
  F_fraction : FunD K "fraction" "fraction" s_fraction f_fraction d_fraction
  b_fraction : Binds K d_fraction ["top", "bottom"] []
  m_fraction : mg "fraction" = some (.ref f_fraction)
  k_fraction : PySem.W.keepIn K (.ref f_fraction) = true
  bd_fraction : ∃ us : List Value, Vals [.int 1] us ∧ Binds K d_fraction ["top", "bottom"] us
  f_is_fraction : Addr
  d_is_fraction : FuncData
  F_is_fraction : Fun K "is_fraction" "is_fraction" s_is_fraction f_is_fraction d_is_fraction
  b_is_fraction : Binds K d_is_fraction ["thing"] []
  m_is_fraction : mg "is_fraction" = some (.ref f_is_fraction)
  k_is_fraction : PySem.W.keepIn K (.ref f_is_fraction) = true
  f_l_cell_at : Addr
  d_l_cell_at : FuncData
  F_l_cell_at : Fun K "_law_cell_at" "_law_cell_at" s_l_cell_at f_l_cell_at d_l_cell_at
  b_l_cell_at : Binds K d_l_cell_at ["_law_script", "_law_k"] []
  m_l_cell_at : mg "_law_cell_at" = some (.ref f_l_cell_at)
  k_l_cell_at : PySem.W.keepIn K (.ref f_l_cell_at) = true
  f_l_number : Addr
  d_l_number : FuncData
  F_l_number : Fun K "_law_number" "_law_number" s_l_number f_l_number d_l_number
  b_l_number : Binds K d_l_number ["_law_found"] []
  m_l_number : mg "_law_number" = some (.ref f_l_number)
  k_l_number : PySem.W.keepIn K (.ref f_l_number) = true
  f_l_drawn : Addr
  d_l_drawn : FuncData
  F_l_drawn : Fun K "_law_drawn" "_law_drawn" s_l_drawn f_l_drawn d_l_drawn
  b_l_drawn : Binds K d_l_drawn ["_law_cell"] []
  m_l_drawn : mg "_law_drawn" = some (.ref f_l_drawn)
  k_l_drawn : PySem.W.keepIn K (.ref f_l_drawn) = true
  f_l_strange : Addr
  d_l_strange : FuncData
  F_l_strange : Fun K "_law_strange" "_law_strange" s_l_strange f_l_strange d_l_strange
  b_l_strange : Binds K d_l_strange ["_law_cell"] []
  m_l_strange : mg "_law_strange" = some (.ref f_l_strange)
  k_l_strange : PySem.W.keepIn K (.ref f_l_strange) = true
  f_l_common : Addr
  d_l_common : FuncData
  F_l_common : Fun K "_law_common" "_law_common" s_l_common f_l_common d_l_common
  b_l_common : Binds K d_l_common ["_law_one", "_law_other"] []
  m_l_common : mg "_law_common" = some (.ref f_l_common)
  k_l_common : PySem.W.keepIn K (.ref f_l_common) = true
  f_l_lowest : Addr
  d_l_lowest : FuncData
  F_l_lowest : Fun K "_law_lowest" "_law_lowest" s_l_lowest f_l_lowest d_l_lowest
  b_l_lowest : Binds K d_l_lowest ["_law_told"] []
  m_l_lowest : mg "_law_lowest" = some (.ref f_l_lowest)
  k_l_lowest : PySem.W.keepIn K (.ref f_l_lowest) = true
  f_l_others : Addr
  d_l_others : FuncData
  F_l_others : Fun K "_law_others" "_law_others" s_l_others f_l_others d_l_others
  b_l_others : Binds K d_l_others ["_law_e"] []
  m_l_others : mg "_law_others" = some (.ref f_l_others)
  k_l_others : PySem.W.keepIn K (.ref f_l_others) = true
  f_l_refused : Addr
  d_l_refused : FuncData
  F_l_refused : Fun K "_law_refused" "_law_refused" s_l_refused f_l_refused d_l_refused
  b_l_refused : Binds K d_l_refused ["_law_top", "_law_bottom"] []
  m_l_refused : mg "_law_refused" = some (.ref f_l_refused)
  k_l_refused : PySem.W.keepIn K (.ref f_l_refused) = true
  f_l_spoiled : Addr
  d_l_spoiled : FuncData
  F_l_spoiled : Fun K "_law_spoiled" "_law_spoiled" s_l_spoiled f_l_spoiled d_l_spoiled
  b_l_spoiled : Binds K d_l_spoiled ["_law_told", "_law_cell"] []
  m_l_spoiled : mg "_law_spoiled" = some (.ref f_l_spoiled)
  k_l_spoiled : PySem.W.keepIn K (.ref f_l_spoiled) = true
  a_LeftError : Addr
  m_LeftError : mg "LeftError" = some (.ref a_LeftError)
  a_NoPrime : Addr
  m_NoPrime : mg "NoPrime" = some (.ref a_NoPrime)
  a_NoFraction : Addr
  m_NoFraction : mg "NoFraction" = some (.ref a_NoFraction)
  a_NoPlace : Addr
  m_NoPlace : mg "NoPlace" = some (.ref a_NoPlace)
  a_NoFigures : Addr
  m_NoFigures : mg "NoFigures" = some (.ref a_NoFigures)
  a_NoText : Addr
  m_NoText : mg "NoText" = some (.ref a_NoText)
  a_Unlike : Addr
  m_Unlike : mg "Unlike" = some (.ref a_Unlike)
  a_NoQuotient : Addr
  m_NoQuotient : mg "NoQuotient" = some (.ref a_NoQuotient)
  a_NoPower : Addr
  m_NoPower : mg "NoPower" = some (.ref a_NoPower)
  a_TooFew : Addr
  m_TooFew : mg "TooFew" = some (.ref a_TooFew)
  a_NoSize : Addr
  m_NoSize : mg "NoSize" = some (.ref a_NoSize)
  a_NoPolynomial : Addr
  m_NoPolynomial : mg "NoPolynomial" = some (.ref a_NoPolynomial)
  a_NoDepth : Addr
  m_NoDepth : mg "NoDepth" = some (.ref a_NoDepth)
  a_NoRoot : Addr
  m_NoRoot : mg "NoRoot" = some (.ref a_NoRoot)
  a_NotNear : Addr
  m_NotNear : mg "NotNear" = some (.ref a_NotNear)
  x_NoFraction : PySem.W.excIn K a_NoFraction bmVE "ValueError.__new__" = true
  x_LeftError : PySem.W.excIn K a_LeftError bmVE "ValueError.__new__" = true
  xc_NoFraction : XCls K a_NoFraction
  kt_NoFraction_NoFraction : PySem.W.kitOne K (.ref a_NoFraction) (.ref a_NoFraction) = some true
  kt_NoFraction_ValueError : PySem.W.kitOne K (.ref a_NoFraction) (.type "ValueError") = some true
  kt_NoFraction_NoPrime : PySem.W.kitOne K (.ref a_NoFraction) (.ref a_NoPrime) = some false
  kt_NoFraction_NoPlace : PySem.W.kitOne K (.ref a_NoFraction) (.ref a_NoPlace) = some false
  kt_NoFraction_NoFigures : PySem.W.kitOne K (.ref a_NoFraction) (.ref a_NoFigures) = some false
  kt_NoFraction_NoText : PySem.W.kitOne K (.ref a_NoFraction) (.ref a_NoText) = some false
  kt_NoFraction_Unlike : PySem.W.kitOne K (.ref a_NoFraction) (.ref a_Unlike) = some false
  kt_NoFraction_NoQuotient : PySem.W.kitOne K (.ref a_NoFraction) (.ref a_NoQuotient) = some false
  kt_NoFraction_NoPower : PySem.W.kitOne K (.ref a_NoFraction) (.ref a_NoPower) = some false
  kt_NoFraction_TooFew : PySem.W.kitOne K (.ref a_NoFraction) (.ref a_TooFew) = some false
  kt_NoFraction_NoSize : PySem.W.kitOne K (.ref a_NoFraction) (.ref a_NoSize) = some false
  kt_NoFraction_NoPolynomial : PySem.W.kitOne K (.ref a_NoFraction) (.ref a_NoPolynomial) = some false
  kt_NoFraction_NoDepth : PySem.W.kitOne K (.ref a_NoFraction) (.ref a_NoDepth) = some false
  kt_NoFraction_NoRoot : PySem.W.kitOne K (.ref a_NoFraction) (.ref a_NoRoot) = some false
  kt_NoFraction_NotNear : PySem.W.kitOne K (.ref a_NoFraction) (.ref a_NotNear) = some false
  sb_NoFraction : PySem.W.subIn K (.ref a_NoFraction) (.ref a_LeftError) = some true
  z_ValueError : mg "ValueError" = none
  z_abs : mg "abs" = none
  z_any : mg "any" = none
  z_bool : mg "bool" = none
  z_int : mg "int" = none
  z_isinstance : mg "isinstance" = none
  z_len : mg "len" = none
  z_tuple : mg "tuple" = none
/-! ### the promises -/
def spDrawn : Sp := fun vs H Q _ => ∃ c : Int, vs = [.int c] ∧ ∀ n : Int, LN.Bd 130 n → Q (.int n) H
def spStrange (K : PySem.W.Frag) : Sp := fun vs H Q _ => ∃ c : Int, vs = [.int c] ∧ ∀ (v : V) (H' : Hp), Same H H' → Thing K H' v → isI v = false → Q v H'
def spOthers (C : Addr) : Addr → Sp := fun ea vs H Q _ => vs = [.ref ea] ∧ ExH H ea C ∧ ∀ H', Same H H' → Q (.bl false) H'
def spRefused (K : PySem.W.Frag) : Sp := fun vs H Q _ => ∃ v1 v2 : V, vs = [v1, v2] ∧ Thing K H v1 ∧ Thing K H v2 ∧ (isI v1 = false ∨ isI v2 = false ∨ v2 = .int 0) ∧ ∀ H', Q (.bl true) H'
def spSpoiled (K : PySem.W.Frag) : Sp := fun vs H Q _ => ∃ (a : Addr) (x y c : Int), vs = [.ref a, .int c] ∧ FrB 4000 H a x y ∧ ∀ (v : V) (b : Bool) (H' : Hp), Same H H' → FrT K H' v b → Q v H'
section
variable {P : Program} {w : World} {K : PySem.W.Frag} {mg : Str → Option Value} {base : Heap}
theorem ok_is_whole (T : Txt K mg) : FnOk P w K mg base CX0 1 T.f_is_whole T.d_is_whole ["thing"] (spWhole K) := by
  refine T.F_is_whole.okq sc_is_whole (fun vs H Q E h => ?_) (fun cdv A outer s H vs Q E hr h => ?_)
  · obtain ⟨v, rfl, _⟩ := h
    rfl
  obtain ⟨v, rfl, ⟨t, i, b, u, kd, ty, ei⟩, q⟩ := h
  refine ⟨_, (qpss_one (qps_ret (qpe_and (qpe_callB call_inst rfl T.z_isinstance bt_isinstance (qpa_cons (hs := star_Name) (qpv 0) (qpa_cons (hs := star_Name) (qpe_bltn (v := .ty "int") rfl T.z_int bt_int rfl) qpa_nil))) (qpe_one (qpe_not (qpe_callB call_inst rfl T.z_isinstance bt_isinstance (qpa_cons (hs := star_Name) (qpv 0) (qpa_cons (hs := star_Name) (qpe_bltn (v := .ty "bool") rfl T.z_bool bt_bool rfl) qpa_nil)))))))), ?_⟩
  refine ⟨_, rfl, _, _, _, i, rfl, ty, kd.kit_int, _, rfl, ?_⟩
  rw [← ei] at q
  cases i with
  | false => exact iteF q
  | true => exact iteT ⟨_, rfl, _, _, _, b, rfl, ty, kd.kit_bool, _, rfl, q⟩
theorem ok_l_number (T : Txt K mg) : FnOk P w K mg base CX0 1 T.f_l_number T.d_l_number ["_law_found"] (spWhole K) := by
  refine T.F_l_number.okq sc_l_number (fun vs H Q E h => ?_) (fun cdv A outer s H vs Q E hr h => ?_)
  · obtain ⟨v, rfl, _⟩ := h
    rfl
  obtain ⟨v, rfl, ⟨t, i, b, u, kd, ty, ei⟩, q⟩ := h
  refine ⟨_, (qpss_one (qps_ret (qpe_and (qpe_callB call_inst rfl T.z_isinstance bt_isinstance (qpa_cons (hs := star_Name) (qpv 0) (qpa_cons (hs := star_Name) (qpe_bltn (v := .ty "int") rfl T.z_int bt_int rfl) qpa_nil))) (qpe_one (qpe_not (qpe_callB call_inst rfl T.z_isinstance bt_isinstance (qpa_cons (hs := star_Name) (qpv 0) (qpa_cons (hs := star_Name) (qpe_bltn (v := .ty "bool") rfl T.z_bool bt_bool rfl) qpa_nil)))))))), ?_⟩
  refine ⟨_, rfl, _, _, _, i, rfl, ty, kd.kit_int, _, rfl, ?_⟩
  rw [← ei] at q
  cases i with
  | false => exact iteF q
  | true => exact iteT ⟨_, rfl, _, _, _, b, rfl, ty, kd.kit_bool, _, rfl, q⟩
theorem ok_l_cell_at (T : Txt K mg) : FnOk P w K mg base CX0 1 T.f_l_cell_at T.d_l_cell_at ["_law_script", "_law_k"] (spCell K) := by
  refine T.F_l_cell_at.okq sc_l_cell_at (fun vs H Q E h => ?_) (fun cdv A outer s H vs Q E hr h => ?_)
  · obtain ⟨a, ns, k, rfl, _⟩ := h
    rfl
  obtain ⟨a, ns, k, rfl, hS, q⟩ := h
  refine ⟨_, (qpss_cons (qps_if (qpt_cmpR op_lt (qpv 1) (qpe_callB call_len_seq rfl T.z_len bt_len (qpa_cons (hs := star_Name) (qpv 0) qpa_nil)) (nomark _)) (qpss_one (qps_ret (qpe_ix ix_list (qpv 0) (qpv 1) (fun _ _ => rfl)))) qpss_nil)
    (qpss_one (qps_ret qpe_int))), ?_⟩
  refine ⟨_, rfl, _, rfl, a, _, rfl, .inl hS, _, _, rfl, rfl, _, rfl, ?_⟩
  have hl : (ns.map V.int).length = ns.length := List.length_map _
  refine iteL (fun c => ?_) (fun c => ?_)
  · rw [hl] at c
    exact ⟨_, rfl, _, rfl, a, _, _, _, rfl, rfl, hS, cell_there (by omega), q⟩
  · rw [hl] at c
    rw [cell_none (by omega)] at q
    exact q
theorem ok_common_divisor (T : Txt K mg) : FnOk P w K mg base CX0 1 T.f_common_divisor T.d_common_divisor ["one", "other"] spGcd := by
  refine T.F_common_divisor.okq sc_common_divisor (fun vs H Q E h => ?_) (fun cdv A outer s H vs Q E hr h => ?_)
  · obtain ⟨x, y, rfl, _⟩ := h
    rfl
  obtain ⟨x, y, rfl, hx, hy, q⟩ := h
  refine ⟨_, (qpss_cons (qps_while PassesOwn.never (qpt_cmpR op_ne (qpv 1) qpe_int (nomark _)) (qpss_cons (qps_set (i := 2) sc_common_divisor.nd rfl (Or.inl rfl) (qpe_op op_mod (qpv 0) (qpv 1)))
    (qpss_cons (qps_set (i := 0) sc_common_divisor.nd rfl (Or.inl rfl) (qpv 1))
    (qpss_one (qps_set (i := 1) sc_common_divisor.nd rfl (Or.inl rfl) (qpv 2))))))
    (qpss_one (qps_ret (qpv 0)))), ?_⟩
  generalize eg : Nat.gcd x.natAbs y.natAbs = g at q
  refine ⟨fun m σ H2 => ∃ (x y : Int) (r : Option V), σ = [some (.int x), some (.int y), r] ∧ H2 = H ∧ 0 ≤ x ∧ 0 ≤ y ∧ Nat.gcd x.natAbs y.natAbs = g ∧ m = y.natAbs, ⟨_, x, y, none, rfl, rfl, hx, hy, eg, rfl⟩, ?_⟩
  clear hx hy eg x y
  rintro m σ H2 ⟨x, y, r, rfl, rfl, hx, hy, eg, rfl⟩
  refine ⟨_, rfl, rfl, _, rfl, iteN (fun hn => ?_) (fun h0 => ?_)⟩
  · have hp : 0 < y := by omega
    refine ⟨_, fun σ' H' h => h, ?_⟩
    refine ⟨_, rfl, _, rfl, _, _, rfl, rfl, hp, _, rfl, _, rfl, _, LN.mod_lt (x := x) hp, y, x % y, _, rfl, rfl, hy, Int.emod_nonneg _ hn, (LN.gcd_turnI hx hp).trans eg, rfl⟩
  · refine ⟨_, rfl, ?_⟩
    subst h0
    rw [← eg, LN.gcd_zero hx] at q
    exact q
theorem ok_l_common (T : Txt K mg) : FnOk P w K mg base CX0 1 T.f_l_common T.d_l_common ["_law_one", "_law_other"] spCommon := by
  refine T.F_l_common.okq sc_l_common (fun vs H Q E h => ?_) (fun cdv A outer s H vs Q E hr h => ?_)
  · obtain ⟨x, y, rfl, _⟩ := h
    rfl
  obtain ⟨x, y, rfl, q⟩ := h
  refine ⟨_, (qpss_cons (qps_set (i := 0) sc_l_common.nd rfl (Or.inl rfl) (qpe_callB call_abs rfl T.z_abs bt_abs (qpa_cons (hs := star_Name) (qpv 0) qpa_nil)))
    (qpss_cons (qps_set (i := 1) sc_l_common.nd rfl (Or.inl rfl) (qpe_callB call_abs rfl T.z_abs bt_abs (qpa_cons (hs := star_Name) (qpv 1) qpa_nil)))
    (qpss_cons (qps_while PassesOwn.never (qpt_cmpR op_ne (qpv 1) qpe_int (nomark _)) (qpss_one (qps_par (i := 0) (j := 1) rfl sc_l_common.nd rfl rfl (by decide) rfl rfl (qpa_cons (hs := star_Name) (qpv 1) (qpa_cons (hs := star_BinOp) (qpe_op op_mod (qpv 0) (qpv 1)) qpa_nil)) (by rfl))))
    (qpss_one (qps_ret (qpv 0)))))), ?_⟩
  refine ⟨_, rfl, _, rfl, _, rfl, _, rfl, ?_⟩
  rw [← LN.abs_abs x, ← LN.abs_abs y] at q
  have hx := LN.abs_nn x
  have hy := LN.abs_nn y
  generalize (if x < 0 then -x else x) = x at q hx ⊢
  generalize (if y < 0 then -y else y) = y at q hy ⊢
  generalize eg : Nat.gcd x.natAbs y.natAbs = g at q
  refine ⟨fun m σ H2 => ∃ (x y : Int), σ = [some (.int x), some (.int y)] ∧ H2 = H ∧ 0 ≤ x ∧ 0 ≤ y ∧ Nat.gcd x.natAbs y.natAbs = g ∧ m = y.natAbs, ⟨_, x, y, rfl, rfl, hx, hy, eg, rfl⟩, ?_⟩
  clear hx hy eg x y
  rintro m σ H2 ⟨x, y, rfl, rfl, hx, hy, eg, rfl⟩
  refine ⟨_, rfl, rfl, _, rfl, iteN (fun hn => ?_) (fun h0 => ?_)⟩
  · have hp : 0 < y := by omega
    refine ⟨_, fun σ' H' h => h, ?_⟩
    refine ⟨_, rfl, _, rfl, _, rfl, _, _, rfl, rfl, hp, _, _, rfl, _, LN.mod_lt (x := x) hp, y, x % y, rfl, rfl, hy, Int.emod_nonneg _ hn, (LN.gcd_turnI hx hp).trans eg, rfl⟩
  · refine ⟨_, rfl, ?_⟩
    subst h0
    rw [← eg, LN.gcd_zero hx] at q
    exact q
theorem ok_fraction (T : Txt K mg) : FnOk P w K mg base (CX2 P w) 2 T.f_fraction T.d_fraction ["top", "bottom"] (spFrac K T.a_NoFraction) := by
  have G_is_whole := ok_is_whole (P := P) (w := w) (base := base) T
  have G_common_divisor := ok_common_divisor (P := P) (w := w) (base := base) T
  refine T.F_fraction.ok2 sc_fraction (fun vs H Q E h => ?_) (fun cdv A outer s H vs Q E hr h => ?_)
  · obtain ⟨x, y, rfl, _⟩ := h
    rfl
  obtain ⟨v1, v2, rfl, th1, th2, q, hE⟩ := h
  refine ⟨_, (qpss_cons (qps_if (QW.pt (qpw_or (qpt_not (qpt_val (qpe_call G_is_whole hr rfl T.m_is_whole T.k_is_whole T.b_is_whole .nil pass0 (qpa_cons (hs := star_Name) (qpv 0) qpa_nil)))) (qpw_or (qpt_not (qpt_val (qpe_call G_is_whole hr rfl T.m_is_whole T.k_is_whole T.b_is_whole .nil pass0 (qpa_cons (hs := star_Name) (qpv 1) qpa_nil)))) (qpw_or1 (qpt_cmpR op_eq (qpv 1) qpe_int (nomark _)))))) (qpss_one (qps_raise throws_new2 rfl T.m_NoFraction T.x_NoFraction rfl (qpa_cons (hs := star_Constant) qpe_str qpa_nil))) qpss_nil)
    (qpss_cons (qps_set (i := 2) sc_fraction.nd rfl (Or.inl rfl) (qpe_call G_common_divisor hr rfl T.m_common_divisor T.k_common_divisor T.b_common_divisor .nil pass0 (qpa_cons (hs := star_Call) (qpe_callB call_abs rfl T.z_abs bt_abs (qpa_cons (hs := star_Name) (qpv 0) qpa_nil)) (qpa_cons (hs := star_Call) (qpe_callB call_abs rfl T.z_abs bt_abs (qpa_cons (hs := star_Name) (qpv 1) qpa_nil)) qpa_nil))))
    (qpss_cons (qps_if (qpt_cmpR op_lt (qpv 1) qpe_int (nomark _)) (qpss_one (qps_set (i := 2) sc_fraction.nd rfl (Or.inl rfl) (qpe_un un_neg (qpv 2)))) qpss_nil)
    (qpss_one (qps_ret (qpe_tup (qpa_cons (hs := star_BinOp) (qpe_op op_fdivN2 (qpv 0) (qpv 2)) (qpa_cons (hs := star_BinOp) (qpe_op op_fdivN2 (qpv 1) (qpv 2)) qpa_nil)))))))), ?_⟩
  refine ⟨_, rfl, v1, rfl, th1, _, rfl, ?_⟩
  cases hi1 : isI v1 with
  | false => exact iteT (iteT ⟨small (by show 1 ≤ 1000; decide), hE (.inl hi1)⟩)
  | true =>
    refine iteF ⟨_, rfl, v2, rfl, th2, _, rfl, ?_⟩
    cases hi2 : isI v2 with
    | false => exact iteT (iteT ⟨small (by show 1 ≤ 1000; decide), hE (.inr (.inl hi2))⟩)
    | true =>
      obtain ⟨t, rfl⟩ := isI_int hi1
      obtain ⟨b, rfl⟩ := isI_int hi2
      refine iteF ⟨_, rfl, rfl, _, rfl, iteI (fun e => ⟨small (by show 1 ≤ 1000; decide), hE (.inr (.inr (by rw [e])))⟩) (fun hb => ?_)⟩
      obtain ⟨b1, b2, q⟩ := q t b rfl rfl hb
      refine ⟨_, rfl, t, rfl, _, rfl, b, rfl, _, _, rfl, LN.abs_nn t, LN.abs_nn b, ?_⟩
      rw [LN.abs_abs, LN.abs_abs]
      have c0 := LN.gcd_ne (t := t) hb
      have cb := (LN.gcd_bd (t := t) hb b2).mono (n := 8000) (by decide)
      refine ⟨_, rfl, _, _, rfl, rfl, _, rfl, iteL (fun hn => ?_) (fun hn => ?_)⟩
      · refine ⟨_, rfl, _, rfl, ?_⟩
        refine ⟨_, rfl, _, rfl, _, _, rfl, rfl, ⟨by omega, cb.neg⟩, _, rfl, _, rfl, _, _, rfl, rfl, ⟨by omega, cb.neg⟩, small (by show 2 ≤ 1000; decide), fun p hp => ?_⟩
        exact q p _ _ _ (same_new hp _) upd_same (LN.Low.of rfl hb (by omega) (by omega) (by omega))
      · refine ⟨_, rfl, _, rfl, _, _, rfl, rfl, ⟨c0, cb⟩, _, rfl, _, rfl, _, _, rfl, rfl, ⟨c0, cb⟩, small (by show 2 ≤ 1000; decide), fun p hp => ?_⟩
        exact q p _ _ _ (same_new hp _) upd_same (LN.Low.of rfl hb (by omega) (by omega) (by omega))
theorem ok_is_fraction (T : Txt K mg) : FnOk P w K mg base CX0 2 T.f_is_fraction T.d_is_fraction ["thing"] (spFrT K) := by
  have G_is_whole := ok_is_whole (P := P) (w := w) (base := base) T
  have G_common_divisor := ok_common_divisor (P := P) (w := w) (base := base) T
  refine T.F_is_fraction.okq sc_is_fraction (fun vs H Q E h => ?_) (fun cdv A outer s H vs Q E hr h => ?_)
  · obtain ⟨v, b, rfl, _⟩ := h
    rfl
  obtain ⟨v, b, rfl, fr, q⟩ := h
  refine ⟨_, (qpss_cons (qps_if (QW.pt (qpw_or (qpt_not (qpt_val (qpe_callB call_inst rfl T.z_isinstance bt_isinstance (qpa_cons (hs := star_Name) (qpv 0) (qpa_cons (hs := star_Name) (qpe_bltn (v := .ty "tuple") rfl T.z_tuple bt_tuple rfl) qpa_nil))))) (qpw_or1 (qpt_cmpR op_ne (qpe_callB call_len_seq rfl T.z_len bt_len (qpa_cons (hs := star_Name) (qpv 0) qpa_nil)) qpe_int (nomark _))))) (qpss_one (qps_ret qpe_bl)) qpss_nil)
    (qpss_cons (qps_if (QW.pt (qpw_or (qpt_not (qpt_val (qpe_call G_is_whole hr rfl T.m_is_whole T.k_is_whole T.b_is_whole .nil pass0 (qpa_cons (hs := star_Subscript) (qpe_ix ix_tup (qpv 0) qpe_int (fun _ _ => rfl)) qpa_nil)))) (qpw_or1 (qpt_not (qpt_val (qpe_call G_is_whole hr rfl T.m_is_whole T.k_is_whole T.b_is_whole .nil pass0 (qpa_cons (hs := star_Subscript) (qpe_ix ix_tup (qpv 0) qpe_int (fun _ _ => rfl)) qpa_nil))))))) (qpss_one (qps_ret qpe_bl)) qpss_nil)
    (qpss_one (qps_ret (qpe_and (qpe_cmpR op_ge (qpe_ix ix_tup (qpv 0) qpe_int (fun _ _ => rfl)) qpe_int (nomark _)) (qpe_one (qpe_cmpR op_eq (qpe_call G_common_divisor hr rfl T.m_common_divisor T.k_common_divisor T.b_common_divisor .nil pass0 (qpa_cons (hs := star_Call) (qpe_callB call_abs rfl T.z_abs bt_abs (qpa_cons (hs := star_Subscript) (qpe_ix ix_tup (qpv 0) qpe_int (fun _ _ => rfl)) qpa_nil)) (qpa_cons (hs := star_Subscript) (qpe_ix ix_tup (qpv 0) qpe_int (fun _ _ => rfl)) qpa_nil))) qpe_int (nomark _)))))))), ?_⟩
  cases fr with
  | no k ty => exact ⟨_, rfl, _, _, _, false, rfl, ty, k.kit_tuple, _, rfl, iteT (iteT q)⟩
  | len h n => exact ⟨_, rfl, _, _, _, true, rfl, TyOf.tup h, Kind.tup.kit_tuple, _, rfl, iteF ⟨_, rfl, _, _, rfl, .inr (SqT.of h), rfl, _, rfl, iteN (fun _ => q) (fun z => absurd (Int.ofNat.inj z) n)⟩⟩
  | @part a x y h tx ty n =>
    refine ⟨_, rfl, _, _, _, true, rfl, TyOf.tup h, Kind.tup.kit_tuple, _, rfl, iteF ⟨_, rfl, _, _, rfl, .inr (SqT.of h), rfl, _, rfl, iteNS rfl ?_⟩⟩
    refine ⟨_, rfl, a, _, _, _, rfl, rfl, SqT.of h, at0, x, rfl, tx, _, rfl, ?_⟩
    cases hx : isI x with
    | false => exact iteT (iteT q)
    | true =>
      refine iteF ⟨_, rfl, a, _, _, _, rfl, rfl, SqT.of h, at1, y, rfl, ty, _, rfl, ?_⟩
      rw [hx] at n
      rw [n.resolve_left (fun z => nomatch z)]
      exact iteT q
  | @two a x y h b e =>
    refine ⟨_, rfl, _, _, _, true, rfl, TyOf.tup h, Kind.tup.kit_tuple, _, rfl, iteF ⟨_, rfl, _, _, rfl, .inr (SqT.of h), rfl, _, rfl, iteNS rfl ?_⟩⟩
    refine ⟨_, rfl, a, _, _, _, rfl, rfl, SqT.of h, at0, _, rfl, Thing.int x, _, rfl, iteF ?_⟩
    refine ⟨_, rfl, a, _, _, _, rfl, rfl, SqT.of h, at1, _, rfl, Thing.int y, _, rfl, iteF ?_⟩
    refine ⟨_, rfl, a, _, _, _, rfl, rfl, SqT.of h, at1, _, _, rfl, rfl, _, rfl, iteG (fun z => ?_) (fun z => ?_)⟩
    · refine ⟨_, rfl, a, _, _, _, rfl, rfl, SqT.of h, at0, x, rfl, _, rfl, a, _, _, _, rfl, rfl, SqT.of h, at1, _, _, rfl, LN.abs_nn x, by omega, rfl, ?_⟩
      have e2 : decide (V.int ((Nat.gcd (if x < 0 then -x else x).natAbs y.natAbs : Nat) : Int) = V.int 1) = b := by
        rw [LN.abs_abs, e, decide_eq_true z, Bool.true_and, decide_eq_decide]
        exact ⟨fun q => Int.ofNat.inj (V.int.inj q), fun q => by rw [q]; rfl⟩
      rw [← e2] at q
      exact q
    · rw [decide_eq_false z, Bool.false_and] at e
      rw [e] at q
      exact q
theorem ok_l_lowest (T : Txt K mg) : FnOk P w K mg base CX0 2 T.f_l_lowest T.d_l_lowest ["_law_told"] (spFrT K) := by
  have G_l_number := ok_l_number (P := P) (w := w) (base := base) T
  have G_l_common := ok_l_common (P := P) (w := w) (base := base) T
  refine T.F_l_lowest.okq sc_l_lowest (fun vs H Q E h => ?_) (fun cdv A outer s H vs Q E hr h => ?_)
  · obtain ⟨v, b, rfl, _⟩ := h
    rfl
  obtain ⟨v, b, rfl, fr, q⟩ := h
  refine ⟨_, (qpss_cons (qps_if (QW.pt (qpw_or (qpt_not (qpt_val (qpe_callB call_inst rfl T.z_isinstance bt_isinstance (qpa_cons (hs := star_Name) (qpv 0) (qpa_cons (hs := star_Name) (qpe_bltn (v := .ty "tuple") rfl T.z_tuple bt_tuple rfl) qpa_nil))))) (qpw_or (qpt_cmpR op_ne (qpe_callB call_len_seq rfl T.z_len bt_len (qpa_cons (hs := star_Name) (qpv 0) qpa_nil)) qpe_int (nomark _)) (qpw_or (qpt_not (qpt_val (qpe_call G_l_number hr rfl T.m_l_number T.k_l_number T.b_l_number .nil pass0 (qpa_cons (hs := star_Subscript) (qpe_ix ix_tup (qpv 0) qpe_int (fun _ _ => rfl)) qpa_nil)))) (qpw_or1 (qpt_not (qpt_val (qpe_call G_l_number hr rfl T.m_l_number T.k_l_number T.b_l_number .nil pass0 (qpa_cons (hs := star_Subscript) (qpe_ix ix_tup (qpv 0) qpe_int (fun _ _ => rfl)) qpa_nil))))))))) (qpss_one (qps_ret qpe_bl)) qpss_nil)
    (qpss_one (qps_ret (qpe_and (qpe_cmpR op_gt (qpe_ix ix_tup (qpv 0) qpe_int (fun _ _ => rfl)) qpe_int (nomark _)) (qpe_one (qpe_cmpR op_eq (qpe_call G_l_common hr rfl T.m_l_common T.k_l_common T.b_l_common .nil pass0 (qpa_cons (hs := star_Subscript) (qpe_ix ix_tup (qpv 0) qpe_int (fun _ _ => rfl)) (qpa_cons (hs := star_Subscript) (qpe_ix ix_tup (qpv 0) qpe_int (fun _ _ => rfl)) qpa_nil))) qpe_int (nomark _))))))), ?_⟩
  cases fr with
  | no k ty => exact ⟨_, rfl, _, _, _, false, rfl, ty, k.kit_tuple, _, rfl, iteT (iteT q)⟩
  | len h n => exact ⟨_, rfl, _, _, _, true, rfl, TyOf.tup h, Kind.tup.kit_tuple, _, rfl, iteF ⟨_, rfl, _, _, rfl, .inr (SqT.of h), rfl, _, rfl, iteN (fun _ => iteT q) (fun z => absurd (Int.ofNat.inj z) n)⟩⟩
  | @part a x y h tx ty n =>
    refine ⟨_, rfl, _, _, _, true, rfl, TyOf.tup h, Kind.tup.kit_tuple, _, rfl, iteF ⟨_, rfl, _, _, rfl, .inr (SqT.of h), rfl, _, rfl, iteNS rfl ?_⟩⟩
    refine ⟨_, rfl, a, _, _, _, rfl, rfl, SqT.of h, at0, x, rfl, tx, _, rfl, ?_⟩
    cases hx : isI x with
    | false => exact iteT (iteT q)
    | true =>
      refine iteF ⟨_, rfl, a, _, _, _, rfl, rfl, SqT.of h, at1, y, rfl, ty, _, rfl, ?_⟩
      rw [hx] at n
      rw [n.resolve_left (fun z => nomatch z)]
      exact iteT q
  | @two a x y h b e =>
    refine ⟨_, rfl, _, _, _, true, rfl, TyOf.tup h, Kind.tup.kit_tuple, _, rfl, iteF ⟨_, rfl, _, _, rfl, .inr (SqT.of h), rfl, _, rfl, iteNS rfl ?_⟩⟩
    refine ⟨_, rfl, a, _, _, _, rfl, rfl, SqT.of h, at0, _, rfl, Thing.int x, _, rfl, iteF ?_⟩
    refine ⟨_, rfl, a, _, _, _, rfl, rfl, SqT.of h, at1, _, rfl, Thing.int y, _, rfl, iteF ?_⟩
    refine ⟨_, rfl, a, _, _, _, rfl, rfl, SqT.of h, at1, _, _, rfl, rfl, _, rfl, iteP (fun z => ?_) (fun z => ?_)⟩
    · refine ⟨_, rfl, a, _, _, _, rfl, rfl, SqT.of h, at0, _, rfl, a, _, _, _, rfl, rfl, SqT.of h, at1, x, y, rfl, rfl, ?_⟩
      have e2 : decide (V.int ((Nat.gcd x.natAbs y.natAbs : Nat) : Int) = V.int 1) = b := by
        rw [e, decide_eq_true (show 1 ≤ y by omega), Bool.true_and, decide_eq_decide]
        exact ⟨fun q => Int.ofNat.inj (V.int.inj q), fun q => by rw [q]; rfl⟩
      rw [← e2] at q
      exact q
    · rw [decide_eq_false (show ¬ 1 ≤ y by omega), Bool.false_and] at e
      rw [e] at q
      exact q
theorem e39 : (10 : Int) ^ (39 : Int).toNat = 1000000000000000000000000000000000000000 := by decide +kernel
theorem bd_small {n : Nat} {i : Int} (hn : 64 ≤ n) (h1 : -(2 ^ 63) ≤ i) (h2 : i ≤ 2 ^ 63) : LN.Bd n i :=
  LN.Bd.mono (m := 64) (LN.Bd.of_abs (b := 2 ^ 63) (by omega) (by omega) (by decide)) hn
theorem bd39 {n : Int} (h1 : -1000000000000000000000000000000000000000 ≤ n) (h2 : n ≤ 1000000000000000000000000000000000000000) : LN.Bd 130 n :=
  LN.Bd.of_abs (b := 1000000000000000000000000000000000000000) (by omega) (by omega) (by decide +kernel)
theorem dsm {i j : Int} (h : 0 < j) (h2 : j ≤ 1000) : CDivB i j := ⟨h, bd_small (by decide) (by omega) (by omega)⟩
theorem ok_l_drawn (T : Txt K mg) : FnOk P w K mg base CX0 1 T.f_l_drawn T.d_l_drawn ["_law_cell"] spDrawn := by
  refine T.F_l_drawn.okq sc_l_drawn (fun vs H Q E h => ?_) (fun cdv A outer s H vs Q E hr h => ?_)
  · obtain ⟨c, rfl, _⟩ := h
    rfl
  obtain ⟨c, rfl, q⟩ := h
  refine ⟨_, (qpss_cons (qps_if (qpt_cmpR op_eq (qpe_op op_mod (qpv 0) qpe_int) qpe_int (nomark _)) (qpss_one (qps_ret (qpe_op op_sub (qpe_op op_mod (qpe_op op_fdivB (qpv 0) qpe_int) (qpe_op op_add (qpe_op op_mulB qpe_int (qpe_op op_pow qpe_int qpe_int)) qpe_int)) (qpe_op op_pow qpe_int qpe_int)))) qpss_nil)
    (qpss_one (qps_ret (qpe_op op_sub (qpe_op op_mod (qpe_op op_fdivB (qpv 0) qpe_int) qpe_int) qpe_int)))), ?_⟩
  have m2 : CMulB 2 ((10 : Int) ^ (39 : Int).toNat) := by
    rw [e39]
    exact ⟨bd_small (by decide) (by decide) (by decide), (bd39 (by decide) (by decide)).mono (by decide)⟩
  have pos2 : (0 : Int) < 2 * (10 : Int) ^ (39 : Int).toNat + 1 := by rw [e39]; decide
  refine ⟨_, rfl, _, _, rfl, rfl, (by show (0 : Int) < 3; decide), rfl, _, rfl, iteI (fun _ => ?_) (fun _ => ?_)⟩
  · have k1 := Int.emod_nonneg (c / 3) (show 2 * (10 : Int) ^ (39 : Int).toNat + 1 ≠ 0 by omega)
    have k2 := Int.emod_lt_of_pos (c / 3) pos2
    refine ⟨_, rfl, _, _, rfl, rfl, dsm (by decide) (by decide), _, _, rfl, rfl, ⟨by decide, by decide, by decide⟩, _, _, rfl, rfl, m2, _, _, rfl, rfl, _, _, rfl, rfl, pos2, _, _, rfl, rfl, ⟨by decide, by decide, by decide⟩, _, _, rfl, rfl, q _ ?_⟩
    generalize c / 3 % (2 * (10 : Int) ^ (39 : Int).toNat + 1) = c' at *
    rw [e39] at *
    exact bd39 (by omega) (by omega)
  · refine ⟨_, rfl, _, _, rfl, rfl, dsm (by decide) (by decide), _, _, rfl, rfl, (by show (0 : Int) < 61; decide), _, _, rfl, rfl, q _ (bd39 ?_ ?_)⟩
    · omega
    · omega
theorem ok_l_strange (T : Txt K mg) : FnOk P w K mg base CX0 1 T.f_l_strange T.d_l_strange ["_law_cell"] (spStrange K) := by
  refine T.F_l_strange.okq sc_l_strange (fun vs H Q E h => ?_) (fun cdv A outer s H vs Q E hr h => ?_)
  · obtain ⟨c, rfl, _⟩ := h
    rfl
  obtain ⟨c, rfl, q⟩ := h
  refine ⟨_, (qpss_cons (qps_set (i := 1) sc_l_strange.nd rfl (Or.inl rfl) (qpe_lst (qpa_cons (hs := star_Constant) qpe_non (qpa_cons (hs := star_Constant) qpe_bl (qpa_cons (hs := star_Constant) qpe_bl (qpa_cons (hs := star_Constant) qpe_str (qpa_cons (hs := star_List) (qpe_lst (qpa_cons (hs := star_Constant) qpe_int qpa_nil)) (qpa_cons (hs := star_Tuple) (qpe_tup (qpa_cons (hs := star_Constant) qpe_int (qpa_cons (hs := star_Constant) qpe_int qpa_nil))) (qpa_cons (hs := star_Dict) qpe_dnew2 qpa_nil)))))))))
    (qpss_one (qps_ret (qpe_ix ix_list (qpv 1) (qpe_op op_mod (qpv 0) qpe_int) (fun _ _ => rfl))))), ?_⟩
  refine ⟨small (by show 1 ≤ 1000; decide), fun p1 h1 => ⟨small (by show 2 ≤ 1000; decide), fun p2 h2 => fun p3 h3 => ⟨small (by show 7 ≤ 1000; decide), fun p6 h6 => ?_⟩⟩⟩
  have g1 := same_new h1 (.lst [.int 1])
  have g2 := same_new h2 (.tup [.int 1, .int 1])
  have g3 := same_new h3 (.dK [])
  have g6 := same_new h6 (.lst [.non, .bl true, .bl false, .str "1", .ref p1, .ref p2, .ref p3])
  have gg : Same H _ := g1.trans (g2.trans (g3.trans g6))
  have all : ∀ v ∈ ([.non, .bl true, .bl false, .str "1", .ref p1, .ref p2, .ref p3] : List V), Thing K (upd (upd (upd (upd H p1 (.lst [.int 1])) p2 (.tup [.int 1, .int 1])) p3 (.dK [])) p6 (.lst [.non, .bl true, .bl false, .str "1", .ref p1, .ref p2, .ref p3])) v ∧ isI v = false := by
    intro v hv
    simp only [List.mem_cons, List.not_mem_nil, or_false] at hv
    rcases hv with rfl | rfl | rfl | rfl | rfl | rfl | rfl
    · exact ⟨.non, rfl⟩
    · exact ⟨.bl _, rfl⟩
    · exact ⟨.bl _, rfl⟩
    · exact ⟨.str _, rfl⟩
    · exact ⟨.lst ((g2.trans (g3.trans g6)) _ _ upd_same), rfl⟩
    · exact ⟨.tup ((g3.trans g6) _ _ upd_same), rfl⟩
    · exact ⟨.dct (g6 _ _ upd_same), rfl⟩
  obtain ⟨v, hv, tv, iv⟩ := at_rest (i := c % 7) (Int.emod_nonneg _ (by decide)) (Int.emod_lt_of_pos _ (by decide)) all
  exact ⟨_, rfl, _, rfl, _, _, rfl, rfl, (by show (0 : Int) < 7; decide), p6, _, _, _, rfl, rfl, SqL.of upd_same, hv, q _ _ gg tv iv⟩
theorem ok_l_others (T : Txt K mg) : FnOkE P w K mg base 1 T.f_l_others T.d_l_others ["_law_e"] (spOthers T.a_NoFraction) := by
  refine T.F_l_others.okE sc_l_others (fun ea vs H Q E h => ?_) (fun cdv ea A outer s H vs Q E hr h => ?_)
  · obtain ⟨rfl, _⟩ := h
    rfl
  obtain ⟨rfl, ex, q⟩ := h
  refine ⟨_, (qpss_cons (qps_set (i := 1) sc_l_others.nd rfl (Or.inl rfl) (qpe_lst (qpa_cons (hs := star_Call) (qpe_callB call_instX rfl T.z_isinstance bt_isinstance (qpa_cons (hs := star_Name) (qpv 0) (qpa_cons (hs := star_Name) (qpe_glob (v := .ref T.a_NoPrime) rfl T.m_NoPrime rfl) qpa_nil))) (qpa_cons (hs := star_Call) (qpe_callB call_instX rfl T.z_isinstance bt_isinstance (qpa_cons (hs := star_Name) (qpv 0) (qpa_cons (hs := star_Name) (qpe_glob (v := .ref T.a_NoPlace) rfl T.m_NoPlace rfl) qpa_nil))) (qpa_cons (hs := star_Call) (qpe_callB call_instX rfl T.z_isinstance bt_isinstance (qpa_cons (hs := star_Name) (qpv 0) (qpa_cons (hs := star_Name) (qpe_glob (v := .ref T.a_NoFigures) rfl T.m_NoFigures rfl) qpa_nil))) (qpa_cons (hs := star_Call) (qpe_callB call_instX rfl T.z_isinstance bt_isinstance (qpa_cons (hs := star_Name) (qpv 0) (qpa_cons (hs := star_Name) (qpe_glob (v := .ref T.a_NoText) rfl T.m_NoText rfl) qpa_nil))) qpa_nil))))))
    (qpss_cons (qps_set (i := 1) sc_l_others.nd rfl (Or.inl rfl) (qpe_op op_cat (qpv 1) (qpe_lst (qpa_cons (hs := star_Call) (qpe_callB call_instX rfl T.z_isinstance bt_isinstance (qpa_cons (hs := star_Name) (qpv 0) (qpa_cons (hs := star_Name) (qpe_glob (v := .ref T.a_Unlike) rfl T.m_Unlike rfl) qpa_nil))) (qpa_cons (hs := star_Call) (qpe_callB call_instX rfl T.z_isinstance bt_isinstance (qpa_cons (hs := star_Name) (qpv 0) (qpa_cons (hs := star_Name) (qpe_glob (v := .ref T.a_NoQuotient) rfl T.m_NoQuotient rfl) qpa_nil))) (qpa_cons (hs := star_Call) (qpe_callB call_instX rfl T.z_isinstance bt_isinstance (qpa_cons (hs := star_Name) (qpv 0) (qpa_cons (hs := star_Name) (qpe_glob (v := .ref T.a_NoPower) rfl T.m_NoPower rfl) qpa_nil))) (qpa_cons (hs := star_Call) (qpe_callB call_instX rfl T.z_isinstance bt_isinstance (qpa_cons (hs := star_Name) (qpv 0) (qpa_cons (hs := star_Name) (qpe_glob (v := .ref T.a_TooFew) rfl T.m_TooFew rfl) qpa_nil))) qpa_nil)))))))
    (qpss_cons (qps_set (i := 1) sc_l_others.nd rfl (Or.inl rfl) (qpe_op op_cat (qpv 1) (qpe_lst (qpa_cons (hs := star_Call) (qpe_callB call_instX rfl T.z_isinstance bt_isinstance (qpa_cons (hs := star_Name) (qpv 0) (qpa_cons (hs := star_Name) (qpe_glob (v := .ref T.a_NoSize) rfl T.m_NoSize rfl) qpa_nil))) (qpa_cons (hs := star_Call) (qpe_callB call_instX rfl T.z_isinstance bt_isinstance (qpa_cons (hs := star_Name) (qpv 0) (qpa_cons (hs := star_Name) (qpe_glob (v := .ref T.a_NoPolynomial) rfl T.m_NoPolynomial rfl) qpa_nil))) (qpa_cons (hs := star_Call) (qpe_callB call_instX rfl T.z_isinstance bt_isinstance (qpa_cons (hs := star_Name) (qpv 0) (qpa_cons (hs := star_Name) (qpe_glob (v := .ref T.a_NoDepth) rfl T.m_NoDepth rfl) qpa_nil))) (qpa_cons (hs := star_Call) (qpe_callB call_instX rfl T.z_isinstance bt_isinstance (qpa_cons (hs := star_Name) (qpv 0) (qpa_cons (hs := star_Name) (qpe_glob (v := .ref T.a_NoRoot) rfl T.m_NoRoot rfl) qpa_nil))) qpa_nil)))))))
    (qpss_one (qps_ret (qpe_or (qpe_callB (call_any2 hr.hd) rfl T.z_any bt_any (qpa_cons (hs := star_Name) (qpv 1) qpa_nil)) (qpe_one (qpe_callB call_instX rfl T.z_isinstance bt_isinstance (qpa_cons (hs := star_Name) (qpv 0) (qpa_cons (hs := star_Name) (qpe_glob (v := .ref T.a_NotNear) rfl T.m_NotNear rfl) qpa_nil)))))))))), ?_⟩
  have Z := T.xc_NoFraction
  have s4 : ([.bl false, .bl false, .bl false, .bl false] : List V).length ≤ sizeLine := small (by show 4 ≤ 1000; decide)
  refine ⟨_, rfl, ea, _, _, _, _, rfl, rfl, fun _ z => z, ex, Z, T.kt_NoFraction_NoPrime, _, rfl, ea, _, _, _, _, rfl, rfl, fun _ z => z, ex, Z, T.kt_NoFraction_NoPlace, _, rfl, ea, _, _, _, _, rfl, rfl, fun _ z => z, ex, Z, T.kt_NoFraction_NoFigures, _, rfl, ea, _, _, _, _, rfl, rfl, fun _ z => z, ex, Z, T.kt_NoFraction_NoText, s4, fun l1 h1 => ?_⟩
  have g1 := same_new h1 (.lst [.bl false, .bl false, .bl false, .bl false])
  have ex := g1 _ _ ex
  refine ⟨_, rfl, _, rfl, ea, _, _, _, _, rfl, rfl, fun _ z => z, ex, Z, T.kt_NoFraction_Unlike, _, rfl, ea, _, _, _, _, rfl, rfl, fun _ z => z, ex, Z, T.kt_NoFraction_NoQuotient, _, rfl, ea, _, _, _, _, rfl, rfl, fun _ z => z, ex, Z, T.kt_NoFraction_NoPower, _, rfl, ea, _, _, _, _, rfl, rfl, fun _ z => z, ex, Z, T.kt_NoFraction_TooFew, s4, fun l2 h2 => ?_⟩
  have g2 := same_new h2 (.lst [.bl false, .bl false, .bl false, .bl false])
  have ex := g2 _ _ ex
  refine ⟨l1, l2, _, _, rfl, rfl, g2 _ _ upd_same, upd_same, small (by show 8 ≤ 1000; decide), fun l3 h3 => ?_⟩
  have g3 := same_new h3 (.lst ([.bl false, .bl false, .bl false, .bl false] ++ [.bl false, .bl false, .bl false, .bl false]))
  have ex := g3 _ _ ex
  refine ⟨_, rfl, _, rfl, ea, _, _, _, _, rfl, rfl, fun _ z => z, ex, Z, T.kt_NoFraction_NoSize, _, rfl, ea, _, _, _, _, rfl, rfl, fun _ z => z, ex, Z, T.kt_NoFraction_NoPolynomial, _, rfl, ea, _, _, _, _, rfl, rfl, fun _ z => z, ex, Z, T.kt_NoFraction_NoDepth, _, rfl, ea, _, _, _, _, rfl, rfl, fun _ z => z, ex, Z, T.kt_NoFraction_NoRoot, s4, fun l4 h4 => ?_⟩
  have g4 := same_new h4 (.lst [.bl false, .bl false, .bl false, .bl false])
  have ex := g4 _ _ ex
  refine ⟨l3, l4, _, _, rfl, rfl, g4 _ _ upd_same, upd_same, small (by show 12 ≤ 1000; decide), fun l5 h5 => ?_⟩
  have g5 := same_new h5 (.lst ([.bl false, .bl false, .bl false, .bl false] ++ [.bl false, .bl false, .bl false, .bl false] ++ [.bl false, .bl false, .bl false, .bl false]))
  have ex := g5 _ _ ex
  refine ⟨_, rfl, l5, [false, false, false, false, false, false, false, false, false, false, false, false], _, rfl, upd_same, ex, _, rfl, iteF ?_⟩
  exact ⟨_, rfl, ea, _, _, _, _, rfl, rfl, fun _ z => z, ex, Z, T.kt_NoFraction_NotNear, q _ (g1.trans (g2.trans (g3.trans (g4.trans g5))))⟩
theorem ok_l_refused (T : Txt K mg) : FnOk P w K mg base CX0 3 T.f_l_refused T.d_l_refused ["_law_top", "_law_bottom"] (spRefused K) := by
  have G_fraction := ok_fraction (P := P) (w := w) (base := base) T
  have G_l_others := (ok_l_others (P := P) (w := w) (base := base) T).mono (k := 2) (by decide)
  refine T.F_l_refused.okq sc_l_refused (fun vs H Q E h => ?_) (fun cdv A outer s H vs Q E hr h => ?_)
  · obtain ⟨v1, v2, rfl, _⟩ := h
    rfl
  obtain ⟨v1, v2, rfl, t1, t2, bad, q⟩ := h
  refine ⟨_, (qpss_cons (qps_set (i := 2) sc_l_refused.nd rfl (Or.inl rfl) qpe_bl)
    (qpss_cons (qps_tryAs (i := 3) G_fraction hr rfl T.m_fraction T.k_fraction T.b_fraction .nil (fun _ => (qpa_cons (hs := star_Name) (qpv 0) (qpa_cons (hs := star_Name) (qpv 1) qpa_nil))) rfl rfl (fun _ _ z => z) rfl T.m_LeftError T.x_LeftError T.sb_NoFraction sc_l_refused.nd rfl rfl rfl (fun ea => (qpss_one (qps_set (i := 2) sc_l_refused.nd rfl (Or.inl rfl) (qpe_and (qpe_callB call_instX rfl T.z_isinstance bt_isinstance (qpa_cons (hs := star_Name) (qpv 3) (qpa_cons (hs := star_Name) (qpe_glob (v := .ref T.a_NoFraction) rfl T.m_NoFraction rfl) qpa_nil))) (qpe_and (qpe_callB call_instX rfl T.z_isinstance bt_isinstance (qpa_cons (hs := star_Name) (qpv 3) (qpa_cons (hs := star_Name) (qpe_bltn (v := .ty "ValueError") rfl T.z_ValueError bt_ValueError rfl) qpa_nil))) (qpe_one (qpe_not (qpe_callE G_l_others (ea := ea) hr.marked rfl T.m_l_others T.k_l_others T.b_l_others .nil (qpa_cons (hs := star_Name) (qpv 3) qpa_nil))))))))))
    (qpss_one (qps_ret (qpv 2))))), ?_⟩
  have Z := T.xc_NoFraction
  refine ⟨_, rfl, _, rfl, v1, v2, rfl, t1, t2, fun t b e1 e2 h0 => ?_, fun _ => ⟨rfl, fun ea hea => ?_⟩⟩
  · subst e1 e2
    rcases bad with z | z | z
    · cases z
    · cases z
    · exact absurd (V.int.inj z) h0
  · have ex : ExH (upd H ea (.ext (ExcX ea T.a_NoFraction))) ea T.a_NoFraction := upd_same
    refine ⟨_, rfl, ea, _, _, _, _, rfl, rfl, fun _ z => z, ex, Z, T.kt_NoFraction_NoFraction, _, rfl, iteT ⟨_, rfl, ea, _, _, _, _, rfl, rfl, fun _ z => z, ex, Z, T.kt_NoFraction_ValueError, _, rfl, iteT ?_⟩⟩
    refine ⟨_, rfl, rfl, ex, fun H2 g2 => ⟨_, rfl, ?_⟩⟩
    exact ⟨_, rfl, q _⟩
theorem ok_l_spoiled (T : Txt K mg) : FnOk P w K mg base CX0 1 T.f_l_spoiled T.d_l_spoiled ["_law_told", "_law_cell"] (spSpoiled K) := by
  refine T.F_l_spoiled.okq sc_l_spoiled (fun vs H Q E h => ?_) (fun cdv A outer s H vs Q E hr h => ?_)
  · obtain ⟨a, x, y, c, rfl, _⟩ := h
    rfl
  obtain ⟨a, x, y, c, rfl, ha, q⟩ := h
  refine ⟨_, (qpss_cons (qps_asg (qpv 0) (qpg_tup rfl (qpgs_cons (qpg_name (i := 2) sc_l_spoiled.nd rfl (Or.inl rfl)) (qpgs_cons (qpg_name (i := 3) sc_l_spoiled.nd rfl (Or.inl rfl)) qpgs_nil))))
    (qpss_cons (qps_set (i := 4) sc_l_spoiled.nd rfl (Or.inl rfl) (qpe_lst (qpa_cons (hs := star_List) (qpe_lst (qpa_cons (hs := star_Name) (qpv 2) (qpa_cons (hs := star_Name) (qpv 3) qpa_nil))) (qpa_cons (hs := star_Tuple) (qpe_tup (qpa_cons (hs := star_Name) (qpv 2) (qpa_cons (hs := star_Name) (qpv 3) (qpa_cons (hs := star_Constant) qpe_int qpa_nil)))) (qpa_cons (hs := star_Tuple) (qpe_tup (qpa_cons (hs := star_Name) (qpv 2) qpa_nil)) (qpa_cons (hs := star_Tuple) (qpe_tup (qpa_cons (hs := star_Name) (qpv 2) (qpa_cons (hs := star_UnaryOp) (qpe_un un_neg (qpv 3)) qpa_nil))) (qpa_cons (hs := star_Tuple) (qpe_tup (qpa_cons (hs := star_Name) (qpv 2) (qpa_cons (hs := star_Constant) qpe_int qpa_nil))) (qpa_cons (hs := star_Tuple) (qpe_tup (qpa_cons (hs := star_BinOp) (qpe_op op_mulB qpe_int (qpv 2)) (qpa_cons (hs := star_BinOp) (qpe_op op_mulB qpe_int (qpv 3)) qpa_nil))) qpa_nil))))))))
    (qpss_cons (qps_set (i := 4) sc_l_spoiled.nd rfl (Or.inl rfl) (qpe_op op_cat (qpv 4) (qpe_lst (qpa_cons (hs := star_Tuple) (qpe_tup (qpa_cons (hs := star_BinOp) (qpe_op op_mulB qpe_int (qpv 2)) (qpa_cons (hs := star_BinOp) (qpe_op op_mulB qpe_int (qpv 3)) qpa_nil))) (qpa_cons (hs := star_Tuple) (qpe_tup (qpa_cons (hs := star_Name) (qpv 2) (qpa_cons (hs := star_Constant) qpe_non qpa_nil))) (qpa_cons (hs := star_Tuple) (qpe_tup (qpa_cons (hs := star_Constant) qpe_bl (qpa_cons (hs := star_Name) (qpv 3) qpa_nil))) (qpa_cons (hs := star_Tuple) (qpe_tup (qpa_cons (hs := star_Name) (qpv 2) (qpa_cons (hs := star_Constant) qpe_bl qpa_nil))) (qpa_cons (hs := star_Name) (qpv 2) (qpa_cons (hs := star_Constant) qpe_non (qpa_cons (hs := star_Constant) qpe_str qpa_nil))))))))))
    (qpss_one (qps_ret (qpe_ix ix_list (qpv 4) (qpe_op op_mod (qpv 1) qpe_int) (fun _ _ => rfl))))))), ?_⟩
  obtain ⟨_, py, bx, by'⟩ := id ha
  have m2x : CMulB 2 x := ⟨bd_small (by decide) (by decide) (by decide), bx.mono (by decide)⟩
  have m2y : CMulB 2 y := ⟨bd_small (by decide) (by decide) (by decide), by'.mono (by decide)⟩
  have m3x : CMulB 3 x := ⟨bd_small (by decide) (by decide) (by decide), bx.mono (by decide)⟩
  have m3y : CMulB 3 y := ⟨bd_small (by decide) (by decide) (by decide), by'.mono (by decide)⟩
  have s1 : ∀ {x : V}, ([x] : List V).length ≤ sizeLine := small (by show 1 ≤ 1000; decide)
  have s2 : ∀ {x y : V}, ([x, y] : List V).length ≤ sizeLine := small (by show 2 ≤ 1000; decide)
  have s3 : ∀ {x y z : V}, ([x, y, z] : List V).length ≤ sizeLine := small (by show 3 ≤ 1000; decide)
  refine ⟨_, rfl, a, _, rfl, ha.tup, rfl, _, _, rfl, _, _, rfl, rfl, ?_⟩
  refine ⟨_, rfl, _, rfl, s2, fun p1 h1 => ⟨_, rfl, _, rfl, s3, fun p2 h2 => ⟨_, rfl, s1, fun p3 h3 => ⟨_, rfl, _, rfl, _, rfl, s2, fun p4 h4 => ⟨_, rfl, s2, fun p5 h5 => ⟨_, rfl, _, _, rfl, rfl, m2x, _, rfl, _, _, rfl, rfl, m2y, s2, fun p6 h6 => ⟨small (by show 6 ≤ 1000; decide), fun l1 hl1 => ?_⟩⟩⟩⟩⟩⟩⟩
  refine ⟨_, rfl, _, rfl, _, _, rfl, rfl, m3x, _, rfl, _, _, rfl, rfl, m3y, s2, fun p7 h7 => ⟨_, rfl, s2, fun p8 h8 => ⟨_, rfl, s2, fun p9 h9 => ⟨_, rfl, s2, fun p10 h10 => ⟨_, rfl, small (by show 7 ≤ 1000; decide), fun l2 hl2 => ?_⟩⟩⟩⟩⟩
  have g1 := same_new h1 (.lst [.int x, .int y])
  have g2 := same_new h2 (.tup [.int x, .int y, .int 1])
  have g3 := same_new h3 (.tup [.int x])
  have g4 := same_new h4 (.tup [.int x, .int (-y)])
  have g5 := same_new h5 (.tup [.int x, .int 0])
  have g6 := same_new h6 (.tup [.int (2 * x), .int (2 * y)])
  have gl1 := same_new hl1 (.lst [.ref p1, .ref p2, .ref p3, .ref p4, .ref p5, .ref p6])
  have g7 := same_new h7 (.tup [.int (3 * x), .int (3 * y)])
  have g8 := same_new h8 (.tup [.int x, .non])
  have g9 := same_new h9 (.tup [.bl true, .int y])
  have g10 := same_new h10 (.tup [.int x, .bl true])
  have gl2 := same_new hl2 (.lst [.ref p7, .ref p8, .ref p9, .ref p10, .int x, .non, .str "1/2"])
  refine ⟨l1, l2, _, _, rfl, rfl, (g7.trans (g8.trans (g9.trans (g10.trans gl2)))) _ _ upd_same, upd_same, small (by show 13 ≤ 1000; decide), fun l3 hl3 => ?_⟩
  have gl3 := same_new hl3 (.lst ([.ref p1, .ref p2, .ref p3, .ref p4, .ref p5, .ref p6] ++ [.ref p7, .ref p8, .ref p9, .ref p10, .int x, .non, .str "1/2"]))
  have c10 := gl2.trans gl3
  have c9 := g10.trans c10
  have c8 := g9.trans c9
  have c7 := g8.trans c8
  have c6 := gl1.trans (g7.trans c7)
  have c5 := g6.trans c6
  have c4 := g5.trans c5
  have c3 := g4.trans c4
  have c2 := g3.trans c3
  have c1 := g2.trans c2
  have c0 := g1.trans c1
  generalize hH : upd _ l3 _ = Hf at c0 c1 c2 c3 c4 c5 c6 c7 c8 c9 c10 gl3 ⊢
  have all : ∀ v ∈ ([.ref p1, .ref p2, .ref p3, .ref p4, .ref p5, .ref p6, .ref p7, .ref p8, .ref p9, .ref p10, .int x, .non, .str "1/2"] : List V), ∃ b, FrT K Hf v b := by
    intro v hv
    simp only [List.mem_cons, List.not_mem_nil, or_false] at hv
    rcases hv with rfl | rfl | rfl | rfl | rfl | rfl | rfl | rfl | rfl | rfl | rfl | rfl | rfl
    · exact ⟨_, .no .lst (.lst (c1 _ _ upd_same))⟩
    · exact ⟨_, .len (c2 _ _ upd_same) (fun z => nomatch z)⟩
    · exact ⟨_, .len (c3 _ _ upd_same) (fun z => nomatch z)⟩
    · exact ⟨_, .two (c4 _ _ upd_same) rfl⟩
    · exact ⟨_, .two (c5 _ _ upd_same) rfl⟩
    · exact ⟨_, .two (c6 _ _ upd_same) rfl⟩
    · exact ⟨_, .two (c7 _ _ upd_same) rfl⟩
    · exact ⟨_, .part (c8 _ _ upd_same) (.int _) .non (.inr rfl)⟩
    · exact ⟨_, .part (c9 _ _ upd_same) (.bl _) (.int _) (.inl rfl)⟩
    · exact ⟨_, .part (c10 _ _ upd_same) (.int _) (.bl _) (.inr rfl)⟩
    · exact ⟨_, .no .int (.int _)⟩
    · exact ⟨_, .no .non .non⟩
    · exact ⟨_, .no .str (.str _)⟩
  obtain ⟨v, hv, b, fv⟩ := at_rest (i := c % 13) (Int.emod_nonneg _ (by decide)) (Int.emod_lt_of_pos _ (by decide)) all
  have hl : Hf l3 = some (.lst ([.ref p1, .ref p2, .ref p3, .ref p4, .ref p5, .ref p6] ++ [.ref p7, .ref p8, .ref p9, .ref p10, .int x, .non, .str "1/2"])) := by rw [← hH]; exact upd_same
  exact ⟨_, rfl, _, rfl, _, _, rfl, rfl, (by show (0 : Int) < 13; decide), l3, _, _, _, rfl, rfl, SqL.of hl, hv, q _ _ _ c0 fv⟩
/-! ### the law -/
theorem e20 : (10 : Int) ^ (20 : Int).toNat = 100000000000000000000 := by decide +kernel
theorem ok_law {f : Addr} {fd : FuncData} (T : Txt K mg) (F : Fun K "law" "law" s_law f fd) : FnOk P w K mg base CX0 4 f fd ["_law_script"] (spLaw K) := by
  have G_fraction := (ok_fraction (P := P) (w := w) (base := base) T).mono (k := 3) (by decide)
  have G_is_fraction := (ok_is_fraction (P := P) (w := w) (base := base) T).mono (k := 3) (by decide)
  have G_l_cell_at := (ok_l_cell_at (P := P) (w := w) (base := base) T).mono (k := 3) (by decide)
  have G_l_drawn := (ok_l_drawn (P := P) (w := w) (base := base) T).mono (k := 3) (by decide)
  have G_l_strange := (ok_l_strange (P := P) (w := w) (base := base) T).mono (k := 3) (by decide)
  have G_l_lowest := (ok_l_lowest (P := P) (w := w) (base := base) T).mono (k := 3) (by decide)
  have G_l_refused := ok_l_refused (P := P) (w := w) (base := base) T
  have G_l_spoiled := (ok_l_spoiled (P := P) (w := w) (base := base) T).mono (k := 3) (by decide)
  obtain ⟨dus, hvd_fraction, hbd_fraction⟩ := T.bd_fraction
  refine F.okq sc_law (fun vs H Q E h => ?_) (fun cdv A outer s H vs Q E hr h => ?_)
  · obtain ⟨a, ns, rfl, _⟩ := h
    rfl
  obtain ⟨S, ns, rfl, hS, h63, q⟩ := h
  refine ⟨_, (qpss_cons (qps_set (i := 1) sc_law.nd rfl (Or.inl rfl) (qpe_ix ix_list (qpe_lst (qpa_cons (hs := star_Constant) qpe_int (qpa_cons (hs := star_BinOp) (qpe_op op_add qpe_int (qpe_op op_mod (qpe_op op_fdivB (qpe_call G_l_cell_at hr rfl T.m_l_cell_at T.k_l_cell_at T.b_l_cell_at .nil pass0 (qpa_cons (hs := star_Name) (qpv 0) (qpa_cons (hs := star_Constant) qpe_int qpa_nil))) qpe_int) (qpe_op op_pow qpe_int qpe_int))) qpa_nil))) (qpe_op op_mod (qpe_call G_l_cell_at hr rfl T.m_l_cell_at T.k_l_cell_at T.b_l_cell_at .nil pass0 (qpa_cons (hs := star_Name) (qpv 0) (qpa_cons (hs := star_Constant) qpe_int qpa_nil))) qpe_int) (fun _ _ => rfl)))
    (qpss_cons (qps_set (i := 2) sc_law.nd rfl (Or.inl rfl) (qpe_op op_mulB (qpe_call G_l_drawn hr rfl T.m_l_drawn T.k_l_drawn T.b_l_drawn .nil pass0 (qpa_cons (hs := star_Call) (qpe_call G_l_cell_at hr rfl T.m_l_cell_at T.k_l_cell_at T.b_l_cell_at .nil pass0 (qpa_cons (hs := star_Name) (qpv 0) (qpa_cons (hs := star_Constant) qpe_int qpa_nil))) qpa_nil)) (qpv 1)))
    (qpss_cons (qps_set (i := 3) sc_law.nd rfl (Or.inl rfl) (qpe_op op_mulB (qpe_call G_l_drawn hr rfl T.m_l_drawn T.k_l_drawn T.b_l_drawn .nil pass0 (qpa_cons (hs := star_Call) (qpe_call G_l_cell_at hr rfl T.m_l_cell_at T.k_l_cell_at T.b_l_cell_at .nil pass0 (qpa_cons (hs := star_Name) (qpv 0) (qpa_cons (hs := star_Constant) qpe_int qpa_nil))) qpa_nil)) (qpv 1)))
    (qpss_cons (qps_set (i := 4) sc_law.nd rfl (Or.inl rfl) (qpe_call G_l_cell_at hr rfl T.m_l_cell_at T.k_l_cell_at T.b_l_cell_at .nil pass0 (qpa_cons (hs := star_Name) (qpv 0) (qpa_cons (hs := star_Constant) qpe_int qpa_nil))))
    (qpss_cons (qps_if (qpt_cmpR op_eq (qpe_op op_mod (qpv 4) qpe_int) qpe_int (nomark _)) (qpss_one (qps_ret (qpe_call G_l_refused hr rfl T.m_l_refused T.k_l_refused T.b_l_refused .nil pass0 (qpa_cons (hs := star_Call) (qpe_call G_l_strange hr rfl T.m_l_strange T.k_l_strange T.b_l_strange .nil pass0 (qpa_cons (hs := star_BinOp) (qpe_op op_fdivB (qpv 4) qpe_int) qpa_nil)) (qpa_cons (hs := star_Name) (qpv 3) qpa_nil))))) qpss_nil)
    (qpss_cons (qps_if (qpt_cmpR op_eq (qpe_op op_mod (qpv 4) qpe_int) qpe_int (nomark _)) (qpss_one (qps_ret (qpe_call G_l_refused hr rfl T.m_l_refused T.k_l_refused T.b_l_refused .nil pass0 (qpa_cons (hs := star_Name) (qpv 2) (qpa_cons (hs := star_Call) (qpe_call G_l_strange hr rfl T.m_l_strange T.k_l_strange T.b_l_strange .nil pass0 (qpa_cons (hs := star_BinOp) (qpe_op op_fdivB (qpv 4) qpe_int) qpa_nil)) qpa_nil))))) qpss_nil)
    (qpss_cons (qps_if (qpt_cmpR op_eq (qpv 3) qpe_int (nomark _)) (qpss_one (qps_ret (qpe_call G_l_refused hr rfl T.m_l_refused T.k_l_refused T.b_l_refused .nil pass0 (qpa_cons (hs := star_Name) (qpv 2) (qpa_cons (hs := star_Name) (qpv 3) qpa_nil))))) qpss_nil)
    (qpss_cons (qps_set (i := 5) sc_law.nd rfl (Or.inl rfl) (qpe_call G_fraction hr rfl T.m_fraction T.k_fraction T.b_fraction .nil pass2 (qpa_cons (hs := star_Name) (qpv 2) (qpa_cons (hs := star_Name) (qpv 3) qpa_nil))))
    (qpss_cons (qps_if (QW.pt (qpw_or (qpt_not (qpt_val (qpe_call G_l_lowest hr rfl T.m_l_lowest T.k_l_lowest T.b_l_lowest .nil pass0 (qpa_cons (hs := star_Name) (qpv 5) qpa_nil)))) (qpw_or1 (qpt_cmpR op_ne (qpe_op op_mulB (qpe_ix ix_tup (qpv 5) qpe_int (fun _ _ => rfl)) (qpv 3)) (qpe_op op_mulB (qpv 2) (qpe_ix ix_tup (qpv 5) qpe_int (fun _ _ => rfl))) (nomark _))))) (qpss_one (qps_ret qpe_bl)) qpss_nil)
    (qpss_cons (qps_if (QW.pt (qpw_or (qpt_cmpR (op_neI hr.units0) (qpe_call G_fraction hr rfl T.m_fraction T.k_fraction hbd_fraction hvd_fraction pass2 (qpa_cons (hs := star_Name) (qpv 2) qpa_nil)) (qpe_tup (qpa_cons (hs := star_Name) (qpv 2) (qpa_cons (hs := star_Constant) qpe_int qpa_nil))) (nomark _)) (qpw_or1 (qpt_not (qpt_val (qpe_call G_l_lowest hr rfl T.m_l_lowest T.k_l_lowest T.b_l_lowest .nil pass0 (qpa_cons (hs := star_Call) (qpe_call G_fraction hr rfl T.m_fraction T.k_fraction hbd_fraction hvd_fraction pass2 (qpa_cons (hs := star_Name) (qpv 2) qpa_nil)) qpa_nil))))))) (qpss_one (qps_ret qpe_bl)) qpss_nil)
    (qpss_cons (qps_set (i := 6) sc_law.nd rfl (Or.inl rfl) (qpe_call G_is_fraction hr rfl T.m_is_fraction T.k_is_fraction T.b_is_fraction .nil pass0 (qpa_cons (hs := star_Name) (qpv 5) qpa_nil)))
    (qpss_cons (qps_set (i := 7) sc_law.nd rfl (Or.inl rfl) (qpe_call G_l_spoiled hr rfl T.m_l_spoiled T.k_l_spoiled T.b_l_spoiled .nil pass0 (qpa_cons (hs := star_Name) (qpv 5) (qpa_cons (hs := star_BinOp) (qpe_op op_fdivB (qpv 4) qpe_int) qpa_nil))))
    (qpss_cons (qps_set (i := 8) sc_law.nd rfl (Or.inl rfl) (qpe_call G_is_fraction hr rfl T.m_is_fraction T.k_is_fraction T.b_is_fraction .nil pass0 (qpa_cons (hs := star_Name) (qpv 7) qpa_nil)))
    (qpss_cons (qps_if (QW.pt (qpw_or (qpt_not (qpt_val (qpe_callB call_inst rfl T.z_isinstance bt_isinstance (qpa_cons (hs := star_Name) (qpv 6) (qpa_cons (hs := star_Name) (qpe_bltn (v := .ty "bool") rfl T.z_bool bt_bool rfl) qpa_nil))))) (qpw_or (qpt_not (qpt_val (qpv 6))) (qpw_or1 (qpt_not (qpt_val (qpe_callB call_inst rfl T.z_isinstance bt_isinstance (qpa_cons (hs := star_Name) (qpv 8) (qpa_cons (hs := star_Name) (qpe_bltn (v := .ty "bool") rfl T.z_bool bt_bool rfl) qpa_nil))))))))) (qpss_one (qps_ret qpe_bl)) qpss_nil)
    (qpss_one (qps_ret (qpe_cmpR op_eq (qpv 8) (qpe_call G_l_lowest hr rfl T.m_l_lowest T.k_l_lowest T.b_l_lowest .nil pass0 (qpa_cons (hs := star_Name) (qpv 7) qpa_nil)) (nomark _)))))))))))))))))), ?_⟩
  have kb : PySem.W.kitOne K (.type "bool") (.type "bool") = some true := Kind.bl.kit_bool
  -- the share
  have pos2 : (0 : Int) < (10 : Int) ^ (20 : Int).toNat := by rw [e20]; decide
  have k1 := Int.emod_nonneg (ns.getD 2 0 / 2) (show (10 : Int) ^ (20 : Int).toNat ≠ 0 by omega)
  have k2 := Int.emod_lt_of_pos (ns.getD 2 0 / 2) pos2
  refine ⟨_, rfl, S, ns, 2, rfl, hS, _, _, rfl, rfl, dsm (by decide) (by decide), _, _, rfl, rfl, ⟨by decide, by decide, by decide⟩, _, _, rfl, rfl, pos2, _, _, rfl, rfl, small (by show 2 ≤ 1000; decide), fun l hl => ?_⟩
  have g0 := same_new hl (.lst [.int 1, .int (1 + ns.getD 2 0 / 2 % (10 : Int) ^ (20 : Int).toNat)])
  have hS := g0.seq hS
  obtain ⟨sv, hsv, sh, rfl, bsh⟩ := at_rest (xs := [.int 1, .int (1 + ns.getD 2 0 / 2 % (10 : Int) ^ (20 : Int).toNat)]) (i := ns.getD 2 0 % 2) (P := fun v => ∃ n : Int, v = .int n ∧ LN.Bd 70 n) (Int.emod_nonneg _ (by decide)) (Int.emod_lt_of_pos _ (by decide)) (by
    intro v hv
    simp only [List.mem_cons, List.not_mem_nil, or_false] at hv
    rcases hv with h | h
    · exact ⟨_, h, LN.Bd.of_abs (b := 1) (by omega) (by omega) (by decide)⟩
    · refine ⟨_, h, LN.Bd.of_abs (b := 100000000000000000001) ?_ ?_ (by decide +kernel)⟩
      · omega
      · rw [e20] at k2 ⊢; omega)
  refine ⟨_, rfl, S, ns, 2, rfl, hS, _, _, rfl, rfl, (by show (0 : Int) < 2; decide), l, _, _, _, rfl, rfl, SqL.of upd_same, hsv, ?_⟩
  -- top, bottom
  refine ⟨_, rfl, S, ns, 0, rfl, hS, _, rfl, fun dt bdt => ⟨_, rfl, _, _, rfl, rfl, ⟨bdt.mono (by decide), bsh.mono (by decide)⟩, ?_⟩⟩
  have bt : LN.Bd 200 (dt * sh) := bdt.mul bsh
  dsimp only
  generalize dt * sh = t at bt ⊢
  refine ⟨_, rfl, S, ns, 1, rfl, hS, _, rfl, fun db bdb => ⟨_, rfl, _, _, rfl, rfl, ⟨bdb.mono (by decide), bsh.mono (by decide)⟩, ?_⟩⟩
  have bb : LN.Bd 200 (db * sh) := bdb.mul bsh
  dsimp only
  generalize db * sh = b at bb ⊢
  refine ⟨_, rfl, S, ns, 3, rfl, hS, ?_⟩
  generalize ns.getD 3 0 = cell
  -- one of them strange
  refine ⟨_, rfl, _, _, rfl, rfl, (by show (0 : Int) < 8; decide), rfl, _, rfl, iteI (fun _ => ?_) (fun _ => ?_)⟩
  · refine ⟨_, rfl, _, _, rfl, rfl, dsm (by decide) (by decide), _, rfl, fun v H1 g1 tv iv => ⟨_, rfl, v, _, rfl, tv, Thing.int _, .inl iv, fun H2 => q _⟩⟩
  refine ⟨_, rfl, _, _, rfl, rfl, (by show (0 : Int) < 8; decide), rfl, _, rfl, iteI (fun _ => ?_) (fun _ => ?_)⟩
  · refine ⟨_, rfl, _, rfl, _, _, rfl, rfl, dsm (by decide) (by decide), _, rfl, fun v H1 g1 tv iv => ⟨_, v, rfl, Thing.int _, tv, .inr (.inl iv), fun H2 => q _⟩⟩
  refine ⟨_, rfl, rfl, _, rfl, iteI (fun hb0 => ?_) (fun hb0 => ?_)⟩
  · exact ⟨_, rfl, _, rfl, _, _, rfl, Thing.int _, Thing.int _, .inr (.inr (by rw [hb0])), fun H2 => q _⟩
  -- the fraction
  refine ⟨_, rfl, _, rfl, _, _, rfl, Thing.int _, Thing.int _, frac_q ⟨bt.mono (by decide), bb.mono (by decide), fun a x y H1 g1 fa low => ?_⟩, frac_no hb0⟩
  have ha : FrB 200 H1 a x y := FrB.of fa low hb0 bt bb
  obtain ⟨_, py, bx, by'⟩ := id ha
  refine ⟨_, rfl, _, true, rfl, FrT.low fa low.pos low.cop, _, rfl, iteF ?_⟩
  refine ⟨_, rfl, a, _, _, _, rfl, rfl, ha.tup, at0, _, rfl, _, _, rfl, rfl, ⟨bx.mono (by decide), bb.mono (by decide)⟩, _, rfl, _, rfl, a, _, _, _, rfl, rfl, ha.tup, at1, _, _, rfl, rfl, ⟨bt.mono (by decide), by'.mono (by decide)⟩, rfl, _, rfl, iteN (fun z => absurd low.eq z) (fun _ => ?_)⟩
  -- of the top alone
  have one : ∀ {x y : Int}, LN.Low t 1 x y → x = t ∧ y = 1 := fun l => l.one (by decide) ⟨by decide, by rw [Int.natAbs_one, Nat.gcd_one_right], rfl, Int.dvd_refl _, Int.dvd_refl _⟩
  have b1 : LN.Bd 4000 1 := bd_small (by decide) (by decide) (by decide)
  refine ⟨_, rfl, _, _, rfl, Thing.int _, Thing.int _, frac_q ⟨bt.mono (by decide), b1, fun a2 x2 y2 H2 g2 fa2 low2 => ?_⟩, frac_no (by decide)⟩
  obtain ⟨rfl, rfl⟩ := one low2
  refine ⟨_, rfl, small (by show 2 ≤ 1000; decide), fun p3 h3 => ?_⟩
  have g3 := same_new h3 (.tup [.int x2, .int 1])
  refine ⟨a2, p3, [x2, 1], [x2, 1], rfl, rfl, SqT.of (g3 _ _ fa2), SqT.of upd_same, _, rfl, iteNS rfl ?_⟩
  refine ⟨_, rfl, _, _, rfl, Thing.int _, Thing.int _, frac_q ⟨bt.mono (by decide), b1, fun a4 x4 y4 H4 g4 fa4 low4 => ?_⟩, frac_no (by decide)⟩
  refine ⟨_, true, rfl, FrT.low fa4 low4.pos low4.cop, _, rfl, iteF ?_⟩
  -- what is a fraction
  have ha := ha.same (g2.trans (g3.trans g4))
  refine ⟨_, rfl, _, true, rfl, FrT.low ha.1 low.pos low.cop, ?_⟩
  refine ⟨_, rfl, _, rfl, _, _, rfl, rfl, dsm (by decide) (by decide), a, x, y, _, rfl, ha.mono (by decide), fun v b5 H5 g5 fv => ?_⟩
  refine ⟨_, rfl, v, b5, rfl, fv, ?_⟩
  refine ⟨_, rfl, _, _, _, true, rfl, .bl _, kb, _, rfl, iteF ⟨_, rfl, _, rfl, iteF ⟨_, rfl, _, _, _, true, rfl, .bl _, kb, _, rfl, iteF ?_⟩⟩⟩
  refine ⟨_, rfl, _, rfl, v, b5, rfl, fv, rfl, ?_⟩
  rw [decide_eq_true rfl]
  exact q _
end
theorem all_mk {l : PySem.W.OpenLaw} {w : World} {K : PySem.W.Frag} {h : Heap} {mg : Str → Option Value} {fa f0 f1 f2 f3 f4 f5 f6 f7 f8 f9 f10 f11 f12 f13 a_LeftError a_NoPrime a_NoFraction a_NoPlace a_NoFigures a_NoText a_Unlike a_NoQuotient a_NoPower a_TooFew a_NoSize a_NoPolynomial a_NoDepth a_NoRoot a_NotNear : Addr} (X : K.In h) (G : h.Ns mainGlobals mg) (hfa : mg "law" = some (.ref fa))
    {od0 an0 : Option Addr} {sl0 : Array (Option Value)} {oc0 kV0 dc0 pm0 cd0 ct0 : Value}
    {od1 an1 : Option Addr} {sl1 : Array (Option Value)} {oc1 kV1 dc1 pm1 cd1 ct1 : Value}
    {od2 an2 : Option Addr} {sl2 : Array (Option Value)} {oc2 kV2 dc2 pm2 cd2 ct2 : Value}
    {dt2 : Addr} {dto2 : Value} {dtd2 : Option Addr} {dtn2 : Nat} {dts2 : Array (Option Value)} {dk2_0 : Tok}
    {od3 an3 : Option Addr} {sl3 : Array (Option Value)} {oc3 kV3 dc3 pm3 cd3 ct3 : Value}
    {od4 an4 : Option Addr} {sl4 : Array (Option Value)} {oc4 kV4 dc4 pm4 cd4 ct4 : Value}
    {od5 an5 : Option Addr} {sl5 : Array (Option Value)} {oc5 kV5 dc5 pm5 cd5 ct5 : Value}
    {od6 an6 : Option Addr} {sl6 : Array (Option Value)} {oc6 kV6 dc6 pm6 cd6 ct6 : Value}
    {od7 an7 : Option Addr} {sl7 : Array (Option Value)} {oc7 kV7 dc7 pm7 cd7 ct7 : Value}
    {od8 an8 : Option Addr} {sl8 : Array (Option Value)} {oc8 kV8 dc8 pm8 cd8 ct8 : Value}
    {od9 an9 : Option Addr} {sl9 : Array (Option Value)} {oc9 kV9 dc9 pm9 cd9 ct9 : Value}
    {od10 an10 : Option Addr} {sl10 : Array (Option Value)} {oc10 kV10 dc10 pm10 cd10 ct10 : Value}
    {od11 an11 : Option Addr} {sl11 : Array (Option Value)} {oc11 kV11 dc11 pm11 cd11 ct11 : Value}
    {od12 an12 : Option Addr} {sl12 : Array (Option Value)} {oc12 kV12 dc12 pm12 cd12 ct12 : Value}
    {od13 an13 : Option Addr} {sl13 : Array (Option Value)} {oc13 kV13 dc13 pm13 cd13 ct13 : Value}
    {cd_NoFraction : ClassData}
    (a0 : PySem.W.nsIn K mainGlobals "is_whole" = some (some (.ref f0))) (l0 : K.lookup f0 = some ⟨oc0, od0, .func (PySem.W.fnOf "is_whole" "is_whole" (defArgs s_is_whole) (defBody s_is_whole) (defScope s_is_whole) .none kV0 dc0 pm0 an0 cd0 ct0), sl0⟩) (c0 : PySem.W.codeIn K cd0 "is_whole" = true) (k0 : PySem.W.keepIn K (.ref f0) = true)
    (a1 : PySem.W.nsIn K mainGlobals "common_divisor" = some (some (.ref f1))) (l1 : K.lookup f1 = some ⟨oc1, od1, .func (PySem.W.fnOf "common_divisor" "common_divisor" (defArgs s_common_divisor) (defBody s_common_divisor) (defScope s_common_divisor) .none kV1 dc1 pm1 an1 cd1 ct1), sl1⟩) (c1 : PySem.W.codeIn K cd1 "common_divisor" = true) (k1 : PySem.W.keepIn K (.ref f1) = true)
    (a2 : PySem.W.nsIn K mainGlobals "fraction" = some (some (.ref f2))) (l2 : K.lookup f2 = some ⟨oc2, od2, .func (PySem.W.fnOf "fraction" "fraction" (defArgs s_fraction) (defBody s_fraction) (defScope s_fraction) (.ref dt2) kV2 dc2 pm2 an2 cd2 ct2), sl2⟩) (c2 : PySem.W.codeIn K cd2 "fraction" = true) (k2 : PySem.W.keepIn K (.ref f2) = true)
    (ld2 : K.lookup dt2 = some ⟨dto2, dtd2, .seq #[.int 1 dk2_0] dtn2, dts2⟩)
    (a3 : PySem.W.nsIn K mainGlobals "is_fraction" = some (some (.ref f3))) (l3 : K.lookup f3 = some ⟨oc3, od3, .func (PySem.W.fnOf "is_fraction" "is_fraction" (defArgs s_is_fraction) (defBody s_is_fraction) (defScope s_is_fraction) .none kV3 dc3 pm3 an3 cd3 ct3), sl3⟩) (c3 : PySem.W.codeIn K cd3 "is_fraction" = true) (k3 : PySem.W.keepIn K (.ref f3) = true)
    (a4 : PySem.W.nsIn K mainGlobals "_law_cell_at" = some (some (.ref f4))) (l4 : K.lookup f4 = some ⟨oc4, od4, .func (PySem.W.fnOf "_law_cell_at" "_law_cell_at" (defArgs s_l_cell_at) (defBody s_l_cell_at) (defScope s_l_cell_at) .none kV4 dc4 pm4 an4 cd4 ct4), sl4⟩) (c4 : PySem.W.codeIn K cd4 "_law_cell_at" = true) (k4 : PySem.W.keepIn K (.ref f4) = true)
    (a5 : PySem.W.nsIn K mainGlobals "_law_number" = some (some (.ref f5))) (l5 : K.lookup f5 = some ⟨oc5, od5, .func (PySem.W.fnOf "_law_number" "_law_number" (defArgs s_l_number) (defBody s_l_number) (defScope s_l_number) .none kV5 dc5 pm5 an5 cd5 ct5), sl5⟩) (c5 : PySem.W.codeIn K cd5 "_law_number" = true) (k5 : PySem.W.keepIn K (.ref f5) = true)
    (a6 : PySem.W.nsIn K mainGlobals "_law_drawn" = some (some (.ref f6))) (l6 : K.lookup f6 = some ⟨oc6, od6, .func (PySem.W.fnOf "_law_drawn" "_law_drawn" (defArgs s_l_drawn) (defBody s_l_drawn) (defScope s_l_drawn) .none kV6 dc6 pm6 an6 cd6 ct6), sl6⟩) (c6 : PySem.W.codeIn K cd6 "_law_drawn" = true) (k6 : PySem.W.keepIn K (.ref f6) = true)
    (a7 : PySem.W.nsIn K mainGlobals "_law_strange" = some (some (.ref f7))) (l7 : K.lookup f7 = some ⟨oc7, od7, .func (PySem.W.fnOf "_law_strange" "_law_strange" (defArgs s_l_strange) (defBody s_l_strange) (defScope s_l_strange) .none kV7 dc7 pm7 an7 cd7 ct7), sl7⟩) (c7 : PySem.W.codeIn K cd7 "_law_strange" = true) (k7 : PySem.W.keepIn K (.ref f7) = true)
    (a8 : PySem.W.nsIn K mainGlobals "_law_common" = some (some (.ref f8))) (l8 : K.lookup f8 = some ⟨oc8, od8, .func (PySem.W.fnOf "_law_common" "_law_common" (defArgs s_l_common) (defBody s_l_common) (defScope s_l_common) .none kV8 dc8 pm8 an8 cd8 ct8), sl8⟩) (c8 : PySem.W.codeIn K cd8 "_law_common" = true) (k8 : PySem.W.keepIn K (.ref f8) = true)
    (a9 : PySem.W.nsIn K mainGlobals "_law_lowest" = some (some (.ref f9))) (l9 : K.lookup f9 = some ⟨oc9, od9, .func (PySem.W.fnOf "_law_lowest" "_law_lowest" (defArgs s_l_lowest) (defBody s_l_lowest) (defScope s_l_lowest) .none kV9 dc9 pm9 an9 cd9 ct9), sl9⟩) (c9 : PySem.W.codeIn K cd9 "_law_lowest" = true) (k9 : PySem.W.keepIn K (.ref f9) = true)
    (a10 : PySem.W.nsIn K mainGlobals "_law_others" = some (some (.ref f10))) (l10 : K.lookup f10 = some ⟨oc10, od10, .func (PySem.W.fnOf "_law_others" "_law_others" (defArgs s_l_others) (defBody s_l_others) (defScope s_l_others) .none kV10 dc10 pm10 an10 cd10 ct10), sl10⟩) (c10 : PySem.W.codeIn K cd10 "_law_others" = true) (k10 : PySem.W.keepIn K (.ref f10) = true)
    (a11 : PySem.W.nsIn K mainGlobals "_law_refused" = some (some (.ref f11))) (l11 : K.lookup f11 = some ⟨oc11, od11, .func (PySem.W.fnOf "_law_refused" "_law_refused" (defArgs s_l_refused) (defBody s_l_refused) (defScope s_l_refused) .none kV11 dc11 pm11 an11 cd11 ct11), sl11⟩) (c11 : PySem.W.codeIn K cd11 "_law_refused" = true) (k11 : PySem.W.keepIn K (.ref f11) = true)
    (a12 : PySem.W.nsIn K mainGlobals "_law_spoiled" = some (some (.ref f12))) (l12 : K.lookup f12 = some ⟨oc12, od12, .func (PySem.W.fnOf "_law_spoiled" "_law_spoiled" (defArgs s_l_spoiled) (defBody s_l_spoiled) (defScope s_l_spoiled) .none kV12 dc12 pm12 an12 cd12 ct12), sl12⟩) (c12 : PySem.W.codeIn K cd12 "_law_spoiled" = true) (k12 : PySem.W.keepIn K (.ref f12) = true)
    (a13 : PySem.W.nsIn K mainGlobals "law" = some (some (.ref f13))) (l13 : K.lookup f13 = some ⟨oc13, od13, .func (PySem.W.fnOf "law" "law" (defArgs s_law) (defBody s_law) (defScope s_law) .none kV13 dc13 pm13 an13 cd13 ct13), sl13⟩) (c13 : PySem.W.codeIn K cd13 "law" = true) (k13 : PySem.W.keepIn K (.ref f13) = true)
    (a_LeftError_ : PySem.W.nsIn K mainGlobals "LeftError" = some (some (.ref a_LeftError)))
    (a_NoPrime_ : PySem.W.nsIn K mainGlobals "NoPrime" = some (some (.ref a_NoPrime)))
    (a_NoFraction_ : PySem.W.nsIn K mainGlobals "NoFraction" = some (some (.ref a_NoFraction)))
    (a_NoPlace_ : PySem.W.nsIn K mainGlobals "NoPlace" = some (some (.ref a_NoPlace)))
    (a_NoFigures_ : PySem.W.nsIn K mainGlobals "NoFigures" = some (some (.ref a_NoFigures)))
    (a_NoText_ : PySem.W.nsIn K mainGlobals "NoText" = some (some (.ref a_NoText)))
    (a_Unlike_ : PySem.W.nsIn K mainGlobals "Unlike" = some (some (.ref a_Unlike)))
    (a_NoQuotient_ : PySem.W.nsIn K mainGlobals "NoQuotient" = some (some (.ref a_NoQuotient)))
    (a_NoPower_ : PySem.W.nsIn K mainGlobals "NoPower" = some (some (.ref a_NoPower)))
    (a_TooFew_ : PySem.W.nsIn K mainGlobals "TooFew" = some (some (.ref a_TooFew)))
    (a_NoSize_ : PySem.W.nsIn K mainGlobals "NoSize" = some (some (.ref a_NoSize)))
    (a_NoPolynomial_ : PySem.W.nsIn K mainGlobals "NoPolynomial" = some (some (.ref a_NoPolynomial)))
    (a_NoDepth_ : PySem.W.nsIn K mainGlobals "NoDepth" = some (some (.ref a_NoDepth)))
    (a_NoRoot_ : PySem.W.nsIn K mainGlobals "NoRoot" = some (some (.ref a_NoRoot)))
    (a_NotNear_ : PySem.W.nsIn K mainGlobals "NotNear" = some (some (.ref a_NotNear)))
    (x_NoFraction : PySem.W.excIn K a_NoFraction bmVE "ValueError.__new__" = true)
    (x_LeftError : PySem.W.excIn K a_LeftError bmVE "ValueError.__new__" = true)
    (ga_NoFraction : PySem.W.findIn K (.ref a_NoFraction) "__getattribute__" = some (some (.builtin "BaseException.__getattribute__")))
    (gt_NoFraction : PySem.W.findIn K (.ref a_NoFraction) "__getattr__" = some none)
    (cl_NoFraction : PySem.W.findIn K (.ref a_NoFraction) "__class__" = some (some (.builtin "object.__class__")))
    (ob_NoFraction : PySem.W.subIn K (.ref a_NoFraction) (.type "object") = some true)
    (be_NoFraction : PySem.W.subIn K (.ref a_NoFraction) (.type "BaseException") = some true)
    (ci_NoFraction : PySem.W.clsIn K a_NoFraction = some cd_NoFraction)
    (kt_NoFraction_NoFraction : PySem.W.kitOne K (.ref a_NoFraction) (.ref a_NoFraction) = some true)
    (kt_NoFraction_ValueError : PySem.W.kitOne K (.ref a_NoFraction) (.type "ValueError") = some true)
    (kt_NoFraction_NoPrime : PySem.W.kitOne K (.ref a_NoFraction) (.ref a_NoPrime) = some false)
    (kt_NoFraction_NoPlace : PySem.W.kitOne K (.ref a_NoFraction) (.ref a_NoPlace) = some false)
    (kt_NoFraction_NoFigures : PySem.W.kitOne K (.ref a_NoFraction) (.ref a_NoFigures) = some false)
    (kt_NoFraction_NoText : PySem.W.kitOne K (.ref a_NoFraction) (.ref a_NoText) = some false)
    (kt_NoFraction_Unlike : PySem.W.kitOne K (.ref a_NoFraction) (.ref a_Unlike) = some false)
    (kt_NoFraction_NoQuotient : PySem.W.kitOne K (.ref a_NoFraction) (.ref a_NoQuotient) = some false)
    (kt_NoFraction_NoPower : PySem.W.kitOne K (.ref a_NoFraction) (.ref a_NoPower) = some false)
    (kt_NoFraction_TooFew : PySem.W.kitOne K (.ref a_NoFraction) (.ref a_TooFew) = some false)
    (kt_NoFraction_NoSize : PySem.W.kitOne K (.ref a_NoFraction) (.ref a_NoSize) = some false)
    (kt_NoFraction_NoPolynomial : PySem.W.kitOne K (.ref a_NoFraction) (.ref a_NoPolynomial) = some false)
    (kt_NoFraction_NoDepth : PySem.W.kitOne K (.ref a_NoFraction) (.ref a_NoDepth) = some false)
    (kt_NoFraction_NoRoot : PySem.W.kitOne K (.ref a_NoFraction) (.ref a_NoRoot) = some false)
    (kt_NoFraction_NotNear : PySem.W.kitOne K (.ref a_NoFraction) (.ref a_NotNear) = some false)
    (sb_NoFraction : PySem.W.subIn K (.ref a_NoFraction) (.ref a_LeftError) = some true)
    (z_ValueError : PySem.W.nsIn K mainGlobals "ValueError" = some none)
    (z_abs : PySem.W.nsIn K mainGlobals "abs" = some none)
    (z_any : PySem.W.nsIn K mainGlobals "any" = some none)
    (z_bool : PySem.W.nsIn K mainGlobals "bool" = some none)
    (z_int : PySem.W.nsIn K mainGlobals "int" = some none)
    (z_isinstance : PySem.W.nsIn K mainGlobals "isinstance" = some none)
    (z_len : PySem.W.nsIn K mainGlobals "len" = some none)
    (z_tuple : PySem.W.nsIn K mainGlobals "tuple" = some none) :
    ∃ fd : FuncData, (∀ (s : Shared) (v : Value), BindsTo s fd ⟨[v], []⟩ [("_law_script", v)]) ∧ ∀ base : Heap, K.In base → base.Ns mainGlobals mg → FnOk l.prog w K mg base CX0 4 fa fd ["_law_script"] (spLaw K) := by
  have e := hfa.symm.trans (PySem.W.mg_of X G a13)
  cases e
  have F0 := fun_mk (st := s_is_whole) l0 c0 k0
  have b0 := F0.binds (ps := ["thing"]) fun _ _ _ _ _ _ us hl => match us, hl with | [_], _ => rfl
  have F1 := fun_mk (st := s_common_divisor) l1 c1 k1
  have b1 := F1.binds (ps := ["one", "other"]) fun _ _ _ _ _ _ us hl => match us, hl with | [_, _], _ => rfl
  have F2 := funD_mk (st := s_fraction) l2 c2 k2
  have b2 : Binds K (PySem.W.fnOf "fraction" "fraction" (defArgs s_fraction) (defBody s_fraction) (defScope s_fraction) (.ref dt2) kV2 dc2 pm2 an2 cd2 ct2) ["top", "bottom"] [] := fun s us X hl => match us, hl with | [_, _], _ => PySem.W.binds_K X rfl ld2 rfl rfl rfl
  have bd2 : Binds K (PySem.W.fnOf "fraction" "fraction" (defArgs s_fraction) (defBody s_fraction) (defScope s_fraction) (.ref dt2) kV2 dc2 pm2 an2 cd2 ct2) ["top", "bottom"] [.int 1 dk2_0] := fun s us X hl => match us, (show us.length = 1 by have := hl; rw [List.length_append] at this; exact Nat.add_right_cancel (m := 1) this) with | [_], _ => PySem.W.binds_K X rfl ld2 rfl rfl rfl
  have F3 := fun_mk (st := s_is_fraction) l3 c3 k3
  have b3 := F3.binds (ps := ["thing"]) fun _ _ _ _ _ _ us hl => match us, hl with | [_], _ => rfl
  have F4 := fun_mk (st := s_l_cell_at) l4 c4 k4
  have b4 := F4.binds (ps := ["_law_script", "_law_k"]) fun _ _ _ _ _ _ us hl => match us, hl with | [_, _], _ => rfl
  have F5 := fun_mk (st := s_l_number) l5 c5 k5
  have b5 := F5.binds (ps := ["_law_found"]) fun _ _ _ _ _ _ us hl => match us, hl with | [_], _ => rfl
  have F6 := fun_mk (st := s_l_drawn) l6 c6 k6
  have b6 := F6.binds (ps := ["_law_cell"]) fun _ _ _ _ _ _ us hl => match us, hl with | [_], _ => rfl
  have F7 := fun_mk (st := s_l_strange) l7 c7 k7
  have b7 := F7.binds (ps := ["_law_cell"]) fun _ _ _ _ _ _ us hl => match us, hl with | [_], _ => rfl
  have F8 := fun_mk (st := s_l_common) l8 c8 k8
  have b8 := F8.binds (ps := ["_law_one", "_law_other"]) fun _ _ _ _ _ _ us hl => match us, hl with | [_, _], _ => rfl
  have F9 := fun_mk (st := s_l_lowest) l9 c9 k9
  have b9 := F9.binds (ps := ["_law_told"]) fun _ _ _ _ _ _ us hl => match us, hl with | [_], _ => rfl
  have F10 := fun_mk (st := s_l_others) l10 c10 k10
  have b10 := F10.binds (ps := ["_law_e"]) fun _ _ _ _ _ _ us hl => match us, hl with | [_], _ => rfl
  have F11 := fun_mk (st := s_l_refused) l11 c11 k11
  have b11 := F11.binds (ps := ["_law_top", "_law_bottom"]) fun _ _ _ _ _ _ us hl => match us, hl with | [_, _], _ => rfl
  have F12 := fun_mk (st := s_l_spoiled) l12 c12 k12
  have b12 := F12.binds (ps := ["_law_told", "_law_cell"]) fun _ _ _ _ _ _ us hl => match us, hl with | [_, _], _ => rfl
  have F13 := fun_mk (st := s_law) l13 c13 k13
  have T : Txt K mg := ⟨f0, _, F0, b0, PySem.W.mg_of X G a0, k0, f1, _, F1, b1, PySem.W.mg_of X G a1, k1, f2, _, F2, b2, PySem.W.mg_of X G a2, k2, ⟨_, .cons ⟨_, rfl⟩ (.nil), bd2⟩, f3, _, F3, b3, PySem.W.mg_of X G a3, k3, f4, _, F4, b4, PySem.W.mg_of X G a4, k4, f5, _, F5, b5, PySem.W.mg_of X G a5, k5, f6, _, F6, b6, PySem.W.mg_of X G a6, k6, f7, _, F7, b7, PySem.W.mg_of X G a7, k7, f8, _, F8, b8, PySem.W.mg_of X G a8, k8, f9, _, F9, b9, PySem.W.mg_of X G a9, k9, f10, _, F10, b10, PySem.W.mg_of X G a10, k10, f11, _, F11, b11, PySem.W.mg_of X G a11, k11, f12, _, F12, b12, PySem.W.mg_of X G a12, k12, a_LeftError, PySem.W.mg_of X G a_LeftError_, a_NoPrime, PySem.W.mg_of X G a_NoPrime_, a_NoFraction, PySem.W.mg_of X G a_NoFraction_, a_NoPlace, PySem.W.mg_of X G a_NoPlace_, a_NoFigures, PySem.W.mg_of X G a_NoFigures_, a_NoText, PySem.W.mg_of X G a_NoText_, a_Unlike, PySem.W.mg_of X G a_Unlike_, a_NoQuotient, PySem.W.mg_of X G a_NoQuotient_, a_NoPower, PySem.W.mg_of X G a_NoPower_, a_TooFew, PySem.W.mg_of X G a_TooFew_, a_NoSize, PySem.W.mg_of X G a_NoSize_, a_NoPolynomial, PySem.W.mg_of X G a_NoPolynomial_, a_NoDepth, PySem.W.mg_of X G a_NoDepth_, a_NoRoot, PySem.W.mg_of X G a_NoRoot_, a_NotNear, PySem.W.mg_of X G a_NotNear_, x_NoFraction, x_LeftError, ⟨ga_NoFraction, gt_NoFraction, cl_NoFraction, ob_NoFraction, be_NoFraction, by rw [ci_NoFraction]; rfl⟩, kt_NoFraction_NoFraction, kt_NoFraction_ValueError, kt_NoFraction_NoPrime, kt_NoFraction_NoPlace, kt_NoFraction_NoFigures, kt_NoFraction_NoText, kt_NoFraction_Unlike, kt_NoFraction_NoQuotient, kt_NoFraction_NoPower, kt_NoFraction_TooFew, kt_NoFraction_NoSize, kt_NoFraction_NoPolynomial, kt_NoFraction_NoDepth, kt_NoFraction_NoRoot, kt_NoFraction_NotNear, sb_NoFraction, PySem.W.mg_none_of X G z_ValueError, PySem.W.mg_none_of X G z_abs, PySem.W.mg_none_of X G z_any, PySem.W.mg_none_of X G z_bool, PySem.W.mg_none_of X G z_int, PySem.W.mg_none_of X G z_isinstance, PySem.W.mg_none_of X G z_len, PySem.W.mg_none_of X G z_tuple⟩
  exact ⟨PySem.W.fnOf "law" "law" (defArgs s_law) (defBody s_law) (defScope s_law) .none kV13 dc13 pm13 an13 cd13 ct13, fun s v => .of_eq rfl, fun base _ _ => ok_law T F13⟩
theorem walk {l : PySem.W.OpenLaw} {q : Program} {loose : List Str} {XP : (Str → Option Value) → Heap → Prop} {YP : World → Heap → Prop} {d : DefRec} {K : Params → PySem.W.Frag} (hn : l.most = some 63) (hdf : d.params.defaults = [])
    (hY : ∀ (w : World) (h : Heap), YP w h → (K w.params).In h)
    (F : ∀ (w : World) (mg : Str → Option Value) (fa : Addr) (h : Heap), (K w.params).In h → h.Ns mainGlobals mg → mg d.name = some (.ref fa) →
      ∃ fd : FuncData, (∀ (s : Shared) (u : Value), BindsTo s fd ⟨[u], []⟩ [("_law_script", u)]) ∧ ∀ base : Heap, (K w.params).In base → base.Ns mainGlobals mg → FnOk l.prog w (K w.params) mg base CX0 4 fa fd ["_law_script"] (spLaw (K w.params))) :
    PySem.W.WalkO q loose XP YP l.row.toRowW d [] (fun f vs => PySem.call f vs) :=
  L2.walk_of (n := 63) (k := 4) (x := "_law_script") (CX := fun _ => CX0) (sp := fun w => spLaw (K w.params)) hn (by decide) hdf ⟨rfl, by decide, by decide⟩ hY F (fun _ _ a ns hl _ hS => ⟨a, ns, rfl, hS, hl, fun _ => rfl⟩) fun _ _ _ _ _ z => z
end K12
open PySem PySem.W PyProof.Rows
set_option maxRecDepth 100000 in
set_option maxHeartbeats 0 in
theorem PySem.Challenge.cw_leftnumbers_k12_fractions_made_holds : PySem.Challenge.rw_leftnumbers_k12_fractions_made.Holds := by
  w_on; o_law; k_head; (case hw => w_witness2)
  k_fill
  refine K12.walk (l := PySem.Challenge.rw_leftnumbers_k12_fractions_made) rfl rfl (fun w h Y => PySem.W.kIn_of Y) ?F
  case F =>
    intro w mg fa h KX G hmg
    refine' K12.all_mk KX G hmg ?a0 ?l0 ?c0 ?k0 ?a1 ?l1 ?c1 ?k1 ?a2 ?l2 ?c2 ?k2 ?ld2 ?a3 ?l3 ?c3 ?k3 ?a4 ?l4 ?c4 ?k4 ?a5 ?l5 ?c5 ?k5 ?a6 ?l6 ?c6 ?k6 ?a7 ?l7 ?c7 ?k7 ?a8 ?l8 ?c8 ?k8 ?a9 ?l9 ?c9 ?k9 ?a10 ?l10 ?c10 ?k10 ?a11 ?l11 ?c11 ?k11 ?a12 ?l12 ?c12 ?k12 ?a13 ?l13 ?c13 ?k13 ?a_LeftError_ ?a_NoPrime_ ?a_NoFraction_ ?a_NoPlace_ ?a_NoFigures_ ?a_NoText_ ?a_Unlike_ ?a_NoQuotient_ ?a_NoPower_ ?a_TooFew_ ?a_NoSize_ ?a_NoPolynomial_ ?a_NoDepth_ ?a_NoRoot_ ?a_NotNear_ ?x_NoFraction ?x_LeftError ?ga_NoFraction ?gt_NoFraction ?cl_NoFraction ?ob_NoFraction ?be_NoFraction ?ci_NoFraction ?kt_NoFraction_NoFraction ?kt_NoFraction_ValueError ?kt_NoFraction_NoPrime ?kt_NoFraction_NoPlace ?kt_NoFraction_NoFigures ?kt_NoFraction_NoText ?kt_NoFraction_Unlike ?kt_NoFraction_NoQuotient ?kt_NoFraction_NoPower ?kt_NoFraction_TooFew ?kt_NoFraction_NoSize ?kt_NoFraction_NoPolynomial ?kt_NoFraction_NoDepth ?kt_NoFraction_NoRoot ?kt_NoFraction_NotNear ?sb_NoFraction ?z_ValueError ?z_abs ?z_any ?z_bool ?z_int ?z_isinstance ?z_len ?z_tuple
    (case a0 => k_is)
    (case l0 => k_is)
    (case c0 => k_is)
    (case k0 => k_is)
    (case a1 => k_is)
    (case l1 => k_is)
    (case c1 => k_is)
    (case k1 => k_is)
    (case a2 => k_is)
    (case l2 => k_is)
    (case c2 => k_is)
    (case k2 => k_is)
    (case ld2 => k_is)
    (case a3 => k_is)
    (case l3 => k_is)
    (case c3 => k_is)
    (case k3 => k_is)
    (case a4 => k_is)
    (case l4 => k_is)
    (case c4 => k_is)
    (case k4 => k_is)
    (case a5 => k_is)
    (case l5 => k_is)
    (case c5 => k_is)
    (case k5 => k_is)
    (case a6 => k_is)
    (case l6 => k_is)
    (case c6 => k_is)
    (case k6 => k_is)
    (case a7 => k_is)
    (case l7 => k_is)
    (case c7 => k_is)
    (case k7 => k_is)
    (case a8 => k_is)
    (case l8 => k_is)
    (case c8 => k_is)
    (case k8 => k_is)
    (case a9 => k_is)
    (case l9 => k_is)
    (case c9 => k_is)
    (case k9 => k_is)
    (case a10 => k_is)
    (case l10 => k_is)
    (case c10 => k_is)
    (case k10 => k_is)
    (case a11 => k_is)
    (case l11 => k_is)
    (case c11 => k_is)
    (case k11 => k_is)
    (case a12 => k_is)
    (case l12 => k_is)
    (case c12 => k_is)
    (case k12 => k_is)
    (case a13 => k_is)
    (case l13 => k_is)
    (case c13 => k_is)
    (case k13 => k_is)
    (case a_LeftError_ => k_is)
    (case a_NoPrime_ => k_is)
    (case a_NoFraction_ => k_is)
    (case a_NoPlace_ => k_is)
    (case a_NoFigures_ => k_is)
    (case a_NoText_ => k_is)
    (case a_Unlike_ => k_is)
    (case a_NoQuotient_ => k_is)
    (case a_NoPower_ => k_is)
    (case a_TooFew_ => k_is)
    (case a_NoSize_ => k_is)
    (case a_NoPolynomial_ => k_is)
    (case a_NoDepth_ => k_is)
    (case a_NoRoot_ => k_is)
    (case a_NotNear_ => k_is)
    (case x_NoFraction => k_exc)
    (case x_LeftError => k_exc)
    (case ga_NoFraction => k_is)
    (case gt_NoFraction => k_is)
    (case cl_NoFraction => k_is)
    (case ob_NoFraction => k_is)
    (case be_NoFraction => k_is)
    (case ci_NoFraction => k_is)
    (case kt_NoFraction_NoFraction => kit_is)
    (case kt_NoFraction_ValueError => kit_is)
    (case kt_NoFraction_NoPrime => kit_is)
    (case kt_NoFraction_NoPlace => kit_is)
    (case kt_NoFraction_NoFigures => kit_is)
    (case kt_NoFraction_NoText => kit_is)
    (case kt_NoFraction_Unlike => kit_is)
    (case kt_NoFraction_NoQuotient => kit_is)
    (case kt_NoFraction_NoPower => kit_is)
    (case kt_NoFraction_TooFew => kit_is)
    (case kt_NoFraction_NoSize => kit_is)
    (case kt_NoFraction_NoPolynomial => kit_is)
    (case kt_NoFraction_NoDepth => kit_is)
    (case kt_NoFraction_NoRoot => kit_is)
    (case kt_NoFraction_NotNear => kit_is)
    (case sb_NoFraction => k_is)
    (case z_ValueError => k_is)
    (case z_abs => k_is)
    (case z_any => k_is)
    (case z_bool => k_is)
    (case z_int => k_is)
    (case z_isinstance => k_is)
    (case z_len => k_is)
    (case z_tuple => k_is)
