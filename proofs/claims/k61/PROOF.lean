import PyProof.Rows.All
import Wide.All
import OpenK.AllK
import Wide.FinOn
import Lean
import PyProof.EqAt
import PyProof.EqKinds
import PyProof.TupleCall
import PySem.Challenge.RW_leftnumbers_k61_worths_slopes_products
set_option Elab.async false
set_option linter.all false
set_option maxRecDepth 100000
/-! THE HAND LAYER, for ints, bools, texts, own classes, LISTS and tuples (index, slices, in, append, pop ..), calls, loops. Paste it whole ahead of your own text; what your proof does not reach may be deleted. -/
namespace L2
open PySem PySem.Spec PyProof.Rows
/-- a key: an int or a str -/
abbrev Key := Sum Int Str
def keyIs : Key → Value → Bool
  | .inl k, v => Value.isInt k v
  | .inr x, v => Value.isStrOf x v
def keyH (w : World) : Key → Int
  | .inl k => hashInt k
  | .inr x => hashStr w x
theorem keyIs_shape : ∀ {k : Key} {v : Value}, keyIs k v = true → (∃ i t, k = Sum.inl i ∧ v = Value.int i t) ∨ (∃ x t, k = Sum.inr x ∧ v = Value.str x t)
  | .inl i, v, h => by
    obtain ⟨t, e⟩ := Value.isInt_shape (k := i) (v := v) h
    exact .inl ⟨i, t, rfl, e⟩
  | .inr x, v, h => by
    obtain ⟨t, e⟩ := Value.isStrOf_shape (x := x) (v := v) h
    exact .inr ⟨x, t, rfl, e⟩
theorem key_ll (a b : Int) : decide ((Sum.inl a : Key) = Sum.inl b) = (a == b) := by
  by_cases e : a = b
  · subst e; simp
  · have h : ¬ (Sum.inl a : Key) = Sum.inl b := fun q => e (Sum.inl.inj q)
    rw [decide_eq_false h]
    exact (beq_eq_false_iff_ne.mpr e).symm
theorem key_rr (a b : Str) : decide ((Sum.inr a : Key) = Sum.inr b) = decide (a = b) := by
  by_cases e : a = b
  · subst e; simp
  · have h : ¬ (Sum.inr a : Key) = Sum.inr b := fun q => e (Sum.inr.inj q)
    rw [decide_eq_false h, decide_eq_false e]
theorem key_lr (a : Int) (b : Str) : decide ((Sum.inl a : Key) = Sum.inr b) = false := decide_eq_false (fun q => nomatch q)
theorem key_rl (a : Str) (b : Int) : decide ((Sum.inr a : Key) = Sum.inl b) = false := decide_eq_false (fun q => nomatch q)
def mixKind (prog : Program) (w : World) : PySem.KeyKind prog w Key where
  is := keyIs
  hash := keyH w
  inj := fun v a b ha hb => by
    rcases keyIs_shape ha with ⟨i, t, rfl, rfl⟩ | ⟨x, t, rfl, rfl⟩
    · rcases keyIs_shape hb with ⟨j, u, rfl, e⟩ | ⟨y, u, rfl, e⟩
      · injection e with e1 _; rw [e1]
      · exact nomatch e
    · rcases keyIs_shape hb with ⟨j, u, rfl, e⟩ | ⟨y, u, rfl, e⟩
      · exact nomatch e
      · injection e with e1 _; rw [e1]
  byValue := fun k v h => by
    rcases keyIs_shape h with ⟨i, t, rfl, rfl⟩ | ⟨x, t, rfl, rfl⟩ <;> rfl
  pyHash := fun hv h => by
    rcases keyIs_shape hv with ⟨i, t, rfl, rfl⟩ | ⟨x, t, rfl, rfl⟩
    · exact wpAny_pyHash_int h
    · exact wpAny_pyHash_str h
  eqBool := fun hu hv h => by
    rcases keyIs_shape hu with ⟨i, t, rfl, rfl⟩ | ⟨x, t, rfl, rfl⟩
    · rcases keyIs_shape hv with ⟨j, u, rfl, rfl⟩ | ⟨y, u, rfl, rfl⟩
      · rw [key_ll] at h; exact wpAny_eqBool_int h
      · rw [key_lr] at h; exact SeqAt.EqAt.int_str i t y u _ _ _ _ h
    · rcases keyIs_shape hv with ⟨j, u, rfl, rfl⟩ | ⟨y, u, rfl, rfl⟩
      · rw [key_rl] at h; exact SeqAt.EqAt.str_int x t j u _ _ _ _ h
      · rw [key_rr] at h; exact wpAny_eqBool_str h
  «strs» := fun k x t v h => by
    rcases keyIs_shape h with ⟨i, u, rfl, e⟩ | ⟨y, u, rfl, e⟩
    · exact nomatch e
    · injection e with e1 _
      subst e1
      cases v <;> rfl
end L2
namespace L2
open PySem PySem.Spec PyProof.Rows
/-- a value, without the heap -/
inductive V where
  | non | bl (b : Bool) | int (i : Int) | str (x : Str) | byt (b : Array UInt8) | flt (b : UInt64) | ref (a : Addr) | ty (n : String)
  deriving DecidableEq
def RelV : V → Value → Prop
  | .non, u => u = Value.none
  | .bl b, u => u = Value.bool b
  | .int i, u => ∃ t, u = Value.int i t
  | .str x, u => ∃ t, u = Value.str x t
  | .byt b, u => ∃ t, u = Value.bytes b t
  | .flt b, u => ∃ t, u = Value.float b t
  | .ref a, u => u = Value.ref a
  | .ty n, u => u = Value.type n
abbrev Vals : List V → List Value → Prop := Paired RelV
theorem Vals.length {xs : List V} {us : List Value} (r : Vals xs us) : xs.length = us.length := Paired.length r
theorem Vals.get : ∀ {xs : List V} {us : List Value} {i : Nat} {x : V}, Vals xs us → xs[i]? = some x → ∃ u, us[i]? = some u ∧ RelV x u
  | _, _, _, _, .nil, e => by simp at e
  | _, _, 0, _, .cons r _, e => by simp at e; subst e; exact ⟨_, rfl, r⟩
  | _, _, i + 1, x, .cons _ t, e => by
    obtain ⟨u, h1, h2⟩ := Vals.get (i := i) (x := x) t (by simpa using e)
    exact ⟨u, by simpa using h1, h2⟩
theorem Vals.set {x : V} {u : Value} (r : RelV x u) : ∀ {xs : List V} {us : List Value} (i : Nat), Vals xs us → Vals (xs.set i x) (us.set i u)
  | _, _, _, .nil => .nil
  | _, _, 0, .cons _ t => .cons r t
  | _, _, i + 1, .cons q t => .cons q (Vals.set r i t)
theorem Vals.append : ∀ {xs ys : List V} {us ws : List Value}, Vals xs us → Vals ys ws → Vals (xs ++ ys) (us ++ ws)
  | _, _, _, _, .nil, s => s
  | _, _, _, _, .cons r t, s => .cons r (Vals.append t s)
theorem Vals.take : ∀ {xs : List V} {us : List Value} (n : Nat), Vals xs us → Vals (xs.take n) (us.take n)
  | _, _, 0, _ => .nil
  | _, _, _ + 1, .nil => .nil
  | _, _, n + 1, .cons r t => .cons r (Vals.take n t)
theorem Vals.drop : ∀ {xs : List V} {us : List Value} (n : Nat), Vals xs us → Vals (xs.drop n) (us.drop n)
  | _, _, 0, r => r
  | _, _, _ + 1, .nil => .nil
  | _, _, n + 1, .cons _ t => Vals.drop n t
def RelO : Option V → Option Value → Prop
  | some v, some u => RelV v u
  | none, none => True
  | _, _ => False
def KV {κ : Type} : List (κ × V) → List (κ × Value) → Prop := Paired fun (p : κ × V) (q : κ × Value) => p.1 = q.1 ∧ RelV p.2 q.2
/-- a key of a dict (00_mix): an int or a text -/
def kV : Key → V
  | .inl i => .int i
  | .inr x => .str x
/-- what stands at a tracked address -/
inductive HO where
  /-- a list -/
  | lst (xs : List V)
  /-- a tuple (never changes) -/
  | tup (xs : List V)
  /-- a dict whose keys are ints and texts; one whose keys are tuples of ints and texts (the empty one is both) -/
  | dK (kvs : List (Key × V)) | dT (kvs : List (List Key × V))
  /-- a set of ints: its members, its size -/
  | set (S : Int → Bool) (n : Nat)
  /-- an instance of the class at C, its dict at dx, its attributes -/
  | ins (C dx : Addr) (fs : List (Str × V))
  /-- the dict of the instance at x -/
  | own (x : Addr)
  /-- the dict of an exception -/
  | xd (fs : List (Str × V))
  /-- a bound method, f of x -/
  | met (f x : Addr)
  /-- a range object lo, lo + 1, .. below hi -/
  | rng (lo hi : Int)
  /-- a thing that is known to the object (the script; a dict while a loop walks it): read, never written while it is so -/
  | frz (o : Obj) (u : HO)
  /-- a code object's table -/
  | tbl (ps : Array Value)
  /-- any other thing, by what is true of its one object (a def of one's own: SetO a S n := HO.ext fun h => ..) -/
  | ext (φ : Heap → Prop)
abbrev Hp := Addr → Option HO
def upd (H : Hp) (a : Addr) (o : HO) : Hp := fun b => if b = a then some o else H b
theorem upd_same {H : Hp} {a : Addr} {o : HO} : upd H a o a = some o := by unfold upd; rw [if_pos rfl]
theorem upd_ne {H : Hp} {a b : Addr} {o : HO} (h : b ≠ a) : upd H a o b = H b := by unfold upd; rw [if_neg h]
theorem upd_upd {H : Hp} {a : Addr} {o u : HO} : upd (upd H a o) a u = upd H a u := by
  funext b; unfold upd; split <;> rfl
theorem ne_of_none {H : Hp} {a b : Addr} {o : HO} (h : H a = some o) (h' : H b = none) : a ≠ b := by
  intro e; subst e; rw [h] at h'; cases h'
section
variable (P : Program) (w : World)
def ObjOk (H : Hp) (h : Heap) (a : Addr) : HO → Prop
  | .lst xs => xs.length ≤ sizeLine ∧ ∃ (its : List Value) (n : Nat), Vals xs its ∧ h.get? a = some { cls := .type "list", data := .seq its.toArray n }
  | .tup xs => xs.length ≤ sizeLine ∧ ∃ its : List Value, Vals xs its ∧ IsTup h a its.toArray
  | .dK kvs => kvs.length ≤ sizeLine ∧ (a == sysModules) = false ∧ ∃ vs, KV kvs vs ∧ h.DictOf (mixKind P w) a vs
  | .dT kvs => kvs.length ≤ sizeLine ∧ (a == sysModules) = false ∧ ∃ xs : List (List Key × Addr × Value),
      Paired (fun (p : List Key × V) (q : List Key × Addr × Value) => p.1 = q.1 ∧ H q.2.1 = some (.tup (p.1.map kV)) ∧ RelV p.2 q.2.2) kvs xs ∧
      ∃ o es ep, h.get? a = some o ∧ o.ExactDict ∧ o.data = .dict es ep ∧ es.toList = xs.map (entryOfKey (tupleKind (mixKind P w))) ∧ (xs.map (·.1)).Nodup
  | .set S n => h.SetOf (intKind P w) a S n
  | .ins C dx fs => H dx = some (.own a) ∧ fs.length ≤ 1000 ∧ dx ≠ a ∧ h.get? a = some (PySem.W.instObj C dx) ∧
      ∃ mA, h.Ns1 dx mA ∧ (∀ f, RelO (fs.lookup f) (mA f)) ∧ PySem.Within mA (fs.map (·.1))
  | .own _ => ∃ o, h.get? a = some o
  | .xd fs => ∃ mA, h.Ns1 a mA ∧ ∀ f, RelO (fs.lookup f) (mA f)
  | .rng lo hi => ∃ t u v, h.get? a = some { cls := .type "range", data := .fields #[.int lo t, .int hi u, .int 1 v] }
  | .frz o u => h.get? a = some o ∧ ObjOk H h a u
  | .tbl ps => h.get? a = some { cls := .none, data := .fields ps }
  | .met f x => h.get? a = some (PySem.W.methodObj (.ref f) (.ref x))
  | .ext φ => φ h ∧ (∃ o, h.get? a = some o) ∧ ∀ h1 h2 : Heap, φ h1 → (∀ o, h1.get? a = some o → h2.get? a = some o) → φ h2
/-- the abstract heap is held -/
def HOk (H : Hp) (h : Heap) : Prop := ∀ a o, H a = some o → ObjOk P w H h a o
end
section
variable {P : Program} {w : World} {H H' : Hp} {h h' : Heap} {a : Addr} {o : HO}
theorem ObjOk.lt (x : ObjOk P w H h a o) : a < h.objs.size := by
  cases o with
  | lst xs => obtain ⟨_, _, _, _, e⟩ := x; exact Heap.lt_size e
  | tup xs => obtain ⟨_, _, _, p⟩ := x; exact p.lt
  | dK kvs => obtain ⟨_, _, _, _, o, _, _, e, _⟩ := x; exact Heap.lt_size e
  | dT kvs => obtain ⟨_, _, _, _, o, _, _, e, _⟩ := x; exact Heap.lt_size e
  | set S n => obtain ⟨o, _, _, _, e, _⟩ := x; exact Heap.lt_size e
  | ins C dx fs => obtain ⟨_, _, _, e, _⟩ := x; exact Heap.lt_size e
  | own y => obtain ⟨_, e⟩ := x; exact Heap.lt_size e
  | xd fs => obtain ⟨_, ⟨_, _, _, e, _⟩, _⟩ := x; exact Heap.lt_size e
  | rng lo hi => obtain ⟨_, _, _, e⟩ := x; exact Heap.lt_size e
  | frz ob u => obtain ⟨e, _⟩ := x; exact Heap.lt_size e
  | tbl ps => exact Heap.lt_size (show h.get? a = some _ from x)
  | met f y => exact Heap.lt_size (show h.get? a = some _ from x)
  | ext φ => obtain ⟨_, ⟨_, e⟩, _⟩ := x; exact Heap.lt_size e
theorem Paired.mapP {α β : Type} {F G : α → β → Prop} : ∀ {l₁ : List α} {l₂ : List β}, Paired F l₁ l₂ → (∀ a b, F a b → G a b) → Paired G l₁ l₂
  | _, _, .nil, _ => .nil
  | _, _, .cons r t, f => .cons (f _ _ r) (Paired.mapP t f)
/-- what an object's description leans on: its own object, its own dict, the tuples -/
theorem ObjOk.stay (x : ObjOk P w H h a o) (k : ∀ b u, (b = a ∨ H b = some (.own a)) → h.get? b = some u → h'.get? b = some u)
    (ho : ∀ b, H b = some (.own a) → H' b = some (.own a)) (ht : ∀ b xs, H b = some (.tup xs) → H' b = some (.tup xs)) : ObjOk P w H' h' a o := by
  induction o with
  | lst xs => obtain ⟨z, its, n, r, e⟩ := x; exact ⟨z, its, n, r, k _ _ (.inl rfl) e⟩
  | tup xs => obtain ⟨z, its, r, ob, e, c⟩ := x; exact ⟨z, its, r, ob, k _ _ (.inl rfl) e, c⟩
  | dK kvs => obtain ⟨z, y, vs, r, ob, es, ep, e, c⟩ := x; exact ⟨z, y, vs, r, ob, es, ep, k _ _ (.inl rfl) e, c⟩
  | dT kvs =>
    obtain ⟨z, y, xs, r, ob, es, ep, e, c⟩ := x
    exact ⟨z, y, xs, Paired.mapP r fun p q z => ⟨z.1, ht _ _ z.2.1, z.2.2⟩, ob, es, ep, k _ _ (.inl rfl) e, c⟩
  | set S n => obtain ⟨ob, es, ep, t, e, c⟩ := x; exact ⟨ob, es, ep, t, k _ _ (.inl rfl) e, c⟩
  | ins C dx fs =>
    obtain ⟨d, z, ne, e, mA, ⟨od, es, ep, e2, c⟩, r⟩ := x
    exact ⟨ho _ d, z, ne, k _ _ (.inl rfl) e, mA, ⟨od, es, ep, k _ _ (.inr d) e2, c⟩, r⟩
  | own y => obtain ⟨ob, e⟩ := x; exact ⟨ob, k _ _ (.inl rfl) e⟩
  | xd fs => obtain ⟨mA, ⟨od, es, ep, e, c⟩, r⟩ := x; exact ⟨mA, ⟨od, es, ep, k _ _ (.inl rfl) e, c⟩, r⟩
  | rng lo hi => obtain ⟨t, u, v, e⟩ := x; exact ⟨t, u, v, k _ _ (.inl rfl) e⟩
  | frz ob u ih => obtain ⟨e, q⟩ := x; exact ⟨k _ _ (.inl rfl) e, ih q⟩
  | tbl ps =>
    have e : h.get? a = some { cls := .none, data := .fields ps } := x
    show h'.get? a = some { cls := .none, data := .fields ps }
    exact k a _ (.inl rfl) e
  | met f y =>
    have e : h.get? a = some (PySem.W.methodObj (.ref f) (.ref y)) := x
    show h'.get? a = some (PySem.W.methodObj (.ref f) (.ref y))
    exact k a _ (.inl rfl) e
  | ext φ => obtain ⟨p, ⟨o, e⟩, st⟩ := x; exact ⟨st _ _ p fun o q => k _ _ (.inl rfl) q, ⟨o, k _ _ (.inl rfl) e⟩, st⟩
theorem HOk.lt (x : HOk P w H h) (e : H a = some o) : a < h.objs.size := (x a o e).lt
theorem HOk.fresh (x : HOk P w H h) (e : h.objs.size ≤ a) : H a = none := by
  cases q : H a with
  | none => rfl
  | some u => exact absurd (Nat.lt_of_lt_of_le (x.lt q) e) (Nat.lt_irrefl _)
/-- every object of the heap is kept -/
theorem HOk.kept (x : HOk P w H h) (k : ∀ b u, h.get? b = some u → h'.get? b = some u) : HOk P w H h' := fun a o e =>
  (x a o e).stay (fun b u _ q => k b u q) (fun _ q => q) fun _ _ q => q
/-- a new object is laid and tracked -/
theorem HOk.laid (x : HOk P w H h) (k : ∀ b u, h.get? b = some u → h'.get? b = some u) (hp : h.objs.size ≤ a) (new : ObjOk P w (upd H a o) h' a o) : HOk P w (upd H a o) h' := fun b u e => by
  have hn := x.fresh hp
  by_cases hb : b = a
  · subst hb; rw [upd_same] at e; cases e; exact new
  · rw [upd_ne hb] at e
    exact (x b u e).stay (fun c v _ q => k c v q) (fun c q => by rw [upd_ne (ne_of_none q hn)]; exact q) fun c xs q => by rw [upd_ne (ne_of_none q hn)]; exact q
end
/-- what may be read as u: it is u, or a known u -/
def Rd (H : Hp) (a : Addr) (u : HO) : Prop := H a = some u ∨ ∃ o, H a = some (.frz o u)
theorem Rd.ok {P : Program} {w : World} {H : Hp} {h : Heap} {a : Addr} {u : HO} (r : Rd H a u) (x : HOk P w H h) : ObjOk P w H h a u := by
  rcases r with r | ⟨o, r⟩
  · exact x a u r
  · obtain ⟨_, q⟩ := x a _ r
    exact q
/-- what may be written -/
def Mut : Option HO → Prop
  | some (.lst _) => True
  | some (.dK _) => True
  | some (.dT _) => True
  | some (.set _ _) => True
  | some (.ins _ _ _) => True
  | some (.ext _) => True
  | _ => False
section
variable {P : Program} {w : World} {H : Hp} {h h' : Heap} {x e : Addr} {o' : HO}
/-- the object at e is changed: x itself, or the dict of the instance x -/
theorem HOk.write (ok : HOk P w H h) (mu : Mut (H x)) (he : e = x ∨ H e = some (.own x)) (k : ∀ b u, b ≠ e → h.get? b = some u → h'.get? b = some u) (heo : ∃ u, h'.get? e = some u)
    (new : ObjOk P w (upd H x o') h' x o') : HOk P w (upd H x o') h' := fun b u q => by
  have nown : ∀ c y, H c = some (.own y) → c ≠ x := fun c y r z => by subst z; rw [r] at mu; exact mu
  have ntup : ∀ c xs, H c = some (.tup xs) → c ≠ x := fun c xs r z => by subst z; rw [r] at mu; exact mu
  by_cases hb : b = x
  · subst hb; rw [upd_same] at q; cases q; exact new
  · rw [upd_ne hb] at q
    by_cases hbe : b = e
    · have q' : H b = some (.own x) := by
        rcases he with z | z
        · exact absurd (hbe.trans z) hb
        · rw [hbe]; exact z
      rw [q] at q'; cases q'
      obtain ⟨v, hv⟩ := heo
      exact ⟨v, by rw [hbe]; exact hv⟩
    · refine (ok b u q).stay (fun c v hc r => k c v ?_ r) (fun c r => by rw [upd_ne (nown c b r)]; exact r) fun c xs r => by rw [upd_ne (ntup c xs r)]; exact r
      rcases hc with rfl | hc
      · exact hbe
      · rintro rfl
        rcases he with z | z
        · exact nown c b hc z
        · rw [hc] at z; cases z; exact hb rfl
end
/-! ### kept unless tracked; of the frames at fs (the callers') the slots may change (an exception that passes writes there); of the records at ex (iterators) nothing is said -/
structure Un (fs ex : List Addr) (H H' : Hp) (h h' : Heap) : Prop where
  keep : ∀ b o, h.get? b = some o → H b = none → b ∉ fs → b ∉ ex → h'.get? b = some o
  slot : ∀ b o, h.get? b = some o → H b = none → b ∈ fs → b ∉ ex → ∃ sl, h'.get? b = some { o with slots := sl }
  free : ∀ b o, h.get? b = some o → H b = none → b ∉ ex → H' b = none
  there : ∀ b o, h.get? b = some o → b ∉ ex → ∃ o', h'.get? b = some o'
  tups : ∀ b xs, H b = some (.tup xs) → H' b = some (.tup xs)
  frzs : ∀ b o u, H b = some (.frz o u) → H' b = some (.frz o u)
  tbls : ∀ b ps, H b = some (.tbl ps) → ∃ more, H' b = some (.tbl (ps ++ more))
section
variable {fs fs' ex ex' : List Addr} {H H1 H2 : Hp} {h h1 h2 h' : Heap} {a x e : Addr} {o : HO}
theorem Un.any (u : Un fs ex H H1 h h1) {b : Addr} {ob : Obj} (q : h.get? b = some ob) (n : H b = none) (hx : b ∉ ex) : ∃ sl, h1.get? b = some { ob with slots := sl } := by
  by_cases hb : b ∈ fs
  · exact u.slot b ob q n hb hx
  · exact ⟨ob.slots, u.keep b ob q n hb hx⟩
theorem Un.kept (k : ∀ b u, h.get? b = some u → h'.get? b = some u) : Un fs ex H H h h' :=
  ⟨fun b ob q _ _ _ => k b ob q, fun b ob q _ _ _ => ⟨ob.slots, k b ob q⟩, fun _ _ _ n _ => n, fun b ob q _ => ⟨ob, k b ob q⟩, fun _ _ q => q, fun _ _ _ q => q, fun _ ps q => ⟨#[], by rw [q]; simp⟩⟩
theorem Un.refl : Un fs ex H H h h := Un.kept fun _ _ q => q
theorem Un.laid (k : ∀ b u, h.get? b = some u → h'.get? b = some u) (hp : h.objs.size ≤ a) (hn : H a = none) : Un fs ex H (upd H a o) h h' where
  keep := fun b u q _ _ _ => k b u q
  slot := fun b u q _ _ _ => ⟨u.slots, k b u q⟩
  free := fun b u q n _ => by rw [upd_ne (Nat.ne_of_lt (Nat.lt_of_lt_of_le (Heap.lt_size q) hp))]; exact n
  there := fun b u q _ => ⟨u, k b u q⟩
  tups := fun b xs q => by rw [upd_ne (ne_of_none q hn)]; exact q
  frzs := fun b u xs q => by rw [upd_ne (ne_of_none q hn)]; exact q
  tbls := fun b ps q => ⟨#[], by rw [upd_ne (ne_of_none q hn), q]; simp⟩
theorem Un.write (mu : Mut (H x)) (he : e = x ∨ H e = some (.own x)) (k : ∀ b u, b ≠ e → h.get? b = some u → h'.get? b = some u) (heo : ∃ u, h'.get? e = some u) : Un fs ex H (upd H x o) h h' := by
  have hx : ∀ b, H b = none → b ≠ x := fun b n z => by subst z; rw [n] at mu; exact mu
  have hb : ∀ b, H b = none → b ≠ e := fun b n z => by
    subst z
    rcases he with r | r
    · exact hx b n r
    · rw [n] at r; cases r
  have hm : ∀ b u, H b = some u → ¬ Mut (some u) → b ≠ x := fun b u q nm z => by subst z; rw [q] at mu; exact nm mu
  refine ⟨fun b u q n _ _ => k b u (hb b n) q, fun b u q n _ _ => ⟨u.slots, k b u (hb b n) q⟩, fun b u q n _ => by rw [upd_ne (hx b n)]; exact n, fun b u q _ => ?_,
    fun b xs q => by rw [upd_ne (hm b _ q fun z => z)]; exact q, fun b u xs q => by rw [upd_ne (hm b _ q fun z => z)]; exact q, fun b ps q => ⟨#[], by rw [upd_ne (hm b _ q fun z => z), q]; simp⟩⟩
  by_cases hbe : b = e
  · subst hbe; exact heo
  · exact ⟨u, k b u hbe q⟩
end
/-! ### the heap without what is tracked -/
def trk (h : Heap) (H : Hp) : List Addr := (List.range h.objs.size).filter fun a => (H a).isSome
def hidT (h : Heap) (H : Hp) : Heap := PySem.W.hideAll h (trk h H)
theorem hidT_size (h : Heap) (H : Hp) : (hidT h H).objs.size = h.objs.size := PySem.W.hideAll_size _ _
theorem hidT_get {h : Heap} {H : Hp} {b : Addr} {o : Obj} (e : h.get? b = some o) (n : H b = none) : (hidT h H).get? b = some o :=
  PySem.W.hideAll_get _ e fun hm => by
    have q : (H b).isSome = true := (List.mem_filter.mp hm).2
    rw [n] at q; simp at q
theorem of_hidT {h : Heap} {H : Hp} {b : Addr} {o : Obj} (e : (hidT h H).get? b = some o) : h.get? b = some o ∧ H b = none := by
  have e' : h.get? b = some o := PySem.W.of_hideAll (trk h H) e
  refine ⟨e', ?_⟩
  cases q : H b with
  | none => rfl
  | some x =>
    have hm : b ∈ trk h H := List.mem_filter.mpr ⟨List.mem_range.mpr (Heap.lt_size e'), by simp [q]⟩
    have z : (hidT h H).get? b = none := PySem.W.hideAll_none (trk h H) hm
    rw [z] at e; cases e
/-! ### OpenK's ledger, filled with every new object but one -/
def allNews (g h : Heap) (L : Addr) : List (Addr × Obj) := (List.range h.objs.size).filterMap fun a => if a = L ∨ (g.get? a).isSome = true then none else (h.get? a).map fun o => (a, o)
def rest (g h : Heap) (L d : Addr) : List (Addr × Obj) := (allNews g h L).filter fun p => decide (p.1 ≠ d)
end L2
namespace L2
open PySem PySem.Spec PyProof.Rows
/-- the module's facts, over the base: the heap at the law's entry without what is tracked there -/
structure Mod (K : PySem.W.Frag) (mg : Str → Option Value) (base : Heap) : Prop where
  kin : K.In base
  glob : base.Ns mainGlobals mg
  blt : ∃ mb, base.Ns builtinsNs mb ∧ ∀ x : Str, x ≠ "__name__" → mb x = bootBuiltins x
  nolimit : base.NoLimit
/-- the context: a def's body (or a comprehension's block) running. base: fixed through the whole law; s₀, H₀: the entry; outer: the frames whose slots others may change (a def's callers); stack: all frames that run;
   ex: iterators that were made ahead of the entry and are walked here (a comprehension's); fn: the names whose cells were made at the entry (a def: all; a comprehension's block: its own); calm: not within an except suite; pn: pins that every state bears; xe: what is wanted of an exception that leaves the code -/
structure Cx where
  prog : Program
  w : World
  K : PySem.W.Frag
  mg : Str → Option Value
  base : Heap
  A : Around
  N : List Str
  s₀ : Shared
  H₀ : Hp
  env : Env
  outer : List Env
  stack : List Env
  ex : List Addr
  fn : Str → Bool
  calm : Bool
  pn : List (Addr × Obj)
  xe : Value → Shared → Prop
/-- the callers' frames -/
def frs (l : List Env) : List Addr := l.filterMap (·.frame)
abbrev Cx.fs (X : Cx) : List Addr := frs X.outer
def Vis (sc : Scope) (x : Str) : Prop := sc.names.lookup x = some .local ∨ sc.names.lookup x = some .cell ∨ sc.names.lookup x = some .free
def Loc (sc : Scope) (x : Str) : Prop := sc.names.lookup x = some .local ∨ sc.names.lookup x = some .cell
def Look (env : Env) (h : Heap) (m : Str → Option Value) (x : Str) (u : Value) : Prop :=
  (env.kindOf x = some .local ∧ m x = some u) ∨ ((env.kindOf x = some .cell ∨ env.kindOf x = some .free) ∧ ∃ c, env.cells.lookup x = some c ∧ h.IsCell c (some u))
structure Cx.Ok (X : Cx) : Prop where
  mod : Mod X.K X.mg X.base
  kind : X.env.scope.kind = .function
  glob : X.env.globals = mainGlobals
  blt : X.env.builtins = builtinsNs
  above : X.s₀.heap.objs.size ≤ X.env.locals
  inj : ∀ x y c, X.env.cells.lookup x = some c → X.env.cells.lookup y = some c → x = y
  has : ∀ x, (X.env.kindOf x = some .cell ∨ X.env.kindOf x = some .free) → ∃ c, X.env.cells.lookup x = some c
  cab : ∀ x c, X.fn x = true → X.env.cells.lookup x = some c → X.s₀.heap.objs.size ≤ c
  hd : X.calm = true → X.A.handled = none
  frames : X.A.frames = some X.stack
  stk : X.stack = X.outer ∨ (X.stack = X.env :: X.outer ∧ X.env.frame = some X.env.locals)
  exf : ∀ b ∈ X.ex, b ≠ X.env.locals ∧ ∀ x c, X.env.cells.lookup x = some c → c ≠ b
  bs : ∀ b o, X.base.get? b = some o → X.s₀.heap.get? b = some o ∧ X.H₀ b = none
  bsz : X.base.objs.size ≤ X.s₀.heap.objs.size
  noex : ∀ b o, X.base.get? b = some o → b ∉ X.ex
  exfs : ∀ b ∈ X.ex, b ∉ X.fs
  funs : X.s₀.heap.FunFrames X.base X.outer
  frf : ∀ b ∈ X.fs, X.H₀ b = none
structure Inv (X : Cx) (pins : List (Addr × Obj)) (σ : List (Option V)) (H : Hp) (s : Shared) : Prop where
  ok : X.Ok
  os : s.os = X.s₀.os
  bare : AllBare s.gens
  base : Un X.fs X.ex X.H₀ H X.s₀.heap s.heap
  loc : ∃ m, s.heap.Ns X.env.locals m ∧ ∀ (i : Nat) (x : Str) (v : V), X.N[i]? = some x → σ[i]? = some (some v) → Vis X.env.scope x → ∃ u, RelV v u ∧ Look X.env s.heap m x u
  cell : ∀ x c, X.env.cells.lookup x = some c → ∃ v, s.heap.IsCell c v
  free : H X.env.locals = none
  freeC : ∀ x c, X.env.cells.lookup x = some c → H c = none
  pin : ∀ p ∈ X.pn ++ pins, s.heap.get? p.1 = some p.2 ∧ H p.1 = none ∧ p.1 ≠ X.env.locals ∧ p.1 ∉ X.fs ∧ ∀ v, p.2.data ≠ .cell v
  hok : HOk X.prog X.w H s.heap
  len : σ.length = X.N.length
section
variable {X : Cx} {pins : List (Addr × Obj)} {σ : List (Option V)} {H H' : Hp} {s : Shared} {h' : Heap}
theorem Cx.Ok.nofr (ok : X.Ok) {b : Addr} {o : Obj} (e : X.base.get? b = some o) : b ∉ X.fs := fun hb => by
  have := (ok.funs.mem hb).1
  rw [e] at this; cases this
theorem Inv.bs (I : Inv X pins σ H s) : ∀ b o, X.base.get? b = some o → s.heap.get? b = some o ∧ H b = none := fun b o e =>
  ⟨I.base.keep b o (I.ok.bs b o e).1 (I.ok.bs b o e).2 (I.ok.nofr e) (I.ok.noex b o e), I.base.free b o (I.ok.bs b o e).1 (I.ok.bs b o e).2 (I.ok.noex b o e)⟩
theorem Inv.bk (I : Inv X pins σ H s) : ∀ b o, X.base.get? b = some o → s.heap.get? b = some o := fun b o e => (I.bs b o e).1
theorem Inv.mod (I : Inv X pins σ H s) : Mod X.K X.mg X.base := I.ok.mod
theorem Inv.kIn (I : Inv X pins σ H s) : X.K.In s.heap := I.ok.mod.kin.keeps I.bk
theorem Inv.lt (I : Inv X pins σ H s) : X.env.locals < s.heap.objs.size := let ⟨_, hn, _⟩ := I.loc; hn.lt
theorem Inv.sz (I : Inv X pins σ H s) : X.s₀.heap.objs.size ≤ s.heap.objs.size := Nat.le_trans I.ok.above (Nat.le_of_lt I.lt)
theorem Inv.nofs (I : Inv X pins σ H s) {a : Addr} (h : s.heap.objs.size ≤ a) : a ∉ X.fs := fun hb => by
  obtain ⟨_, o, ho, _⟩ := I.ok.funs.mem hb
  exact absurd (Nat.lt_of_lt_of_le (Heap.lt_size ho) (Nat.le_trans I.sz h)) (Nat.lt_irrefl _)
theorem Inv.cne (I : Inv X pins σ H s) : ∀ x c, X.env.cells.lookup x = some c → c ≠ X.env.locals := fun x c e z => by
  obtain ⟨v, o, ho, hd⟩ := I.cell x c e
  obtain ⟨m, ⟨o', es, ep, ho', hd', _⟩, _⟩ := I.loc
  rw [z, ho'] at ho; cases ho; rw [hd'] at hd; cases hd
theorem Inv.funs (I : Inv X pins σ H s) : s.heap.FunFrames X.base X.outer := by
  have all : ∀ (l : List Env), (∀ b ∈ frs l, b ∈ X.fs) → X.s₀.heap.FunFrames X.base l → s.heap.FunFrames X.base l := by
    intro l
    induction l with
    | nil => intro _ _; trivial
    | cons env r ih =>
      intro hs hl
      obtain ⟨hk, ⟨L, o, hf, hn, ho, hd⟩, hr⟩ := hl
      have hL : L ∈ X.fs := hs L (by unfold frs; rw [List.filterMap_cons, hf]; exact List.mem_cons_self)
      obtain ⟨sl, e⟩ := I.base.slot L o ho (I.ok.frf L hL) hL fun z => I.ok.exfs L z hL
      exact ⟨hk, ⟨L, _, hf, hn, e, hd⟩, ih (fun b hb => hs b (by unfold frs; rw [List.filterMap_cons, hf]; exact List.mem_cons_of_mem _ hb)) hr⟩
  exact all X.outer (fun _ hb => hb) I.ok.funs
/-- the frames that run, for a call -/
theorem Inv.stack (I : Inv X pins σ H s) : s.heap.FunFrames X.base X.stack := by
  rcases I.ok.stk with e | ⟨e, hf⟩
  · rw [e]; exact I.funs
  · rw [e]
    obtain ⟨m, hn, _⟩ := I.loc
    refine .cons (by rw [I.ok.kind]; decide) hf hn ?_ I.funs
    exact Heap.get?_none_of_le (Nat.le_trans I.ok.bsz I.ok.above)
theorem Inv.stkSub (I : Inv X pins σ H s) : ∀ b ∈ frs X.stack, b ∈ X.env.locals :: X.fs := fun b hb => by
  rcases I.ok.stk with e | ⟨e, hf⟩
  · rw [e] at hb; exact List.mem_cons_of_mem _ hb
  · rw [e] at hb
    unfold frs at hb
    rw [List.filterMap_cons, hf] at hb
    exact hb
theorem Inv.stkFree (I : Inv X pins σ H s) : ∀ b ∈ frs X.stack, H b = none := fun b hb => by
  rcases List.mem_cons.mp (I.stkSub b hb) with e | hb
  · rw [e]; exact I.free
  · obtain ⟨_, o, ho, _⟩ := I.ok.funs.mem hb
    exact I.base.free b o ho (I.ok.frf b hb) fun z => I.ok.exfs b z hb
/-- THE STEP: the untracked objects but the frame and the records at ch are kept (the callers' frames up to slots), the frame's map is kept, the new abstract heap is held -/
theorem Inv.step {g' : Array GenState} {t' : Nat} {d' : Drawn} {ch : List Addr} (I : Inv X pins σ H s)
    (hch : ∀ b ∈ ch, (b ∈ X.ex ∨ X.s₀.heap.objs.size ≤ b) ∧ b ≠ X.env.locals ∧ (∀ x c, X.env.cells.lookup x = some c → c ≠ b) ∧ ∀ p ∈ X.pn ++ pins, p.1 ≠ b)
    (keep : ∀ b o, b ≠ X.env.locals → b ∉ X.fs → b ∉ ch → s.heap.get? b = some o → H b = none → h'.get? b = some o)
    (slot : ∀ b o, b ≠ X.env.locals → b ∈ X.fs → b ∉ ch → s.heap.get? b = some o → H b = none → ∃ sl, h'.get? b = some { o with slots := sl }) (free : ∀ b o, b ∉ ch → s.heap.get? b = some o → H b = none → H' b = none)
    (there : ∀ b o, b ∉ ch → s.heap.get? b = some o → ∃ o', h'.get? b = some o')
    (tups : ∀ b xs, H b = some (.tup xs) → H' b = some (.tup xs)) (frzs : ∀ b o u, H b = some (.frz o u) → H' b = some (.frz o u)) (tbls : ∀ b ps, H b = some (.tbl ps) → ∃ more, H' b = some (.tbl (ps ++ more)))
    (ns : ∀ m, s.heap.Ns X.env.locals m → h'.Ns X.env.locals m) (hok : HOk X.prog X.w H' h') (hg : AllBare g') :
    Inv X pins σ H' { s with heap := h', gens := g', drawn := d', toks := t' } := by
  have neL : ∀ b o, X.s₀.heap.get? b = some o → b ≠ X.env.locals := fun b o e => Nat.ne_of_lt (Nat.lt_of_lt_of_le (Heap.lt_size e) I.ok.above)
  have neC : ∀ b o, X.s₀.heap.get? b = some o → b ∉ X.ex → b ∉ ch := fun b o e hx hb => by
    rcases (hch b hb).1 with z | z
    · exact hx z
    · exact absurd (Nat.lt_of_lt_of_le (Heap.lt_size e) z) (Nat.lt_irrefl _)
  have cellK : ∀ x c, X.env.cells.lookup x = some c → ∀ v, s.heap.IsCell c v → h'.IsCell c v := fun x c e v ⟨o, ho, hd⟩ => by
    have nch : c ∉ ch := fun z => (hch c z).2.2.1 x c e rfl
    by_cases hc : c ∈ X.fs
    · obtain ⟨sl, q⟩ := slot c o (I.cne x c e) hc nch ho (I.freeC x c e)
      exact ⟨_, q, hd⟩
    · exact ⟨o, keep c o (I.cne x c e) hc nch ho (I.freeC x c e), hd⟩
  refine ⟨I.ok, I.os, hg, ⟨fun b o e n hb hx => ?_, fun b o e n hb hx => ?_, fun b o e n hx => ?_, fun b o e hx => ?_, fun b xs e => tups b xs (I.base.tups b xs e), fun b o xs e => frzs b o xs (I.base.frzs b o xs e), fun b ps e => ?_⟩, ?_, fun x c e => ?_, ?_, fun x c e => ?_, fun p hp => ?_, hok, I.len⟩
  · exact keep b o (neL b o e) hb (neC b o e hx) (I.base.keep b o e n hb hx) (I.base.free b o e n hx)
  · obtain ⟨sl, e1⟩ := I.base.slot b o e n hb hx
    obtain ⟨sl', e2⟩ := slot b _ (neL b o e) hb (neC b o e hx) e1 (I.base.free b o e n hx)
    exact ⟨sl', e2⟩
  · obtain ⟨o', e1⟩ := I.base.there b o e hx
    exact free b o' (neC b o e hx) e1 (I.base.free b o e n hx)
  · obtain ⟨o', e1⟩ := I.base.there b o e hx
    exact there b o' (neC b o e hx) e1
  · obtain ⟨m1, e1⟩ := I.base.tbls b ps e
    obtain ⟨m2, e2⟩ := tbls b _ e1
    exact ⟨m1 ++ m2, by rw [e2, Array.append_assoc]⟩
  · obtain ⟨m, hn, hl⟩ := I.loc
    refine ⟨m, ns m hn, fun i x v e1 e2 e3 => ?_⟩
    obtain ⟨u, r, l⟩ := hl i x v e1 e2 e3
    refine ⟨u, r, ?_⟩
    rcases l with l | ⟨k, c, e, z⟩
    · exact .inl l
    · exact .inr ⟨k, c, e, cellK x c e _ z⟩
  · obtain ⟨v, z⟩ := I.cell x c e
    exact ⟨v, cellK x c e v z⟩
  · obtain ⟨m, ⟨o, _, _, ho, _⟩, _⟩ := I.loc
    exact free _ o (fun z => (hch _ z).2.1 rfl) ho I.free
  · obtain ⟨v, o, ho, hd⟩ := I.cell x c e
    exact free c o (fun z => (hch c z).2.2.1 x c e rfl) ho (I.freeC x c e)
  · obtain ⟨e, n, ne, nf, d⟩ := I.pin p hp
    have nch : p.1 ∉ ch := fun z => (hch p.1 z).2.2.2 p hp rfl
    exact ⟨keep p.1 p.2 ne nf nch e n, free p.1 p.2 nch e n, ne, nf, d⟩
/-- .. where the frame's own object is kept too -/
theorem Inv.un {t' : Nat} (I : Inv X pins σ H s) (u : Un X.fs [] H H' s.heap h') (hok : HOk X.prog X.w H' h') : Inv X pins σ H' { s with heap := h', toks := t' } := by
  obtain ⟨m, ⟨o, es, ep, ho, r⟩, _⟩ := id I.loc
  obtain ⟨sl, hL⟩ := u.any ho I.free (by simp)
  exact I.step (g' := s.gens) (d' := s.drawn) (ch := []) (fun _ z => nomatch z) (fun b o _ hb _ e n => u.keep b o e n hb (by simp)) (fun b o _ hb _ e n => u.slot b o e n hb (by simp)) (fun b o _ e n => u.free b o e n (by simp)) (fun b o _ e => u.there b o e (by simp)) u.tups u.frzs u.tbls (fun m' hm => by
    obtain ⟨o', es', ep', ho', r'⟩ := hm
    rw [ho] at ho'; cases ho'
    exact ⟨_, es', ep', hL, r'⟩) hok I.bare
/-- behind a call (or a comprehension's block): the slots of this frame may have changed too, the records at ch may have turned -/
theorem Inv.call {g' : Array GenState} {t' : Nat} {d' : Drawn} {ch : List Addr} (I : Inv X pins σ H s) (u : Un (frs X.stack) ch H H' s.heap h') (hok : HOk X.prog X.w H' h') (hg : AllBare g')
    (hch : ∀ b ∈ ch, (b ∈ X.ex ∨ X.s₀.heap.objs.size ≤ b) ∧ b ≠ X.env.locals ∧ (∀ x c, X.env.cells.lookup x = some c → c ≠ b) ∧ ∀ p ∈ X.pn ++ pins, p.1 ≠ b) :
    Inv X pins σ H' { s with heap := h', gens := g', drawn := d', toks := t' } := by
  obtain ⟨m, ⟨o, es, ep, ho, r⟩, _⟩ := id I.loc
  obtain ⟨sl, hL⟩ := u.any ho I.free fun z => (hch _ z).2.1 rfl
  exact I.step (ch := ch) hch (fun b o hL hb hc e n => u.keep b o e n (fun z => (List.mem_cons.mp (I.stkSub b z)).elim hL hb) hc) (fun b o _ _ hc e n => u.any e n hc) (fun b o hc e n => u.free b o e n hc) (fun b o hc e => u.there b o e hc) u.tups u.frzs u.tbls (fun m' hm => by
    obtain ⟨o', es', ep', ho', r'⟩ := hm
    rw [ho] at ho'; cases ho'
    exact ⟨_, es', ep', hL, r'⟩) hok hg
/-- an untracked record of ours (an iterator) has turned -/
theorem Inv.turned {t' : Nat} {it : Addr} (I : Inv X pins σ H s) (k : ∀ b o, b ≠ it → s.heap.get? b = some o → h'.get? b = some o) (hn : H it = none) (hL : it ≠ X.env.locals)
    (h1 : it ∈ X.ex ∨ X.s₀.heap.objs.size ≤ it) (h2 : ∀ x c, X.env.cells.lookup x = some c → c ≠ it) (h3 : ∀ p ∈ X.pn ++ pins, p.1 ≠ it) : Inv X pins σ H { s with heap := h', toks := t' } := by
  have nit : ∀ b u, H b = some u → b ≠ it := fun b u e z => by rw [z, hn] at e; cases e
  refine I.step (g' := s.gens) (d' := s.drawn) (ch := [it]) (fun b hb => ?_) (fun b o _ _ hc e _ => k b o (fun z => hc (by simp [z])) e) (fun b o _ _ hc e _ => ⟨o.slots, k b o (fun z => hc (by simp [z])) e⟩) (fun _ _ _ _ n => n)
    (fun b o hc e => ⟨o, k b o (fun z => hc (by simp [z])) e⟩) (fun _ _ e => e) (fun _ _ _ e => e) (fun b ps e => ⟨#[], by rw [e]; simp⟩) (fun m hm => ?_) (fun b u e => ?_) I.bare
  · have e : b = it := by simpa using hb
    subst e
    exact ⟨h1, hL, h2, h3⟩
  · obtain ⟨o, es, ep, ho, r⟩ := hm
    exact ⟨o, es, ep, k _ o (Ne.symm hL) ho, r⟩
  · refine (I.hok b u e).stay (fun c v hc q => k c v ?_ q) (fun _ q => q) fun _ _ q => q
    rcases hc with z | z
    · rw [z]; exact nit b u e
    · exact nit c _ z
theorem Inv.tok (I : Inv X pins σ H s) (t : Nat) : Inv X pins σ H { s with toks := t } := I.un (h' := s.heap) (t' := t) Un.refl I.hok
/-- all objects kept -/
theorem Inv.kept {t' : Nat} (I : Inv X pins σ H s) (k : ∀ b u, s.heap.get? b = some u → h'.get? b = some u) : Inv X pins σ H { s with heap := h', toks := t' } := I.un (Un.kept k) (I.hok.kept k)
/-- a new object laid and tracked -/
theorem Inv.laid {a : Addr} {o : HO} {t' : Nat} (I : Inv X pins σ H s) (k : ∀ b u, s.heap.get? b = some u → h'.get? b = some u) (hp : s.heap.objs.size ≤ a) (new : ObjOk X.prog X.w (upd H a o) h' a o) :
    Inv X pins σ (upd H a o) { s with heap := h', toks := t' } := I.un (Un.laid k hp (I.hok.fresh hp)) (I.hok.laid k hp new)
/-- an object written -/
theorem Inv.write {x e : Addr} {o : HO} {t' : Nat} (I : Inv X pins σ H s) (mu : Mut (H x)) (he : e = x ∨ H e = some (.own x)) (k : ∀ b u, b ≠ e → s.heap.get? b = some u → h'.get? b = some u) (heo : ∃ u, h'.get? e = some u)
    (new : ObjOk X.prog X.w (upd H x o) h' x o) : Inv X pins σ (upd H x o) { s with heap := h', toks := t' } := I.un (Un.write mu he k heo) (I.hok.write mu he k heo new)
/-- forgetting slots, pins -/
theorem Inv.weak {σ' : List (Option V)} (I : Inv X pins σ H s) (hl : σ'.length = σ.length) (w : ∀ (i : Nat) v, σ'[i]? = some (some v) → σ[i]? = some (some v)) : Inv X pins σ' H s :=
  ⟨I.ok, I.os, I.bare, I.base, let ⟨m, hn, hl'⟩ := I.loc; ⟨m, hn, fun i x v e1 e2 e3 => hl' i x v e1 (w i v e2) e3⟩, I.cell, I.free, I.freeC, I.pin, I.hok, hl.trans I.len⟩
theorem Inv.pins_of {pins' : List (Addr × Obj)} (I : Inv X pins σ H s) (h : ∀ p ∈ pins', s.heap.get? p.1 = some p.2 ∧ H p.1 = none ∧ p.1 ≠ X.env.locals ∧ p.1 ∉ X.fs ∧ ∀ v, p.2.data ≠ .cell v) : Inv X pins' σ H s :=
  ⟨I.ok, I.os, I.bare, I.base, I.loc, I.cell, I.free, I.freeC, fun p hp => (List.mem_append.mp hp).elim (fun z => I.pin p (List.mem_append_left _ z)) (h p), I.hok, I.len⟩
theorem nodup_ix {N : List Str} (hN : N.Nodup) {i j : Nat} {x : Str} (a : N[i]? = some x) (b : N[j]? = some x) : i = j := by
  obtain ⟨h1, e1⟩ := List.getElem?_eq_some_iff.mp a
  obtain ⟨h2, e2⟩ := List.getElem?_eq_some_iff.mp b
  exact (List.getElem_inj hN).mp (e1.trans e2.symm)
/-- a name is stored; what changed -/
theorem store_ok2 {M : Model} {A : Around} {E : Value → Shared → Prop} {i : Nat} {x : Str} {v : V} {u : Value} {Q : Unit → Shared → Prop} (I : Inv X pins σ H s) (hN : X.N.Nodup) (hi : X.N[i]? = some x) (hx : Loc X.env.scope x) (r : RelV v u)
    (h : ∀ s', Inv X pins (σ.set i (some v)) H s' → (∃ a, Heap.SameBut a s.heap s'.heap ∧ (a = X.env.locals ∨ X.env.cells.lookup x = some a)) → Q () s') (hf : X.fn x = true ∨ X.env.scope.names.lookup x = some .local := by first | exact .inl rfl | exact .inr rfl | assumption) : wpAny M A (storeName X.env x u) Q E s := by
  obtain ⟨m, hn, hl⟩ := id I.loc
  have hcls : (X.env.scope.kind == .class || (X.env.scope.kind == .module && X.env.locals != X.env.globals)) = false := by rw [I.ok.kind]; rfl
  have hiσ : i < σ.length := by rw [I.len]; exact (List.getElem?_eq_some_iff.mp hi).1
  have cne := I.cne
  have tracked : ∀ {a : Addr} {h' : Heap}, (∃ o, s.heap.get? a = some o ∧ H a = none) → Heap.SameBut a s.heap h' → HOk X.prog X.w H h' := fun {a h'} ha hs b ob e => by
    obtain ⟨_, _, hfree⟩ := ha
    refine (I.hok b ob e).stay (fun c w' hc q => (hs.2 c ?_).trans q) (fun _ q => q) fun _ _ q => q
    rintro rfl
    rcases hc with rfl | hc
    · rw [hfree] at e; cases e
    · rw [hfree] at hc; cases hc
  rcases hx with hk | hk
  · refine wpAny_storeName_local hk hn (fun h' hn' hs => ?_) hcls
    obtain ⟨oL, _, _, hoL, _⟩ := id hn
    refine h _ ⟨I.ok, I.os, I.bare, ⟨fun b o e n hb hx => ?_, fun b o e n hb hx => ?_, I.base.free, fun b o e hx => ?_, I.base.tups, I.base.frzs, I.base.tbls⟩, ⟨_, hn', fun j y v' e1 e2 e3 => ?_⟩, fun y c e => ?_, I.free, I.freeC, fun p hp => ?_, tracked ⟨oL, hoL, I.free⟩ hs, by simpa using I.len⟩ ⟨_, hs, .inl rfl⟩
    · exact (hs.2 b (Nat.ne_of_lt (Nat.lt_of_lt_of_le (Heap.lt_size e) I.ok.above))).trans (I.base.keep b o e n hb hx)
    · obtain ⟨sl, e1⟩ := I.base.slot b o e n hb hx
      exact ⟨sl, (hs.2 b (Nat.ne_of_lt (Nat.lt_of_lt_of_le (Heap.lt_size e) I.ok.above))).trans e1⟩
    · obtain ⟨o', e1⟩ := I.base.there b o e hx
      exact ⟨o', (hs.2 b (Nat.ne_of_lt (Nat.lt_of_lt_of_le (Heap.lt_size e) I.ok.above))).trans e1⟩
    · by_cases hj : j = i
      · subst hj
        rw [hi] at e1; cases e1
        rw [List.getElem?_set_self hiσ] at e2
        cases e2
        exact ⟨u, r, .inl ⟨hk, by simp⟩⟩
      · rw [List.getElem?_set_ne (Ne.symm hj)] at e2
        obtain ⟨u', r', q⟩ := hl j y v' e1 e2 e3
        refine ⟨u', r', ?_⟩
        rcases q with ⟨k, e⟩ | ⟨k, c, e, z⟩
        · refine .inl ⟨k, ?_⟩
          have : y ≠ x := fun e => hj (nodup_ix hN e1 (e ▸ hi))
          simp [this, e]
        · exact .inr ⟨k, c, e, z.sameBut hs (cne y c e)⟩
    · obtain ⟨w', z⟩ := I.cell y c e
      exact ⟨w', z.sameBut hs (cne y c e)⟩
    · obtain ⟨e, n, ne, nf, d⟩ := I.pin p hp
      exact ⟨(hs.2 p.1 ne).trans e, n, ne, nf, d⟩
  · have hfn : X.fn x = true := by
      rcases hf with z | z
      · exact z
      · rw [z] at hk; cases hk
    obtain ⟨c, hc⟩ := I.ok.has x (.inl hk)
    obtain ⟨w', z⟩ := I.cell x c hc
    refine wpAny_storeName_cell I.ok.kind hk hc z (fun h' hc' hs => ?_)
    obtain ⟨oc, hoc, hocd⟩ := id z
    refine h { s with heap := h' } ⟨I.ok, I.os, I.bare, ⟨fun b o e n hb hx => ?_, fun b o e n hb hx => ?_, I.base.free, fun b o e hx => ?_, I.base.tups, I.base.frzs, I.base.tbls⟩, ⟨m, hn.sameBut hs (Ne.symm (cne x c hc)), fun j y v' e1 e2 e3 => ?_⟩, fun y c' e => ?_, I.free, I.freeC, fun p hp => ?_, tracked ⟨oc, hoc, I.freeC x c hc⟩ hs, by simpa using I.len⟩ ⟨c, hs, .inr hc⟩
    · exact (hs.2 b (Nat.ne_of_lt (Nat.lt_of_lt_of_le (Heap.lt_size e) (I.ok.cab x c hfn hc)))).trans (I.base.keep b o e n hb hx)
    · obtain ⟨sl, e1⟩ := I.base.slot b o e n hb hx
      exact ⟨sl, (hs.2 b (Nat.ne_of_lt (Nat.lt_of_lt_of_le (Heap.lt_size e) (I.ok.cab x c hfn hc)))).trans e1⟩
    · obtain ⟨o', e1⟩ := I.base.there b o e hx
      exact ⟨o', (hs.2 b (Nat.ne_of_lt (Nat.lt_of_lt_of_le (Heap.lt_size e) (I.ok.cab x c hfn hc)))).trans e1⟩
    · by_cases hj : j = i
      · subst hj
        rw [hi] at e1; cases e1
        rw [List.getElem?_set_self hiσ] at e2
        cases e2
        exact ⟨u, r, .inr ⟨.inl hk, c, hc, hc'⟩⟩
      · rw [List.getElem?_set_ne (Ne.symm hj)] at e2
        obtain ⟨u', r', q⟩ := hl j y v' e1 e2 e3
        refine ⟨u', r', ?_⟩
        rcases q with q | ⟨k, c', e, z'⟩
        · exact .inl q
        · refine .inr ⟨k, c', e, z'.sameBut hs ?_⟩
          rintro rfl
          exact hj (nodup_ix hN e1 (I.ok.inj _ _ _ e hc ▸ hi))
    · by_cases hcc : c' = c
      · subst hcc; exact ⟨_, hc'⟩
      · obtain ⟨w2, z2⟩ := I.cell y c' e
        exact ⟨w2, z2.sameBut hs hcc⟩
    · obtain ⟨e, n, ne, nf, d⟩ := I.pin p hp
      refine ⟨(hs.2 p.1 ?_).trans e, n, ne, nf, d⟩
      intro q
      rw [q, hoc] at e
      have q' : oc = p.2 := Option.some.inj e
      exact d w' (by rw [← q']; exact hocd)
theorem store_ok {M : Model} {A : Around} {E : Value → Shared → Prop} {i : Nat} {x : Str} {v : V} {u : Value} {Q : Unit → Shared → Prop} (I : Inv X pins σ H s) (hN : X.N.Nodup) (hi : X.N[i]? = some x) (hx : Loc X.env.scope x) (r : RelV v u)
    (h : ∀ s', Inv X pins (σ.set i (some v)) H s' → Q () s') (hf : X.fn x = true ∨ X.env.scope.names.lookup x = some .local := by first | exact .inl rfl | exact .inr rfl | assumption) : wpAny M A (storeName X.env x u) Q E s :=
  store_ok2 I hN hi hx r (fun s' I' _ => h s' I') hf
/-- behind a call or a block, the state as it is -/
theorem Inv.call' {s' : Shared} {ch : List Addr} (I : Inv X pins σ H s) (ho : s'.os = s.os) (u : Un (frs X.stack) ch H H' s.heap s'.heap) (hok : HOk X.prog X.w H' s'.heap) (hg : AllBare s'.gens)
    (hch : ∀ b ∈ ch, (b ∈ X.ex ∨ X.s₀.heap.objs.size ≤ b) ∧ b ≠ X.env.locals ∧ (∀ x c, X.env.cells.lookup x = some c → c ≠ b) ∧ ∀ p ∈ X.pn ++ pins, p.1 ≠ b) : Inv X pins σ H' s' := by
  obtain ⟨h', g', d', t', o'⟩ := s'
  have e : o' = s.os := ho
  subst e
  exact I.call (g' := g') (t' := t') (d' := d') u hok hg hch
end
/-! ### the judgements -/
/-- an exception: its class, its own dict's address (where it has one), the abstract heap behind it -/
abbrev XK := Value → Option Addr → Hp → Prop
abbrev St := List (Option V)
abbrev VK := V → Hp → Prop
/-- an expression's reading; a test's; an argument list's -/
abbrev TE := St → Hp → VK → Prop
abbrev TT := St → Hp → (Bool → Hp → Prop) → Prop
abbrev TA := St → Hp → (List V → Hp → Prop) → Prop
/-- what is wanted behind a statement -/
structure Ends where
  nx : St → Hp → Prop
  rt : VK
  bk : St → Hp → Prop := fun _ _ => False
  ct : St → Hp → Prop := fun _ _ => False
abbrev TS := Ends → St → Hp → Prop
def EP (X : Cx) (pins : List (Addr × Obj)) (σ : St) (Q : VK) (u : Value) (s' : Shared) : Prop := ∃ v H', Inv X pins σ H' s' ∧ RelV v u ∧ Q v H'
def TP (X : Cx) (pins : List (Addr × Obj)) (σ : St) (Q : Bool → Hp → Prop) (b : Bool) (s' : Shared) : Prop := ∃ H', Inv X pins σ H' s' ∧ Q b H'
def AP (X : Cx) (pins : List (Addr × Obj)) (σ : St) (Q : List V → Hp → Prop) (us : List Value) (s' : Shared) : Prop := ∃ vs H', Inv X pins σ H' s' ∧ Vals vs us ∧ Q vs H'
def SP (X : Cx) (pins : List (Addr × Obj)) (D : Ends) (f : Flow) (s' : Shared) : Prop :=
  match f with
  | .next => ∃ σ' H', Inv X pins σ' H' s' ∧ D.nx σ' H'
  | .brk => ∃ σ' H', Inv X pins σ' H' s' ∧ D.bk σ' H'
  | .cont => ∃ σ' H', Inv X pins σ' H' s' ∧ D.ct σ' H'
  | .ret u => ∃ v σ' H', Inv X pins σ' H' s' ∧ RelV v u ∧ D.rt v H'
def PE (X : Cx) (e : Expr) (t : TE) : Prop :=
  ∀ (pins : List (Addr × Obj)) (s : Shared) (σ : St) (H : Hp) (Q : VK), Inv X pins σ H s → t σ H Q → wpAny (model X.prog X.w) X.A (eval e X.env) (EP X pins σ Q) X.xe s
def PT (X : Cx) (e : Expr) (t : TT) : Prop :=
  ∀ (pins : List (Addr × Obj)) (s : Shared) (σ : St) (H : Hp) (Q : Bool → Hp → Prop), Inv X pins σ H s → t σ H Q → wpAny (model X.prog X.w) X.A (isTrue e X.env (eval e X.env)) (TP X pins σ Q) X.xe s
/-- a test whatever its 'whole' is (and, or) -/
def PW (X : Cx) (e : Expr) (t : TT) : Prop :=
  ∀ (whole : Sem Value) (pins : List (Addr × Obj)) (s : Shared) (σ : St) (H : Hp) (Q : Bool → Hp → Prop), Inv X pins σ H s → t σ H Q → wpAny (model X.prog X.w) X.A (isTrue e X.env whole) (TP X pins σ Q) X.xe s
theorem PW.pt {X : Cx} {e : Expr} {t : TT} (h : PW X e t) : PT X e t := h _
/-- an argument list (no star), from the left -/
def PA (X : Cx) (es : List Expr) (t : TA) : Prop :=
  ∀ (pos : Pos) (pins : List (Addr × Obj)) (s : Shared) (σ : St) (H : Hp) (Q : List V → Hp → Prop), Inv X pins σ H s → t σ H Q → wpAny (model X.prog X.w) X.A (spliced (backTo pos (starEach es X.env))) (AP X pins σ Q) X.xe s
def PS (X : Cx) (st : Stmt) (t : TS) : Prop :=
  ∀ (pins : List (Addr × Obj)) (s : Shared) (σ : St) (H : Hp) (D : Ends), Inv X pins σ H s → t D σ H → wpAny (model X.prog X.w) X.A (exec st X.env) (SP X pins D) X.xe s
def PSs (X : Cx) (st : List Stmt) (t : TS) : Prop :=
  ∀ (pins : List (Addr × Obj)) (s : Shared) (σ : St) (H : Hp) (D : Ends), Inv X pins σ H s → t D σ H → wpAny (model X.prog X.w) X.A (execs st X.env) (SP X pins D) X.xe s
/-- weaken the end -/
theorem thn {α : Type} {t : Sem α} {Q Q' : α → Shared → Prop} {M : Model} {A : Around} {E : Value → Shared → Prop} {s : Shared} (h : wpAny M A t Q E s) (hQ : ∀ a s, Q a s → Q' a s) : wpAny M A t Q' E s := wpAny_mono h hQ fun _ _ x => x
end L2
namespace L2
open PySem PySem.Spec PyProof.Rows
section
variable {X : Cx}
/-! ### names and constants -/
def tVar (i : Nat) : TE := fun σ H Q => ∃ v, σ[i]? = some (some v) ∧ Q v H
def tC (v : V) : TE := fun _ H Q => Q v H
theorem pe_var {i : Nat} {x : Str} {pos : Pos} (hN : X.N[i]? = some x) (hv : Vis X.env.scope x) (hd : (x == ("__debug__" : Str)) = false := by decide) (hcd : (x == ("__classdict__" : Str)) = false := by decide) : PE X (.Name x pos) (tVar i) := by
  intro pins s σ H Q I h
  obtain ⟨v, e, h⟩ := h
  obtain ⟨m, hn, hl⟩ := I.loc
  obtain ⟨u, r, l⟩ := hl i x v hN e hv
  have fin : EP X pins σ Q u s := ⟨v, H, I, r, h⟩
  rcases l with ⟨hk, hm⟩ | ⟨hk, c, hc, hcell⟩
  · exact wpAny_Name (wpAny_loadName_local I.ok.kind hk hn hm fin) hd
  · rcases hk with hk | hk
    · exact wpAny_Name (wpAny_loadName_cell I.ok.kind hk hc hcell fin) hd
    · exact wpAny_Name (wpAny_loadName_free I.ok.kind hk hc hcell fin hcd) hd
theorem pe_int {i j pos} : PE X (.Constant (.int i) j pos) (tC (.int i)) := fun _ _ _ H _ I h => wpAny_Constant_int ⟨.int i, H, I.tok _, ⟨_, rfl⟩, h⟩
theorem pe_bl {b j pos} : PE X (.Constant (.bool b) j pos) (tC (.bl b)) := fun _ _ _ H _ I h => Constant_bool ⟨.bl b, H, I, rfl, h⟩
theorem pe_non {j pos} : PE X (.Constant .none j pos) (tC .non) := fun _ _ _ H _ I h => Constant_none ⟨.non, H, I, rfl, h⟩
theorem pe_str {x j pos} : PE X (.Constant (.str x) j pos) (tC (.str x)) := fun _ _ _ H _ I h => Calls.Constant_str ⟨.str x, H, I.tok _, ⟨_, rfl⟩, h⟩
/-- a global name of the def -/
def Gl (X : Cx) (x : Str) : Prop := X.env.kindOf x = some .globalImplicit
theorem ld_glob {E : Value → Shared → Prop} {pins : List (Addr × Obj)} {s : Shared} {σ : St} {H : Hp} {x : Str} {u : Value} {pos : Pos} {Q : Value → Shared → Prop} (I : Inv X pins σ H s) (hg : Gl X x) (hm : X.mg x = some u) (h : Q u s)
    (hd : (x == ("__debug__" : Str)) = false := by decide) : wpAny (model X.prog X.w) X.A (eval (.Name x pos) X.env) Q E s :=
  Calls.Name_function_global I.ok.kind hg (Calls.loadGlobal_global (by rw [I.ok.glob]; exact I.mod.glob.keeps I.bk) hm h) hd
theorem ld_blt {E : Value → Shared → Prop} {pins : List (Addr × Obj)} {s : Shared} {σ : St} {H : Hp} {x : Str} {u : Value} {pos : Pos} {Q : Value → Shared → Prop} (I : Inv X pins σ H s) (hg : Gl X x) (hm : X.mg x = none) (hv : bootBuiltins x = some u) (h : Q u s)
    (hn : x ≠ "__name__" := by decide) (hd : (x == ("__debug__" : Str)) = false := by decide) : wpAny (model X.prog X.w) X.A (eval (.Name x pos) X.env) Q E s := by
  obtain ⟨mb, h1, h2⟩ := I.mod.blt
  exact Calls.Name_function_global I.ok.kind hg (Calls.loadGlobal_builtin (by rw [I.ok.glob]; exact I.mod.glob.keeps I.bk) hm (by rw [I.ok.blt]; exact h1.keeps I.bk) ((h2 x hn).trans hv) h) hd
/-- a module's constant, a class, a function, as a value -/
theorem pe_glob {x : Str} {v : V} {u : Value} {pos : Pos} (hg : Gl X x) (hm : X.mg x = some u) (r : RelV v u) (hd : (x == ("__debug__" : Str)) = false := by decide) : PE X (.Name x pos) (tC v) :=
  fun _ _ _ H _ I h => ld_glob I hg hm ⟨v, H, I, r, h⟩ hd
theorem pe_bltn {x : Str} {v : V} {u : Value} {pos : Pos} (hg : Gl X x) (hm : X.mg x = none) (hv : bootBuiltins x = some u) (r : RelV v u) (hn : x ≠ "__name__" := by decide) (hd : (x == ("__debug__" : Str)) = false := by decide) : PE X (.Name x pos) (tC v) :=
  fun _ _ _ H _ I h => ld_blt I hg hm hv ⟨v, H, I, r, h⟩ hn hd
/-! ### arithmetic -/
variable {a b : Expr} {ta tb : TE} {pos : Pos}
/-! ### comparisons -/
/-- a comparison as a value, as a test -/
def tB (t : TE) : TT := fun σ H Q => t σ H fun x H1 => ∃ c, x = .bl c ∧ Q c H1
/-- an expression whose value is a bool, as a test -/
theorem pt_val {e : Expr} {t : TE} (h : PE X e t) (he : ∀ whole, isTrue e X.env whole = (do let v ← whole; standAt e.pos; holding [v] (truthy v)) := by intro _; rfl) : PT X e (tB t) := by
  intro pins s σ H Q I hw
  refine isTrue_plain (thn (h pins s σ H _ I hw) fun v s1 ⟨x, H1, I1, r1, q1⟩ => ?_) (he _)
  obtain ⟨d, rfl, q⟩ := q1
  cases r1
  exact wpAny_truthy_bool ⟨H1, I1, q⟩
/-! ### and, or, not -/
variable {tA tB' : TT} {rest : List Expr}
def tAnd (t u : TT) : TT := fun σ H Q => t σ H fun c H1 => if c = true then u σ H1 Q else Q false H1
def tOr (t u : TT) : TT := fun σ H Q => t σ H fun c H1 => if c = true then Q true H1 else u σ H1 Q
def tNot (t : TT) : TT := fun σ H Q => t σ H fun c H1 => Q (!c) H1
theorem pw_and1 (ha : PT X a tA) : PW X (.BoolOp .And [a] pos) tA := by
  intro wh pins s σ H Q I h
  refine isTrue_and (thn (ha pins s σ H Q I h) fun c s1 e => ?_)
  cases c with
  | true => exact isTrue_and_nil e
  | false => exact e
theorem pw_or1 (ha : PT X a tA) : PW X (.BoolOp .Or [a] pos) tA := by
  intro wh pins s σ H Q I h
  refine isTrue_or (thn (ha pins s σ H Q I h) fun c s1 e => ?_)
  cases c with
  | false => exact isTrue_or_nil e
  | true => exact e
theorem pw_and (ha : PT X a tA) (hb : PW X (.BoolOp .And (b :: rest) pos) tB') : PW X (.BoolOp .And (a :: b :: rest) pos) (tAnd tA tB') := by
  intro wh pins s σ H Q I h
  refine isTrue_and (thn (ha pins s σ H _ I h) fun c s1 ⟨H1, I1, q1⟩ => ?_)
  cases c with
  | true => exact hb wh pins s1 σ H1 Q I1 q1
  | false => exact ⟨H1, I1, q1⟩
theorem pw_or (ha : PT X a tA) (hb : PW X (.BoolOp .Or (b :: rest) pos) tB') : PW X (.BoolOp .Or (a :: b :: rest) pos) (tOr tA tB') := by
  intro wh pins s σ H Q I h
  refine isTrue_or (thn (ha pins s σ H _ I h) fun c s1 ⟨H1, I1, q1⟩ => ?_)
  cases c with
  | true => exact ⟨H1, I1, q1⟩
  | false => exact hb wh pins s1 σ H1 Q I1 q1
theorem pt_not (ha : PT X a tA) : PT X (.UnaryOp .Not a pos) (tNot tA) := by
  intro pins s σ H Q I h
  exact isTrue_not (ha pins s σ H (fun c H1 => Q (!c) H1) I h)
/-- .. as values (bools) -/
def tAndV (ta tb : TE) : TE := fun σ H Q => ta σ H fun x H1 => ∃ c, x = .bl c ∧ if c = true then tb σ H1 Q else Q (.bl false) H1
def tNotV (ta : TE) : TE := fun σ H Q => ta σ H fun x H1 => ∃ c, x = .bl c ∧ Q (.bl (!c)) H1
theorem pe_one {op} {t : TE} (h : PE X a t) : PE X (.BoolOp op [a] pos) t := fun pins s σ H Q I hw => BoolOp_one (h pins s σ H Q I hw)
theorem pe_and (ha : PE X a ta) (hb : PE X (.BoolOp .And (b :: rest) pos) tb) : PE X (.BoolOp .And (a :: b :: rest) pos) (tAndV ta tb) := by
  intro pins s σ H Q I h
  refine BoolOp_and (thn (ha pins s σ H _ I h) fun v s1 ⟨x, H1, I1, r1, q1⟩ => ?_)
  obtain ⟨c, rfl, q1⟩ := q1
  cases r1
  refine wpAny_truthy_bool ?_
  cases c with
  | true => exact hb pins s1 σ H1 Q I1 q1
  | false => exact ⟨.bl false, H1, I1, rfl, q1⟩
theorem pe_not (ha : PE X a ta) : PE X (.UnaryOp .Not a pos) (tNotV ta) := by
  intro pins s σ H Q I h
  refine UnaryOp_ (thn (ha pins s σ H _ I h) fun v s1 ⟨x, H1, I1, r1, q1⟩ => ?_)
  obtain ⟨c, rfl, q1⟩ := q1
  cases r1
  exact not_of (wpAny_truthy_bool ⟨.bl (!c), H1, I1, rfl, q1⟩)
end
end L2
namespace L2
open PySem PySem.Spec PyProof.Rows
/-! ### a list, a tuple that is read: tracked, frozen, or an object of the module -/
def SqL (K : PySem.W.Frag) (H : Hp) (a : Addr) (xs : List V) : Prop :=
  Rd H a (.lst xs) ∨
    ∃ (o : Obj) (its : Array Value) (n : Nat), K.lookup a = some o ∧ o.cls = .type "list" ∧ o.dict = none ∧ o.data = .seq its n ∧ its.size ≤ sizeLine ∧ Vals xs its.toList
def SqT (K : PySem.W.Frag) (H : Hp) (a : Addr) (xs : List V) : Prop :=
  Rd H a (.tup xs) ∨
    ∃ (o : Obj) (its : Array Value) (n : Nat), K.lookup a = some o ∧ o.cls = .type "tuple" ∧ o.data = .seq its n ∧ its.size ≤ sizeLine ∧ Vals xs its.toList
def absV : Value → Option V
  | .none => some .non
  | .bool b => some (.bl b)
  | .int i _ => some (.int i)
  | .str x _ => some (.str x)
  | .bytes b _ => some (.byt b)
  | .float b _ => some (.flt b)
  | .ref a => some (.ref a)
  | .type n => some (.ty n)
  | _ => none
theorem RelV.abs {x : V} {u : Value} (r : RelV x u) : absV u = some x := by
  cases x with
  | non => cases r; rfl
  | bl _ => cases r; rfl
  | int _ => obtain ⟨t, rfl⟩ := r; rfl
  | str _ => obtain ⟨t, rfl⟩ := r; rfl
  | byt _ => obtain ⟨t, rfl⟩ := r; rfl
  | flt _ => obtain ⟨t, rfl⟩ := r; rfl
  | ref _ => cases r; rfl
  | ty _ => cases r; rfl
theorem RelV.inj {x y : V} {u : Value} (r : RelV x u) (q : RelV y u) : x = y := Option.some.inj (r.abs.symm.trans q.abs)
theorem Vals.inj : ∀ {xs ys : List V} {us : List Value}, Vals xs us → Vals ys us → xs = ys
  | _, _, _, .nil, .nil => rfl
  | _, _, _, .cons r t, .cons r' t' => by rw [r.inj r', Vals.inj t t']
section
variable {X : Cx} {pins : List (Addr × Obj)} {σ : St} {H : Hp} {s : Shared} {a : Addr} {xs ys : List V}
theorem SqL.of {K : PySem.W.Frag} (h : H a = some (.lst xs)) : SqL K H a xs := .inl (.inl h)
theorem SqT.of {K : PySem.W.Frag} (h : H a = some (.tup xs)) : SqT K H a xs := .inl (.inl h)
theorem Inv.list (I : Inv X pins σ H s) (h : SqL X.K H a xs) : ∃ its : List Value, Vals xs its ∧ PlainL s.heap a its.toArray ∧ xs.length ≤ sizeLine := by
  rcases h with h | ⟨o, its, n, hk, hc, hd, hs, hz, r⟩
  · obtain ⟨z, its, n, r, e⟩ := h.ok I.hok
    exact ⟨its, r, ⟨_, n, e, rfl, rfl, rfl⟩, z⟩
  · refine ⟨its.toList, r, ⟨o, n, I.kIn a o hk, hc, hd, by simpa using hs⟩, ?_⟩
    have e := r.length
    simp only [Array.length_toList] at e
    omega
theorem Inv.tuple (I : Inv X pins σ H s) (h : SqT X.K H a xs) : ∃ its : List Value, Vals xs its ∧ IsTup s.heap a its.toArray ∧ xs.length ≤ sizeLine := by
  rcases h with h | ⟨o, its, n, hk, hc, hs, hz, r⟩
  · obtain ⟨z, its, r, p⟩ := h.ok I.hok
    exact ⟨its, r, p, z⟩
  · refine ⟨its.toList, r, ⟨o, I.kIn a o hk, hc, n, by simpa using hs⟩, ?_⟩
    have e := r.length
    simp only [Array.length_toList] at e
    omega
theorem Inv.list_inj (I : Inv X pins σ H s) (h : SqL X.K H a xs) (h' : SqL X.K H a ys) : xs = ys := by
  obtain ⟨its, r, ⟨o, n, e, _, _, d⟩, _⟩ := I.list h
  obtain ⟨its', r', ⟨o', n', e', _, _, d'⟩, _⟩ := I.list h'
  rw [e] at e'; cases e'
  rw [d] at d'
  injection d' with d1 _
  have : its = its' := by simpa using congrArg Array.toList d1
  subst this
  exact r.inj r'
end
/-! ### another wish about exceptions -/
abbrev Cx.wish (X : Cx) (E : Value → Shared → Prop) : Cx := { X with xe := E }
/-- no exception leaves -/
abbrev Cx.nox (X : Cx) : Cx := X.wish fun _ _ => False
theorem Cx.Ok.wish {X : Cx} (ok : X.Ok) (E : Value → Shared → Prop) : (X.wish E).Ok :=
  ⟨ok.mod, ok.kind, ok.glob, ok.blt, ok.above, ok.inj, ok.has, ok.cab, ok.hd, ok.frames, ok.stk, ok.exf, ok.bs, ok.bsz, ok.noex, ok.exfs, ok.funs, ok.frf⟩
theorem Cx.Ok.unwish {X : Cx} {E : Value → Shared → Prop} (ok : (X.wish E).Ok) : X.Ok :=
  ⟨ok.mod, ok.kind, ok.glob, ok.blt, ok.above, ok.inj, ok.has, ok.cab, ok.hd, ok.frames, ok.stk, ok.exf, ok.bs, ok.bsz, ok.noex, ok.exfs, ok.funs, ok.frf⟩
section
variable {X : Cx} {pins : List (Addr × Obj)} {σ : St} {H : Hp} {s : Shared} {E : Value → Shared → Prop}
theorem Inv.wish (I : Inv X pins σ H s) (E : Value → Shared → Prop) : Inv (X.wish E) pins σ H s := ⟨I.ok.wish E, I.os, I.bare, I.base, I.loc, I.cell, I.free, I.freeC, I.pin, I.hok, I.len⟩
theorem Inv.unwish (I : Inv (X.wish E) pins σ H s) : Inv X pins σ H s := ⟨I.ok.unwish, I.os, I.bare, I.base, I.loc, I.cell, I.free, I.freeC, I.pin, I.hok, I.len⟩
theorem SP.unwish {D : Ends} {f : Flow} {s' : Shared} (h : SP (X.wish E) pins D f s') : SP X pins D f s' := by
  cases f with
  | next => obtain ⟨σ', H', I, q⟩ := h; exact ⟨σ', H', I.unwish, q⟩
  | brk => obtain ⟨σ', H', I, q⟩ := h; exact ⟨σ', H', I.unwish, q⟩
  | cont => obtain ⟨σ', H', I, q⟩ := h; exact ⟨σ', H', I.unwish, q⟩
  | ret u => obtain ⟨v, σ', H', I, r, q⟩ := h; exact ⟨v, σ', H', I.unwish, r, q⟩
theorem PSs.nox {st : List Stmt} {t : TS} (h : PSs X.nox st t) : PSs X st t := fun pins s σ H D I hw =>
  wpAny_mono (h pins s σ H D (I.wish _) hw) (fun _ _ q => q.unwish) fun _ _ z => False.elim z
end
/-! ### blocks and small statements -/
section
variable {X : Cx} {st : Stmt} {rest : List Stmt} {t u : TS} {e : Expr} {te : TE} {pos : Pos}
def tNext : TS := fun D σ H => D.nx σ H
def tSeq (t u : TS) : TS := fun D σ H => t { D with nx := u D } σ H
theorem pss_nil : PSs X [] tNext := fun _ _ σ H _ I h => wpAny_execs_nil ⟨σ, H, I, h⟩
theorem pss_cons (h1 : PS X st t) (h2 : PSs X rest u) : PSs X (st :: rest) (tSeq t u) := by
  intro pins s σ H D I h
  refine wpAny_execs_cons (thn (h1 pins s σ H { D with nx := u D } I h) fun f s1 q => ?_)
  cases f with
  | next =>
    obtain ⟨σ', H', I', q⟩ := q
    exact h2 pins s1 σ' H' D I' q
  | ret v => exact q
  | brk => exact q
  | cont => exact q
theorem pss_one (h1 : PS X st t) : PSs X [st] t := by
  intro pins s σ H D I h
  refine wpAny_execs_cons (thn (h1 pins s σ H D I h) fun f s1 q => ?_)
  cases f with
  | next => exact wpAny_execs_nil q
  | ret v => exact q
  | brk => exact q
  | cont => exact q
/-- in a def's body nothing is shown -/
theorem Inv.quiet {pins : List (Addr × Obj)} {σ : St} {H : Hp} {s : Shared} (I : Inv X pins σ H s) : interactive X.env = false := by simp [interactive, I.ok.kind]
/-- an expression whose value is dropped -/
def tDrop (te : TE) : TS := fun D σ H => te σ H fun _ H1 => D.nx σ H1
theorem ps_expr (he : PE X e te) (hs : swapsWith e none pos.line X.env = pure false := by rfl) : PS X (.Expr e pos) (tDrop te) := by
  intro pins s σ H D I h
  exact wpAny_Expr_any (thn (he pins s σ H _ I h) fun v s1 ⟨x, H1, I1, r1, q1⟩ => ⟨σ, H1, I1, q1⟩) I.quiet hs
def tRet (te : TE) : TS := fun D σ H => te σ H D.rt
theorem ps_ret (he : PE X e te) : PS X (.Return (some e) pos) (tRet te) := by
  intro pins s σ H D I h
  exact wpAny_Return_some (thn (he pins s σ H _ I h) fun v s1 ⟨x, H1, I1, r1, q1⟩ => ⟨x, σ, H1, I1, r1, q1⟩)
def tIfS (c : TT) (t u : TS) : TS := fun D σ H => c σ H fun b H1 => if b = true then t D σ H1 else u D σ H1
theorem ps_if {c : Expr} {a b : List Stmt} {tc : TT} (hc : PT X c tc) (ha : PSs X a t) (hb : PSs X b u) : PS X (.If c a b pos) (tIfS tc t u) := by
  intro pins s σ H D I h
  refine wpAny_If (thn (hc pins s σ H _ I h) fun d s1 ⟨H1, I1, q1⟩ => ?_)
  cases d with
  | true => exact ha pins s1 σ H1 D I1 q1
  | false => exact hb pins s1 σ H1 D I1 q1
end
/-! ### targets -/
abbrev TG := V → St → Hp → (St → Hp → Prop) → Prop
abbrev TGs := List V → St → Hp → (St → Hp → Prop) → Prop
def PG (X : Cx) (target : Expr) (t : TG) : Prop :=
  ∀ (pins : List (Addr × Obj)) (s : Shared) (σ : St) (H : Hp) (v : V) (u : Value) (Q : St → Hp → Prop), Inv X pins σ H s → RelV v u → t v σ H Q →
    wpAny (model X.prog X.w) X.A (assign target X.env u) (fun _ s' => ∃ σ' H', Inv X pins σ' H' s' ∧ Q σ' H') X.xe s
/-- several targets, one after another -/
def PGs (X : Cx) (ts : List Expr) (t : TGs) : Prop :=
  ∀ (pins : List (Addr × Obj)) (s : Shared) (σ : St) (H : Hp) (vs : List V) (us : List Value) (Q : St → Hp → Prop), Inv X pins σ H s → Vals vs us → t vs σ H Q →
    wpAny (model X.prog X.w) X.A (assignInOrder ((assignEach ts X.env).map (·.2)) us) (fun _ s' => ∃ σ' H', Inv X pins σ' H' s' ∧ Q σ' H') X.xe s
/-- o[i] = v, by values -/
abbrev TSet := V → V → V → Hp → (Hp → Prop) → Prop
def PSet (X : Cx) (t : TSet) : Prop :=
  ∀ (pins : List (Addr × Obj)) (s : Shared) (σ : St) (H : Hp) (o i v : V) (ov iv u : Value) (Q : Hp → Prop), Inv X pins σ H s → RelV o ov → RelV i iv → RelV v u → t o i v H Q →
    wpAny (model X.prog X.w) X.A (setItem ov iv u) (fun _ s' => ∃ H', Inv X pins σ H' s' ∧ Q H') X.xe s
section
variable {X : Cx} {pos : Pos}
def gName (i : Nat) : TG := fun v σ H Q => Q (σ.set i (some v)) H
theorem pg_name {i : Nat} {x : Str} (hN : X.N.Nodup) (hi : X.N[i]? = some x) (hx : Loc X.env.scope x) (hf : X.fn x = true ∨ X.env.scope.names.lookup x = some .local := by first | exact .inl rfl | exact .inr rfl | assumption) : PG X (.Name x pos) (gName i) := by
  intro pins s σ H v u Q I r h
  exact wpAny_assign_Name (store_ok I hN hi hx r (fun s' I' => ⟨_, H, I', h⟩) hf)
def gNil : TGs := fun vs σ H Q => vs = [] ∧ Q σ H
def gCons (t : TG) (u : TGs) : TGs := fun vs σ H Q => ∃ v r, vs = v :: r ∧ t v σ H fun σ' H' => u r σ' H' Q
theorem pgs_nil : PGs X [] gNil := by
  intro pins s σ H vs us Q I r h
  obtain ⟨e, h⟩ := h
  subst e
  cases r
  exact assignInOrder_nil ⟨σ, H, I, h⟩
theorem pgs_cons {e : Expr} {es : List Expr} {t : TG} {u : TGs} (h1 : PG X e t) (h2 : PGs X es u)
    (hs : (assignEach (e :: es) X.env).map (·.2) = assign e X.env :: (assignEach es X.env).map (·.2) := by rfl) : PGs X (e :: es) (gCons t u) := by
  intro pins s σ H vs us Q I r h
  obtain ⟨v, vr, e1, h⟩ := h
  subst e1
  cases r with
  | cons r rr =>
    rw [hs]
    refine assignInOrder_cons (thn (h1 pins s σ H _ _ _ I r h) fun _ s1 ⟨σ1, H1, I1, q1⟩ => ?_)
    exact h2 pins s1 σ1 H1 _ _ Q I1 rr q1
/-- (a, b, ..) = a tuple of that length -/
def gTup (K : PySem.W.Frag) (n : Nat) (t : TGs) : TG := fun v σ H Q => ∃ a xs, v = .ref a ∧ SqT K H a xs ∧ xs.length = n ∧ t xs σ H Q
theorem pg_tup {es : List Expr} {k : Nat} {t : TGs} {n : Nat} (hc : X.calm = true) (h : PGs X es t)
    (hn : (assignEach es X.env).length = n := by rfl) (hst : (assignEach es X.env).findIdx? (·.1) = none := by rfl) : PG X (.Tuple es k pos) (gTup X.K n t) := by
  intro pins s σ H v u Q I r hw
  obtain ⟨a, xs, e1, hq, hl, hw⟩ := hw
  subst e1
  cases r
  obtain ⟨its, rv, ht, hz⟩ := I.tuple hq
  refine assign_Tuple_tuple (I.ok.hd hc) ht (by simp [hn, ← hl, rv.length]) hst fun h' hx => ?_
  have I1 : Inv X pins σ H { s with heap := h' } := I.kept (t' := s.toks) fun b o e => hx b o (Nat.ne_of_lt (Heap.lt_size e)) e
  exact h pins _ σ H xs _ Q I1 (by simpa using rv) hw
/-- o[i] = .. -/
def gSub (to ti : TE) (t : TSet) : TG := fun v σ H Q => to σ H fun o H1 => ti σ H1 fun i H2 => t o i v H2 fun H3 => Q σ H3
theorem pg_sub {o i : Expr} {to ti : TE} {t : TSet} (ho : PE X o to) (hi : PE X i ti) (hs : PSet X t)
    (ha : ∀ v, assign (.Subscript o i pos) X.env v = (do
      let ov ← holding [v] (eval o X.env)
      let iv ← holding [v, ov] (eval i X.env)
      standAt pos
      holding [v, ov, iv] (setItem ov iv v)
      release [v, ov, iv] []) := by intro _; rfl) : PG X (.Subscript o i pos) (gSub to ti t) := by
  intro pins s σ H v u Q I r h
  rw [ha]
  refine wpAny_bind (wpAny_holding (thn (ho pins s σ H _ I h) fun ov s1 ⟨x, H1, I1, r1, q1⟩ => ?_))
  refine wpAny_bind (wpAny_holding (thn (hi pins s1 σ H1 _ I1 q1) fun iv s2 ⟨y, H2, I2, r2, q2⟩ => ?_))
  refine wpAny_bind (wpAny_standAt (wpAny_bind (wpAny_holding (thn (hs pins s2 σ H2 x y v ov iv u _ I2 r1 r2 r q2) fun _ s3 ⟨H3, I3, q3⟩ => ?_))))
  exact wpAny_release ⟨σ, H3, I3, q3⟩
/-- target = value -/
def tAsg (te : TE) (g : TG) : TS := fun D σ H => te σ H fun x H1 => g x σ H1 D.nx
theorem ps_asg {tg e : Expr} {te : TE} {g : TG} (he : PE X e te) (hg : PG X tg g) (hs : swapsWithSole [tg] e pos.line X.env = pure false := by rfl) (hw : swappedStores [tg] e X.env = pure none := by rfl)
    (h1 : (assignEach [tg] X.env).map (·.2) = [assign tg X.env] := by rfl) : PS X (.Assign [tg] e pos) (tAsg te g) := by
  intro pins s σ H D I h
  refine wpAny_Assign_stores (thn (he pins s σ H _ I h) fun v s1 ⟨x, H1, I1, r1, q1⟩ => ?_) hs hw
  rw [h1]
  exact thn (hg pins s1 σ H1 x v _ I1 r1 q1) fun _ s2 q => q
/-- name = value -/
theorem ps_set {i : Nat} {x : Str} {e : Expr} {te : TE} {pos' : Pos} (hN : X.N.Nodup) (hi : X.N[i]? = some x) (hx : Loc X.env.scope x) (he : PE X e te) (hs : swapsWith e (some (.Name x pos')) pos.line X.env = pure false := by rfl) (hf : X.fn x = true ∨ X.env.scope.names.lookup x = some .local := by first | exact .inl rfl | exact .inr rfl | assumption) :
    PS X (.Assign [.Name x pos'] e pos) (tAsg te (gName i)) := by
  intro pins s σ H D I h
  refine wpAny_Assign_Name (thn (he pins s σ H _ I h) fun v s1 ⟨y, H1, I1, r1, q1⟩ => ?_) hs
  exact store_ok I1 hN hi hx r1 (fun s2 I2 => ⟨_, H1, I2, q1⟩) hf
/-- a, b = x, y with plain local names: stored from the right; the pair itself is not tracked (the opening rows as in PyProof/Rows/TupAssign.lean:23) -/
def tPar (i j : Nat) (ta : TA) : TS := fun D σ H => ta σ H fun vs H1 => ∃ v w, vs = [v, w] ∧ D.nx ((σ.set i (some v)).set j (some w)) H1
theorem ps_par {i j : Nat} {x y : Str} {a b : Expr} {ta : TA} {px py pt : Pos} {kt k2 pt2} (hc : X.calm = true) (hN : X.N.Nodup) (hi : X.N[i]? = some x) (hj : X.N[j]? = some y) (hij : i ≠ j)
    (hx : X.env.scope.names.lookup x = some .local) (hy : X.env.scope.names.lookup y = some .local) (ha : PA X [a, b] ta)
    (hw : swappedStores [.Tuple [.Name x px, .Name y py] kt pt] (.Tuple [a, b] k2 pt2) X.env = pure (some [x, y]))
    (hs : swapsWithSole [.Tuple [.Name x px, .Name y py] kt pt] (.Tuple [a, b] k2 pt2) pos.line X.env = pure false := by rfl) :
    PS X (.Assign [.Tuple [.Name x px, .Name y py] kt pt] (.Tuple [a, b] k2 pt2) pos) (tPar i j ta) := by
  intro pins s σ H D I h
  rw [exec_Assign_arm]
  refine wpAny_bind (wpAny_standAt ?_)
  rw [hs]
  refine wpAny_bind (wpAny_pure ?_)
  rw [if_neg (by decide)]
  refine wpAny_bind (Tuple_ (thn (ha _ pins s σ H _ I h) fun us s1 ⟨vs, H1, I1, r1, q1⟩ => ?_))
  obtain ⟨v, w, e1, q1⟩ := q1
  subst e1
  obtain ⟨u1, u2, rfl, rv, rw'⟩ : ∃ u1 u2, us = [u1, u2] ∧ RelV v u1 ∧ RelV w u2 := by
    cases r1 with
    | cons p q =>
      cases q with
      | cons p' q' =>
        cases q'
        exact ⟨_, _, rfl, p, p'⟩
  refine wpAny_newObj_type ?_ (by show 2 ≤ sizeLine; decide)
  have I2 : Inv X pins σ H1 { s1 with heap := s1.heap.push { cls := .type "tuple", data := .seq [u1, u2].toArray } } := I1.kept (t' := s1.toks) fun b o e => Heap.get?_push_of_some _ e
  rw [hw]
  refine wpAny_bind (wpAny_pure ?_)
  show wpAny (model X.prog X.w) X.A (do rule "assign.swapped-stores"; let items ← unpackItems (.ref s1.heap.objs.size) 2 none; assignInOrder [fun v => bindName X.env y v, fun v => bindName X.env x v] items.reverse; pure Flow.next) _ _ _
  refine wpAny_bind (wpAny_rule (wpAny_bind (unpackItems_tuple (items := #[u1, u2]) (I.ok.hd hc) (IsTup.new s1.heap _) fun h' hx' => ?_)))
  have I3 := I2.kept (h' := h') (t' := s1.toks) fun b o e => hx' b o (Nat.ne_of_lt (Heap.lt_size e)) e
  show wpAny _ _ (assignInOrder [fun v => bindName X.env y v, fun v => bindName X.env x v] [u2, u1] >>= fun _ => pure Flow.next) _ _ _
  refine wpAny_bind (assignInOrder_cons (wpAny_bindName (store_ok I3 hN hj (.inl hy) rw' (fun s2 I4 => ?_) (.inr hy))))
  refine assignInOrder_cons (wpAny_bindName (store_ok I4 hN hi (.inl hx) rv (fun s3 I5 => assignInOrder_nil (wpAny_pure ?_)) (.inr hx)))
  rw [List.set_comm _ _ (Ne.symm hij)] at I5
  exact ⟨_, H1, I5, q1⟩
end
/-! ### while -/
section
variable {X : Cx} {pos : Pos}
/-- the invariant W with its measure -/
def tWhile (c : TT) (tb : TS) : TS := fun D σ H => ∃ W : Nat → St → Hp → Prop, (∃ m, W m σ H) ∧ ∀ m σ H, W m σ H →
  c σ H fun b H1 => if b = true then ∃ N : St → Hp → Prop, (∀ σ' H', N σ' H' → ∃ m', m' < m ∧ W m' σ' H') ∧ tb { D with nx := N, ct := N, bk := D.nx } σ H1 else D.nx σ H1
theorem ps_while {c : Expr} {body : List Stmt} {tc : TT} {tb : TS} (hp : PassesOwn (model X.prog X.w) X.A X.env X.xe) (hc : PT X c tc) (hb : PSs X body tb) : PS X (.While c body [] pos) (tWhile tc tb) := by
  intro pins s σ H D I h
  obtain ⟨W, ⟨m0, w0⟩, turn⟩ := h
  refine wpAny_While (codeAny_whileLoop (fun n s' => ∃ σ' H', Inv X pins σ' H' s' ∧ W n σ' H') ?_ m0 ⟨σ, H, I, w0⟩)
  rintro n s1 ⟨σ1, H1, I1, w1⟩
  refine wpAny_passesOwn hp (thn (hc pins s1 σ1 H1 _ I1 (turn n σ1 H1 w1)) fun b s2 ⟨H2, I2, q2⟩ => ?_)
  cases b with
  | true =>
    obtain ⟨N, hN, q2⟩ := q2
    rw [if_pos rfl]
    refine wpAny_passesOwn hp (thn (hb pins s2 σ1 H2 _ I2 q2) fun f s3 q3 => ?_)
    cases f with
    | next =>
      obtain ⟨σ3, H3, I3, n3⟩ := q3
      obtain ⟨m', hm, w3⟩ := hN σ3 H3 n3
      exact ⟨m', hm, σ3, H3, I3, w3⟩
    | cont =>
      obtain ⟨σ3, H3, I3, n3⟩ := q3
      obtain ⟨m', hm, w3⟩ := hN σ3 H3 n3
      exact ⟨m', hm, σ3, H3, I3, w3⟩
    | brk => exact q3
    | ret v => exact q3
  | false =>
    rw [if_neg Bool.false_ne_true]
    exact wpAny_execs_nil ⟨σ1, H2, I2, q2⟩
end
/-! ### what a loop or a comprehension walks -/
/-- at turn i: it yields x (the heap may grow), or it stops -/
structure It where
  go : Nat → Hp → Prop
  yld : Nat → Hp → V → Hp → Prop
  stop : Nat → Hp → Prop
/-- the iterator's own objects may turn: they are not the frame's, not pinned, younger than the entry (or a comprehension's own) -/
def FpOk (X : Cx) (pins : List (Addr × Obj)) (H : Hp) (b : Addr) : Prop :=
  H b = none ∧ b ≠ X.env.locals ∧ b ∉ X.fs ∧ (b ∈ X.ex ∨ X.s₀.heap.objs.size ≤ b) ∧ (∀ x c, X.env.cells.lookup x = some c → c ≠ b) ∧ ∀ p ∈ X.pn ++ pins, p.1 ≠ b
theorem Inv.fpOk {X : Cx} {pins : List (Addr × Obj)} {σ : St} {H H' : Hp} {s : Shared} {b : Addr} (I : Inv X pins σ H s) (hb : s.heap.objs.size ≤ b) (hn : H' b = none) : FpOk X pins H' b := by
  refine ⟨hn, Nat.ne_of_gt (Nat.lt_of_lt_of_le I.lt hb), I.nofs hb, .inr (Nat.le_trans I.sz hb), fun x c e z => ?_, fun p hp z => ?_⟩
  · obtain ⟨v, q⟩ := I.cell x c e
    exact absurd (Nat.lt_of_lt_of_le q.lt (by rw [z]; exact hb)) (Nat.lt_irrefl _)
  · exact absurd (Nat.lt_of_lt_of_le (Heap.lt_size (I.pin p hp).1) (by rw [z]; exact hb)) (Nat.lt_irrefl _)
structure Turn (P : Program) (w : World) (K : PySem.W.Frag) (tg : Expr) (J : It) (fp : List Addr) (it : Addr) (tn : Nat → Heap → Prop) : Prop where
  mem : it ∈ fp
  obj : ∀ i h, tn i h → ∀ b ∈ fp, ∃ o, h.get? b = some o ∧ ∀ v, o.data ≠ .cell v
  keep : ∀ i h h', tn i h → (∀ b ∈ fp, ∀ o, h.get? b = some o → h'.get? b = some o) → tn i h'
  item : ∀ (X : Cx), X.prog = P → X.w = w → X.K = K → X.calm = true → ∀ (i : Nat) (pins : List (Addr × Obj)) (s : Shared) (σ : St) (H : Hp) (E : Value → Shared → Prop), Inv X pins σ H s → (∀ b ∈ fp, FpOk X pins H b) → tn i s.heap → J.go i H →
    wpAny (model P w) X.A (pyNext (.ref it)) (fun r s1 => ∃ u, r = some u ∧
      wpAny (model P w) X.A (letOwnedTupleGo tg (.ref it) u) (fun _ s2 => ∃ x H', Inv X pins σ H' s2 ∧ RelV x u ∧ J.yld i H x H' ∧ tn (i + 1) s2.heap ∧ ∀ b ∈ fp, H' b = none) E s1) E s
  done : ∀ (X : Cx), X.prog = P → X.w = w → X.K = K → X.calm = true → ∀ (i : Nat) (pins : List (Addr × Obj)) (s : Shared) (σ : St) (H : Hp) (E : Value → Shared → Prop), Inv X pins σ H s → (∀ b ∈ fp, FpOk X pins H b) → tn i s.heap → J.stop i H →
    wpAny (model P w) X.A (pyNext (.ref it)) (fun r s1 => r = none ∧ Inv X pins σ H s1) E s
  self : ∀ (A : Around) (i : Nat) (s : Shared) (Q : Value → Shared → Prop) (E : Value → Shared → Prop), tn i s.heap → Q (.ref it) s → wpAny (model P w) A (pyIter (.ref it)) Q E s
abbrev TI := St → Hp → (It → Hp → Prop) → Prop
/-- an iterator has come -/
def PIE (X : Cx) (pins : List (Addr × Obj)) (σ : St) (tg : Expr) (R : It → Hp → Prop) (itv : Value) (s2 : Shared) : Prop :=
  ∃ (it : Addr) (fp : List Addr) (tn : Nat → Heap → Prop) (J : It) (H' : Hp), itv = .ref it ∧ Inv X pins σ H' s2 ∧ Turn X.prog X.w X.K tg J fp it tn ∧ tn 0 s2.heap ∧ (∀ b ∈ fp, FpOk X pins H' b) ∧ R J H'
def PI (X : Cx) (tg iter : Expr) (wi : TI) : Prop :=
  ∀ (pins : List (Addr × Obj)) (s : Shared) (σ : St) (H : Hp) (R : It → Hp → Prop), Inv X pins σ H s → wi σ H R →
    wpAny (model X.prog X.w) X.A (eval iter X.env) (fun v s1 => wpAny (model X.prog X.w) X.A (pyIter v) (PIE X pins σ tg R) X.xe s1) X.xe s
/-- the step ahead of the store is nothing for an iterator that keeps no tuple -/
theorem go_of {M : Model} {A : Around} {E : Value → Shared → Prop} {s : Shared} {tg : Expr} {it : Addr} {u : Value} {o : Obj} {n : String} {vs : Array Value} {Q : Unit → Shared → Prop} (ho : s.heap.get? it = some o) (hc : o.cls = .type n) (hd : o.data = .fields vs)
    (hn : ["enumerate", "zip", "dict_itemiterator", "dict_reverseitemiterator", "odict_iterator", "itertools.zip_longest", "itertools.pairwise"].contains n = false) (hQ : Q () s) : wpAny M A (letOwnedTupleGo tg (.ref it) u) Q E s := by
  unfold letOwnedTupleGo
  cases tg <;> first
    | exact wpAny_pure hQ
    | (cases u <;> first
        | exact wpAny_pure hQ
        | (refine wpAny_bind (wpAny_load ho ?_)
           rw [hc, hd]
           show wpAny M A (if (["enumerate", "zip", "dict_itemiterator", "dict_reverseitemiterator", "odict_iterator", "itertools.zip_longest", "itertools.pairwise"].contains n && vs[0]? == some (rawInt _)) = true then _ else _) Q E s
           rw [if_neg (by intro h; rw [hn, Bool.false_and] at h; cases h)]
           exact wpAny_pure hQ))
/-- the list at a, as it stands at each turn (a loop may append to it) -/
def Itl (K : PySem.W.Frag) (a : Addr) : It :=
  ⟨fun i H => ∃ xs x, SqL K H a xs ∧ xs[i]? = some x, fun i H x H' => H' = H ∧ ∀ xs, SqL K H a xs → xs[i]? = some x, fun i H => ∃ xs, SqL K H a xs ∧ xs.length ≤ i⟩
/-- lo, lo + 1, .. (n of them) -/
def Itr (lo : Int) (n : Nat) : It := ⟨fun i _ => i < n, fun i H x H' => H' = H ∧ x = .int (lo + i), fun i _ => n ≤ i⟩
theorem turn_list {P : Program} {w : World} {K : PySem.W.Frag} {tg : Expr} (a it : Addr) : Turn P w K tg (Itl K a) [it] it (fun i h => h.IsListIter it a i) where
  mem := by simp
  obj := fun i h st b hb => by
    have e : b = it := by simpa using hb
    subst e
    obtain ⟨o, e, c, d⟩ := st
    exact ⟨o, e, fun v z => by rw [d] at z; cases z⟩
  keep := fun i h h' st k => st.at fun o e => k it (by simp) o e
  item := by
    intro X hP hw hK hc i pins s σ H E I hf st hg
    subst hP hw hK
    obtain ⟨xs, x, hq, hx⟩ := hg
    obtain ⟨its, rv, p, hz⟩ := I.list hq
    obtain ⟨u, hu, ru⟩ := rv.get hx
    obtain ⟨f0, f1, f2, f3, f4, f5⟩ := hf it (by simp)
    refine wpAny_pyNext_list_item st p.isList (x := u) (by simpa using hu) fun h' st' sb => ?_
    have I1 : Inv X pins σ H { s with heap := h' } := I.turned (t' := s.toks) (fun b o hb e => (sb.2 b hb).trans e) f0 f1 f3 f4 f5
    obtain ⟨o, e, c, d⟩ := id st'
    exact ⟨u, rfl, go_of (s := { s with heap := h' }) e c d (by decide) ⟨x, H, I1, ru, ⟨rfl, fun ys hy => by rw [I.list_inj hy hq]; exact hx⟩, st', fun b hb => (hf b hb).1⟩⟩
  done := by
    intro X hP hw hK hc i pins s σ H E I hf st hg
    subst hP hw hK
    obtain ⟨xs, hq, hx⟩ := hg
    obtain ⟨its, rv, p, hz⟩ := I.list hq
    obtain ⟨f0, f1, f2, f3, f4, f5⟩ := hf it (by simp)
    have hl := rv.length
    exact wpAny_pyNext_list_end (I.ok.hd hc) st p.isList (by simp; omega) fun h' eb => ⟨rfl, I.turned (t' := s.toks) (fun b o hb e => eb b o hb e) f0 f1 f3 f4 f5⟩
  self := fun _ _ _ _ _ st h => wpAny_pyIter_listiter st h
theorem turn_range {P : Program} {w : World} {K : PySem.W.Frag} {tg : Expr} (it : Addr) (lo : Int) (n : Nat) : Turn P w K tg (Itr lo n) [it] it (fun i h => IsRangeIter h it (lo + (i : Nat) * 1) ((n : Int) - (i : Nat)) 1) where
  mem := by simp
  obj := fun i h st b hb => by
    have e : b = it := by simpa using hb
    subst e
    exact ⟨_, st, fun v z => by
      have z' : Data.fields _ = Data.cell v := z
      cases z'⟩
  keep := fun i h h' st k => k it (by simp) _ st
  item := by
    intro X hP hw hK hc i pins s σ H E I hf st hg
    subst hP hw hK
    obtain ⟨f0, f1, f2, f3, f4, f5⟩ := hf it (by simp)
    have W := Walks.range (prog := X.prog) (w := X.w) (I.ok.hd hc) it lo 1 n
    refine W.item i s _ _ hg st fun v h' tk hv st' kk => ?_
    obtain ⟨t, rfl⟩ := hv
    have I1 : Inv X pins σ H { s with heap := h', toks := tk } := I.turned (fun b o hb e => kk b o (by simpa using hb) e) f0 f1 f3 f4 f5
    refine ⟨_, rfl, go_of (s := { s with heap := h', toks := tk }) (n := "range_iterator") st' rfl rfl (by decide) ⟨.int (lo + i), H, I1, ⟨t, ?_⟩, ⟨rfl, rfl⟩, st', fun b hb => (hf b hb).1⟩⟩
    rw [Int.mul_one]
  done := by
    intro X hP hw hK hc i pins s σ H E I hf st hg
    subst hP hw hK
    obtain ⟨f0, f1, f2, f3, f4, f5⟩ := hf it (by simp)
    exact wpAny_pyNext_range_end (I.ok.hd hc) st (by have : n ≤ i := hg; omega) fun h' eb => ⟨rfl, I.turned (t' := s.toks) (fun b o hb e => eb b o hb e) f0 f1 f3 f4 f5⟩
  self := fun _ _ _ _ _ st h => wpAny_pyIter_rangeiter st h
end L2
namespace L2
open PySem PySem.Spec PyProof.Rows
section
variable {X : Cx} {tg : Expr}
def iList (K : PySem.W.Frag) (tl : TE) : TI := fun σ H R => tl σ H fun x H1 => ∃ a, x = .ref a ∧ (∃ xs, SqL K H1 a xs) ∧ R (Itl K a) H1
theorem pi_list {l : Expr} {tl : TE} (hl : PE X l tl) : PI X tg l (iList X.K tl) := by
  intro pins s σ H R I h
  refine thn (hl pins s σ H _ I h) fun v s1 ⟨x, H1, I1, r1, q1⟩ => ?_
  obtain ⟨a, e, ⟨xs, hq⟩, q⟩ := q1
  subst e
  cases r1
  obtain ⟨its, rv, p, hz⟩ := I1.list hq
  refine wpAny_pyIter_list p.isList ?_
  refine ⟨s1.heap.objs.size, [s1.heap.objs.size], _, _, H1, rfl, I1.kept (t' := s1.toks) fun b o e => Heap.get?_push_of_some _ e, turn_list a _, ⟨_, Heap.get?_push_size _ rfl, rfl, rfl⟩, fun b hb => ?_, q⟩
  have e : b = s1.heap.objs.size := by simpa using hb
  subst e
  exact I1.fpOk (Nat.le_refl _) (I1.hok.fresh (Nat.le_refl _))
/-- a range object just made, walked -/
theorem range_it {pins : List (Addr × Obj)} {σ : St} {H : Hp} {s : Shared} {R : It → Hp → Prop} {E : Value → Shared → Prop} {lo hi : Int} {t u v : Tok} {tk : Nat} (I : Inv X pins σ H s) (h1 : -(2 ^ 62) ≤ lo) (h2 : lo < 2 ^ 62) (h3 : -(2 ^ 62) ≤ hi) (h4 : hi < 2 ^ 62)
    (q : R (Itr lo (hi - lo).toNat) H) : wpAny (model X.prog X.w) X.A (pyIter (.ref s.heap.objs.size)) (PIE X pins σ tg R) E { s with heap := s.heap.push { cls := .type "range", data := .fields #[.int lo t, .int hi u, .int 1 v] }, toks := tk } := by
  refine wpAny_pyIter_range (IsRange.new ..) (small_one h1 h2 h3 h4) ?_
  have I1 : Inv X pins σ H { s with heap := s.heap.push { cls := .type "range", data := .fields #[.int lo t, .int hi u, .int 1 v] }, toks := tk } := I.kept fun b o e => Heap.get?_push_of_some _ e
  refine ⟨(s.heap.push { cls := .type "range", data := .fields #[.int lo t, .int hi u, .int 1 v] }).objs.size, [(s.heap.push { cls := .type "range", data := .fields #[.int lo t, .int hi u, .int 1 v] }).objs.size], _, _, H, rfl,
    I1.kept (t' := tk) fun b o e => Heap.get?_push_of_some _ e, turn_range _ lo (hi - lo).toNat, ?_, fun b hb => ?_, q⟩
  · have e1 : lo + ((0 : Nat) : Int) * 1 = lo := by simp
    have e2 : (((hi - lo).toNat : Nat) : Int) - ((0 : Nat) : Int) = Builtin.Range.rangeSize lo hi 1 := by rw [rangeSize_one]; split <;> omega
    show IsRangeIter _ _ (lo + ((0 : Nat) : Int) * 1) ((((hi - lo).toNat : Nat) : Int) - ((0 : Nat) : Int)) 1
    rw [e1, e2]
    exact Heap.get?_push_size _ rfl
  · have e : b = (s.heap.push { cls := .type "range", data := .fields #[.int lo t, .int hi u, .int 1 v] }).objs.size := by simpa using hb
    subst e
    exact I1.fpOk (Nat.le_refl _) (I1.hok.fresh (Nat.le_refl _))
def iRng1 (ta : TA) : TI := fun σ H R => ta σ H fun vs H1 => ∃ j : Int, vs = [.int j] ∧ -(2 ^ 62) ≤ j ∧ j < 2 ^ 62 ∧ R (Itr 0 j.toNat) H1
def iRng2 (ta : TA) : TI := fun σ H R => ta σ H fun vs H1 => ∃ i j : Int, vs = [.int i, .int j] ∧ (-(2 ^ 62) ≤ i ∧ i < 2 ^ 62 ∧ -(2 ^ 62) ≤ j ∧ j < 2 ^ 62) ∧ R (Itr i (j - i).toNat) H1
theorem pi_range1 {a : Expr} {ta : TA} {p pos : Pos} (hg : Gl X "range") (hm : X.mg "range" = none) (ha : PA X [a] ta) (hs : starEach [a] X.env = [(false, eval a X.env)] := by rfl) : PI X tg (.Call (.Name "range" p) [a] [] pos) (iRng1 ta) := by
  intro pins s σ H R I h
  refine Call_ (ld_blt I hg hm boot_range (PyProof.Rows.callWith_type1 (thn (ha pos pins s σ H _ I h) fun us s1 ⟨vs, H1, I1, r1, q1⟩ => ?_) hs rfl))
  obtain ⟨j, e, q1, q2, q⟩ := q1
  subst e
  cases r1 with
  | cons r rr =>
    cases rr
    obtain ⟨t, rfl⟩ := r
    exact call_range_1 (range_it I1 (by omega) (by omega) q1 q2 (by simpa using q))
theorem pi_range2 {a b : Expr} {ta : TA} {p pos : Pos} (hg : Gl X "range") (hm : X.mg "range" = none) (ha : PA X [a, b] ta) (hs : starEach [a, b] X.env = [(false, eval a X.env), (false, eval b X.env)] := by rfl) (hs2 : starEach [b] X.env = [(false, eval b X.env)] := by rfl) :
    PI X tg (.Call (.Name "range" p) [a, b] [] pos) (iRng2 ta) := by
  intro pins s σ H R I h
  refine Call_ (ld_blt I hg hm boot_range (PyProof.Rows.callWith_type1 (thn (ha pos pins s σ H _ I h) fun us s1 ⟨vs, H1, I1, r1, q1⟩ => ?_) (by rw [hs, hs2]) (by rw [hs2]; rfl)))
  obtain ⟨i, j, e, ⟨q1, q2, q3, q4⟩, q⟩ := q1
  subst e
  cases r1 with
  | cons r rr =>
    cases rr with
    | cons r' rr =>
      cases rr
      obtain ⟨t, rfl⟩ := r
      obtain ⟨t', rfl⟩ := r'
      exact call_range_2 (range_it I1 q1 q2 q3 q4 q)
/-! ### for -/
/-- W: the invariant by the turn and a measure; N: what the body is to reach -/
def tFor (wi : TI) (g : TG) (tb : TS) : TS := fun D σ H => wi σ H fun J H1 => ∃ W : Nat → Nat → St → Hp → Prop, (∃ m, W 0 m σ H1) ∧ ∀ i m σ H, W i m σ H →
  (J.stop i H ∧ D.nx σ H) ∨ (J.go i H ∧ ∃ N : St → Hp → Prop, (∀ σ' H', N σ' H' → ∃ m', m' < m ∧ W (i + 1) m' σ' H') ∧ ∀ x H', J.yld i H x H' → g x σ H' fun σ2 H2 => tb { D with nx := N, ct := N, bk := D.nx } σ2 H2)
/-- the records at fp as they stand -/
def pinsAt (fp : List Addr) (h : Heap) : List (Addr × Obj) := fp.filterMap fun b => (h.get? b).map fun o => (b, o)
theorem mem_pinsAt {fp : List Addr} {h : Heap} {b : Addr} {o : Obj} (hb : b ∈ fp) (e : h.get? b = some o) : (b, o) ∈ pinsAt fp h := List.mem_filterMap.mpr ⟨b, hb, by rw [e]; rfl⟩
theorem of_pinsAt {fp : List Addr} {h : Heap} {p : Addr × Obj} (hp : p ∈ pinsAt fp h) : p.1 ∈ fp ∧ h.get? p.1 = some p.2 := by
  obtain ⟨b, hb, e⟩ := List.mem_filterMap.mp hp
  cases q : h.get? b with
  | none => rw [q] at e; cases e
  | some o =>
    rw [q] at e
    have e' : (b, o) = p := Option.some.inj e
    subst e'
    exact ⟨hb, q⟩
theorem Inv.pinned {pins : List (Addr × Obj)} {σ : St} {H : Hp} {s : Shared} {fp : List Addr} (I : Inv X pins σ H s) (hf : ∀ b ∈ fp, FpOk X pins H b) (ho : ∀ b ∈ fp, ∃ o, s.heap.get? b = some o ∧ ∀ v, o.data ≠ .cell v) : Inv X (pins ++ pinsAt fp s.heap) σ H s :=
  I.pins_of fun p hp => (List.mem_append.mp hp).elim (fun z => I.pin p (List.mem_append_right _ z)) fun z => by
    obtain ⟨hb, e⟩ := of_pinsAt z
    obtain ⟨f0, f1, f2, _⟩ := hf p.1 hb
    obtain ⟨o, e', d⟩ := ho p.1 hb
    rw [e] at e'; cases e'
    exact ⟨e, f0, f1, f2, d⟩
theorem Inv.unpinned {pins pl : List (Addr × Obj)} {σ : St} {H : Hp} {s : Shared} (I : Inv X (pins ++ pl) σ H s) : Inv X pins σ H s := I.pins_of fun p hp => I.pin p (List.mem_append_right _ (List.mem_append_left _ hp))
theorem ps_for {iter : Expr} {body : List Stmt} {wi : TI} {g : TG} {tb : TS} {pos : Pos} (hp : PassesOwn (model X.prog X.w) X.A X.env X.xe) (hc : X.calm = true) (hi : PI X tg iter wi) (hg : PG X tg g) (hb : PSs X body tb)
    (hs : ∀ x, foldedSetIterable iter X.env x = pure x := by intro _; rfl) : PS X (.For tg iter body [] pos) (tFor wi g tb) := by
  intro pins s σ H D I h
  refine wpAny_For (thn (hi pins s σ H _ I h) fun v s1 h1 => thn h1 fun itv s2 h2 => ?_) hs
  obtain ⟨it, fp, tn, J, H2, e, I2, T, st2, f2, W, ⟨m0, w0⟩, turn⟩ := h2
  subst e
  -- what stays true of the iterator's objects through the loop
  have stat : ∀ {H' : Hp}, (∀ b ∈ fp, H' b = none) → ∀ b ∈ fp, FpOk X pins H' b := fun hn b hb => ⟨hn b hb, (f2 b hb).2⟩
  refine codeAny_forLoop_any (fun n s' => ∃ i σ' H', Inv X pins σ' H' s' ∧ tn i s'.heap ∧ (∀ b ∈ fp, H' b = none) ∧ W i n σ' H') ?_ m0 ⟨0, σ, H2, I2, st2, fun b hb => (f2 b hb).1, w0⟩
  rintro n s3 ⟨i, σ3, H3, I3, st3, fr3, w3⟩
  rcases turn i n σ3 H3 w3 with ⟨stop, qn⟩ | ⟨go, N, hN, step⟩
  · refine wpAny_passesOwn hp (thn (T.done X rfl rfl rfl hc i pins s3 σ3 H3 X.xe I3 (stat fr3) st3 stop) fun r s4 ⟨hr, I4⟩ => ?_)
    subst hr
    exact wpAny_execs_nil ⟨σ3, H3, I4, qn⟩
  · refine wpAny_passesOwn hp (thn (T.item X rfl rfl rfl hc i pins s3 σ3 H3 X.xe I3 (stat fr3) st3 go) fun r s4 ⟨u, hr, h4⟩ => ?_)
    subst hr
    refine wpAny_passesOwn hp (thn h4 fun _ s5 ⟨x, H5, I5, r5, y5, st5, fr5⟩ => ?_)
    have I5' := I5.pinned (stat fr5) (T.obj _ _ st5)
    refine wpAny_passesOwn hp (thn (hg _ s5 σ3 H5 x u _ I5' r5 (step x H5 y5)) fun _ s6 ⟨σ6, H6, I6, q6⟩ => ?_)
    refine wpAny_passesOwn hp (thn (hb _ s6 σ6 H6 _ I6 q6) fun f s7 q7 => ?_)
    have again : ∀ {σ7 : St} {H7 : Hp}, Inv X (pins ++ pinsAt fp s5.heap) σ7 H7 s7 → N σ7 H7 → ∃ m, m < n ∧ ∃ i σ' H', Inv X pins σ' H' s7 ∧ tn i s7.heap ∧ (∀ b ∈ fp, H' b = none) ∧ W i m σ' H' := fun {σ7 H7} I7 n7 => by
      obtain ⟨m', hm, w7⟩ := hN σ7 H7 n7
      refine ⟨m', hm, i + 1, σ7, H7, I7.unpinned, T.keep _ _ _ st5 fun b hb o e => (I7.pin (b, o) (List.mem_append_right _ (List.mem_append_right _ (mem_pinsAt hb e)))).1, fun b hb => ?_, w7⟩
      obtain ⟨o, e, d⟩ := T.obj _ _ st5 b hb
      exact (I7.pin (b, o) (List.mem_append_right _ (List.mem_append_right _ (mem_pinsAt hb e)))).2.1
    cases f with
    | next => obtain ⟨σ7, H7, I7, n7⟩ := q7; exact again I7 n7
    | cont => obtain ⟨σ7, H7, I7, n7⟩ := q7; exact again I7 n7
    | brk => obtain ⟨σ7, H7, I7, q7⟩ := q7; exact ⟨σ7, H7, I7.unpinned, q7⟩
    | ret v => obtain ⟨x7, σ7, H7, I7, r7, q7⟩ := q7; exact ⟨x7, σ7, H7, I7.unpinned, r7, q7⟩
end
/-! ### the forms one uses -/
theorem for_range {lo : Int} {n : Nat} {g : TG} {tb : TS} {D : Ends} {σ : St} {H : Hp} (Pv : Nat → St → Hp → Prop) (h0 : Pv 0 σ H)
    (hs : ∀ i σ H, i < n → Pv i σ H → g (.int (lo + i)) σ H fun σ2 H2 => tb { D with nx := Pv (i + 1), ct := Pv (i + 1), bk := D.nx } σ2 H2) (hd : ∀ σ H, Pv n σ H → D.nx σ H) :
    ∃ W : Nat → Nat → St → Hp → Prop, (∃ m, W 0 m σ H) ∧ ∀ i m σ H, W i m σ H →
      ((Itr lo n).stop i H ∧ D.nx σ H) ∨ ((Itr lo n).go i H ∧ ∃ N : St → Hp → Prop, (∀ σ' H', N σ' H' → ∃ m', m' < m ∧ W (i + 1) m' σ' H') ∧ ∀ x H', (Itr lo n).yld i H x H' → g x σ H' fun σ2 H2 => tb { D with nx := N, ct := N, bk := D.nx } σ2 H2) := by
  refine ⟨fun i m σ H => m = n - i ∧ i ≤ n ∧ Pv i σ H, ⟨n, by simp, Nat.zero_le _, h0⟩, ?_⟩
  rintro i m σ H ⟨rfl, hi, p⟩
  by_cases hlt : i < n
  · refine .inr ⟨hlt, Pv (i + 1), fun σ' H' p' => ⟨n - (i + 1), by omega, rfl, hlt, p'⟩, fun x H' y => ?_⟩
    obtain ⟨e, y⟩ := y
    subst e y
    exact hs i σ _ hlt p
  · have e : i = n := by omega
    subst e
    exact .inl ⟨Nat.le_refl _, hd σ H p⟩
end L2
namespace L2
open PySem PySem.Spec PyProof.Rows
abbrev R2 := V → V → Hp → VK → Prop
/-- a two-place operation on values: f is binaryOp op, inplaceOp op or compareOp op -/
def OpR (X : Cx) (f : Value → Value → Sem Value) (r : R2) : Prop :=
  ∀ (pins : List (Addr × Obj)) (s : Shared) (σ : St) (H : Hp) (x y : V) (v u : Value) (Q : VK), Inv X pins σ H s → RelV x v → RelV y u → r x y H Q →
    wpAny (model X.prog X.w) X.A (f v u) (EP X pins σ Q) X.xe s
/-- a one-place operation -/
def UnR (X : Cx) (f : Value → Sem Value) (r : V → Hp → VK → Prop) : Prop :=
  ∀ (pins : List (Addr × Obj)) (s : Shared) (σ : St) (H : Hp) (x : V) (v : Value) (Q : VK), Inv X pins σ H s → RelV x v → r x H Q →
    wpAny (model X.prog X.w) X.A (f v) (EP X pins σ Q) X.xe s
/-- a call of a value that is known (a builtin, a type) with values -/
def CallR (X : Cx) (f : Value) (r : List V → Hp → VK → Prop) : Prop :=
  ∀ (pins : List (Addr × Obj)) (s : Shared) (σ : St) (H : Hp) (xs : List V) (us : List Value) (Q : VK), Inv X pins σ H s → Vals xs us → r xs H Q →
    wpAny (model X.prog X.w) X.A (call f us) (EP X pins σ Q) X.xe s
def tOp (r : R2) (ta tb : TE) : TE := fun σ H Q => ta σ H fun x H1 => tb σ H1 fun y H2 => r x y H2 Q
def tUn (r : V → Hp → VK → Prop) (ta : TE) : TE := fun σ H Q => ta σ H fun x H1 => r x H1 Q
/-- ints in, under C, and a value out -/
def rI (C : Int → Int → Prop) (g : Int → Int → V) : R2 := fun x y H Q => ∃ i j, x = .int i ∧ y = .int j ∧ C i j ∧ Q (g i j) H
def rI0 (g : Int → Int → V) : R2 := fun x y H Q => ∃ i j, x = .int i ∧ y = .int j ∧ Q (g i j) H
def rU (g : Int → V) : V → Hp → VK → Prop := fun x H Q => ∃ i, x = .int i ∧ Q (g i) H
section
variable {X : Cx} {a b c : Expr} {ta tb tc : TE} {pos : Pos}
theorem binT (ha : PE X a ta) (hb : PE X b tb) {pins : List (Addr × Obj)} {s : Shared} {σ : St} {H : Hp} {R : V → V → Hp → Prop} (I : Inv X pins σ H s)
    (h : ta σ H fun x H1 => tb σ H1 fun y H2 => R x y H2) {Q : Value → Shared → Prop} {f : Value → Value → Sem Value}
    (hf : ∀ v u s2 x y H2, Inv X pins σ H2 s2 → RelV x v → RelV y u → R x y H2 → wpAny (model X.prog X.w) X.A (f v u) Q X.xe s2) :
    wpAny (model X.prog X.w) X.A (eval a X.env) (fun v s₁ => wpAny (model X.prog X.w) X.A (eval b X.env) (fun u s₂ => wpAny (model X.prog X.w) X.A (f v u) Q X.xe s₂) X.xe s₁) X.xe s := by
  refine thn (ha pins s σ H _ I h) fun v s1 ⟨x, H1, I1, r1, q1⟩ => ?_
  refine thn (hb pins s1 σ H1 _ I1 q1) fun u s2 ⟨y, H2, I2, r2, q2⟩ => ?_
  exact hf v u s2 x y H2 I2 r1 r2 q2
theorem pe_op {op : Operator} {r : R2} (ho : OpR X (binaryOp op) r) (ha : PE X a ta) (hb : PE X b tb) : PE X (.BinOp a op b pos) (tOp r ta tb) := by
  intro pins s σ H Q I h
  exact wpAny_BinOp (binT ha hb I h fun v u s2 x y H2 I2 rx ry q => ho pins s2 σ H2 x y v u Q I2 rx ry q)
theorem pe_un {op : UnaryOp} {r : V → Hp → VK → Prop} (ho : UnR X (unaryOp op) r) (ha : PE X a ta) : PE X (.UnaryOp op a pos) (tUn r ta) := by
  intro pins s σ H Q I h
  exact UnaryOp_ (thn (ha pins s σ H _ I h) fun v s1 ⟨x, H1, I1, r1, q1⟩ => ho pins s1 σ H1 x v Q I1 r1 q1)
/-! ### ints -/
theorem opI {f : Value → Value → Sem Value} {C : Int → Int → Prop} {g : Int → Int → Int}
    (rule : ∀ (i j : Int) (t u : Tok) (s : Shared) (Q : Value → Shared → Prop) (E : Value → Shared → Prop), C i j → Q (.int (g i j) s.toks) { s with toks := s.toks + 1 } → wpAny (model X.prog X.w) X.A (f (.int i t) (.int j u)) Q E s) :
    OpR X f (rI C fun i j => .int (g i j)) := by
  intro pins s σ H x y v u Q I rx ry h
  obtain ⟨i, j, rfl, rfl, hc, q⟩ := h
  obtain ⟨t, rfl⟩ := rx
  obtain ⟨t', rfl⟩ := ry
  exact rule i j t t' s _ _ hc ⟨.int (g i j), H, I.tok _, ⟨_, rfl⟩, q⟩
theorem opI0 {f : Value → Value → Sem Value} {g : Int → Int → Int}
    (rule : ∀ (i j : Int) (t u : Tok) (s : Shared) (Q : Value → Shared → Prop) (E : Value → Shared → Prop), Q (.int (g i j) s.toks) { s with toks := s.toks + 1 } → wpAny (model X.prog X.w) X.A (f (.int i t) (.int j u)) Q E s) :
    OpR X f (rI0 fun i j => .int (g i j)) := by
  intro pins s σ H x y v u Q I rx ry h
  obtain ⟨i, j, rfl, rfl, q⟩ := h
  obtain ⟨t, rfl⟩ := rx
  obtain ⟨t', rfl⟩ := ry
  exact rule i j t t' s _ _ ⟨.int (g i j), H, I.tok _, ⟨_, rfl⟩, q⟩
theorem opB0 {f : Value → Value → Sem Value} {g : Int → Int → Bool}
    (rule : ∀ (i j : Int) (t u : Tok) (s : Shared) (Q : Value → Shared → Prop) (E : Value → Shared → Prop), Q (.bool (g i j)) s → wpAny (model X.prog X.w) X.A (f (.int i t) (.int j u)) Q E s) :
    OpR X f (rI0 fun i j => .bl (g i j)) := by
  intro pins s σ H x y v u Q I rx ry h
  obtain ⟨i, j, rfl, rfl, q⟩ := h
  obtain ⟨t, rfl⟩ := rx
  obtain ⟨t', rfl⟩ := ry
  exact rule i j t t' s _ _ ⟨.bl (g i j), H, I, rfl, q⟩
def CPow (i j : Int) : Prop := 0 ≤ j ∧ j ≤ 1000000 ∧ i.natAbs < 2 ^ 64
theorem op_add : OpR X (binaryOp .Add) (rI0 fun i j => .int (i + j)) := opI0 fun _ _ _ _ _ _ _ q => add_int q
theorem op_sub : OpR X (binaryOp .Sub) (rI0 fun i j => .int (i - j)) := opI0 fun _ _ _ _ _ _ _ q => sub_int q
/-- % by a positive divisor of any size -/
theorem op_mod : OpR X (binaryOp .Mod) (rI (fun _ j => 0 < j) fun i j => .int (i % j)) := opI fun i j _ _ _ _ _ hc q => by
  have h1 : (0 : Int) < j := hc
  exact mod_int' (by omega) (by rw [Int.fmod_eq_emod_of_nonneg i (by omega)]; exact q)
theorem op_pow : OpR X (binaryOp .Pow) (rI CPow fun i j => .int (i ^ j.toNat)) := opI fun _ _ _ _ _ _ _ hc q => pow_int_small hc.1 hc.2.1 hc.2.2 q
theorem unI {f : Value → Sem Value} {g : Int → Int}
    (rule : ∀ (i : Int) (t : Tok) (s : Shared) (Q : Value → Shared → Prop) (E : Value → Shared → Prop), Q (.int (g i) s.toks) { s with toks := s.toks + 1 } → wpAny (model X.prog X.w) X.A (f (.int i t)) Q E s) :
    UnR X f (rU fun i => .int (g i)) := by
  intro pins s σ H x v Q I rx h
  obtain ⟨i, rfl, q⟩ := h
  obtain ⟨t, rfl⟩ := rx
  exact rule i t s _ _ ⟨.int (g i), H, I.tok _, ⟨_, rfl⟩, q⟩
theorem un_neg : UnR X (unaryOp .USub) (rU fun i => .int (-i)) := unI fun _ _ _ _ _ q => neg_int q
/-! ### bools among ints: n += (a < b) -/
end
/-! ### comparisons -/
/-- the scalars that == tells apart as data does -/
def scal : V → V → Bool
  | .non, .non => true | .non, .int _ => true | .int _, .non => true | .non, .bl _ => true | .bl _, .non => true | .non, .str _ => true | .str _, .non => true
  | .int _, .int _ => true | .bl _, .bl _ => true | .str _, .str _ => true | .byt _, .byt _ => true
  | .int _, .str _ => true | .str _, .int _ => true | .bl _, .str _ => true | .str _, .bl _ => true
  | _, _ => false
def rEq : R2 := fun x y H Q => scal x y = true ∧ Q (.bl (decide (x = y))) H
def rNe : R2 := fun x y H Q => scal x y = true ∧ Q (.bl (!decide (x = y))) H
theorem dec_int {i j : Int} : decide (V.int i = V.int j) = (i == j) := by
  rw [Bool.eq_iff_iff]
  simp
theorem dec_bl {i j : Bool} : decide (V.bl i = V.bl j) = (i == j) := by
  rw [Bool.eq_iff_iff]
  simp
theorem dec_str {i j : Str} : decide (V.str i = V.str j) = (i == j) := by
  rw [Bool.eq_iff_iff]
  simp
theorem dec_byt {i j : Array UInt8} : decide (V.byt i = V.byt j) = (i.toList == j.toList) := by
  rw [Bool.eq_iff_iff]
  cases i
  cases j
  simp
section
variable {X : Cx} {a b c : Expr} {ta tb tc : TE} {pos : Pos}
theorem fin_bl {pins : List (Addr × Obj)} {σ : St} {H : Hp} {s : Shared} {Q : VK} {k k' : Bool} (I : Inv X pins σ H s) (q : Q (.bl k) H) (e : k = k') : EP X pins σ Q (.bool k') s := by
  subst e
  exact ⟨.bl k, H, I, rfl, q⟩
theorem op_eq : OpR X (compareOp .Eq) rEq := by
  intro pins s σ H x y v u Q I rx ry h
  obtain ⟨hs, q⟩ := h
  cases x with
  | non =>
    cases rx
    cases y with
    | non => cases ry; exact PySem.EqNone.eq_none_none (fin_bl I q (by simp))
    | bl j => cases ry; exact PySem.EqNone.eq_none_bool (fin_bl I q (by simp))
    | int j => obtain ⟨t', rfl⟩ := ry; exact PySem.EqNone.eq_none_int (fin_bl I q (by simp))
    | str j => obtain ⟨t', rfl⟩ := ry; exact PySem.EqNone.eq_none_str (fin_bl I q (by simp))
    | _ => exact absurd (show false = true from hs) Bool.false_ne_true
  | bl i =>
    cases rx
    cases y with
    | non => cases ry; exact PySem.EqNone.eq_bool_none (fin_bl I q (by simp))
    | bl j => cases ry; exact eq_bool (fin_bl I q dec_bl)
    | str j => obtain ⟨t', rfl⟩ := ry; exact PySem.EqMixed.eq_bool_str (fin_bl I q (by simp))
    | _ => exact absurd (show false = true from hs) Bool.false_ne_true
  | int i =>
    obtain ⟨t, rfl⟩ := rx
    cases y with
    | non => cases ry; exact PySem.EqNone.eq_int_none (fin_bl I q (by simp))
    | int j => obtain ⟨t', rfl⟩ := ry; exact eq_int (fin_bl I q dec_int)
    | str j => obtain ⟨t', rfl⟩ := ry; exact PySem.EqMixed.eq_int_str (fin_bl I q (by simp))
    | _ => exact absurd (show false = true from hs) Bool.false_ne_true
  | str i =>
    obtain ⟨t, rfl⟩ := rx
    cases y with
    | non => cases ry; exact PySem.EqNone.eq_str_none (fin_bl I q (by simp))
    | bl j => cases ry; exact PySem.EqMixed.eq_str_bool (fin_bl I q (by simp))
    | int j => obtain ⟨t', rfl⟩ := ry; exact PySem.EqMixed.eq_str_int (fin_bl I q (by simp))
    | str j => obtain ⟨t', rfl⟩ := ry; exact eq_str (fin_bl I q dec_str)
    | _ => exact absurd (show false = true from hs) Bool.false_ne_true
  | byt i =>
    obtain ⟨t, rfl⟩ := rx
    cases y with
    | byt j => obtain ⟨t', rfl⟩ := ry; exact PySem.W.eq_bytes (fin_bl I q dec_byt)
    | _ => exact absurd (show false = true from hs) Bool.false_ne_true
  | _ => cases y <;> exact absurd (show false = true from hs) Bool.false_ne_true
theorem op_ne : OpR X (compareOp .NotEq) rNe := by
  intro pins s σ H x y v u Q I rx ry h
  obtain ⟨hs, q⟩ := h
  cases x with
  | non =>
    cases rx
    cases y with
    | non => cases ry; exact PySem.EqNone.ne_none_none (fin_bl I q (by simp))
    | bl j => cases ry; exact PySem.EqNone.ne_none_bool (fin_bl I q (by simp))
    | int j => obtain ⟨t', rfl⟩ := ry; exact PySem.EqNone.ne_none_int (fin_bl I q (by simp))
    | str j => obtain ⟨t', rfl⟩ := ry; exact PySem.EqNone.ne_none_str (fin_bl I q (by simp))
    | _ => exact absurd (show false = true from hs) Bool.false_ne_true
  | bl i =>
    cases rx
    cases y with
    | non => cases ry; exact PySem.EqNone.ne_bool_none (fin_bl I q (by simp))
    | bl j => cases ry; exact ne_bool (fin_bl I q (congrArg not dec_bl))
    | str j => obtain ⟨t', rfl⟩ := ry; exact PySem.EqMixed.ne_bool_str (fin_bl I q (by simp))
    | _ => exact absurd (show false = true from hs) Bool.false_ne_true
  | int i =>
    obtain ⟨t, rfl⟩ := rx
    cases y with
    | non => cases ry; exact PySem.EqNone.ne_int_none (fin_bl I q (by simp))
    | int j => obtain ⟨t', rfl⟩ := ry; exact ne_int (fin_bl I q (congrArg not dec_int))
    | str j => obtain ⟨t', rfl⟩ := ry; exact PySem.EqMixed.ne_int_str (fin_bl I q (by simp))
    | _ => exact absurd (show false = true from hs) Bool.false_ne_true
  | str i =>
    obtain ⟨t, rfl⟩ := rx
    cases y with
    | non => cases ry; exact PySem.EqNone.ne_str_none (fin_bl I q (by simp))
    | bl j => cases ry; exact PySem.EqMixed.ne_str_bool (fin_bl I q (by simp))
    | int j => obtain ⟨t', rfl⟩ := ry; exact PySem.EqMixed.ne_str_int (fin_bl I q (by simp))
    | str j => obtain ⟨t', rfl⟩ := ry; exact ne_str (fin_bl I q (congrArg not dec_str))
    | _ => exact absurd (show false = true from hs) Bool.false_ne_true
  | byt i =>
    obtain ⟨t, rfl⟩ := rx
    cases y with
    | byt j => obtain ⟨t', rfl⟩ := ry; exact PySem.W.ne_bytes (fin_bl I q (congrArg not dec_byt))
    | _ => exact absurd (show false = true from hs) Bool.false_ne_true
  | _ => cases y <;> exact absurd (show false = true from hs) Bool.false_ne_true
theorem op_lt : OpR X (compareOp .Lt) (rI0 fun i j => .bl (decide (i < j))) := opB0 fun _ _ _ _ _ _ _ q => lt_int q
theorem op_le : OpR X (compareOp .LtE) (rI0 fun i j => .bl (decide (i ≤ j))) := opB0 fun _ _ _ _ _ _ _ q => le_int q
theorem op_gt : OpR X (compareOp .Gt) (rI0 fun i j => .bl (decide (j < i))) := opB0 fun _ _ _ _ _ _ _ q => gt_int q
theorem nomark (b : Expr) {op : CmpOp} (h : op ≠ .In := by decide) (h2 : op ≠ .NotIn := by decide) : behindInMarks op b = false := by
  have e1 : (op == CmpOp.In) = false := by cases op <;> first | rfl | exact absurd rfl h
  have e2 : (op == CmpOp.NotIn) = false := by cases op <;> first | rfl | exact absurd rfl h2
  cases b <;> simp [behindInMarks, e1, e2]
/-- a comparison as a value; hm: nomark b, or (for in, not in) by with_unfolding_all rfl -/
theorem pe_cmpR {op : CmpOp} {r : R2} (ho : OpR X (compareOp op) r) (ha : PE X a ta) (hb : PE X b tb) (hm : behindInMarks op b = false) : PE X (.Compare a [op] [b] pos) (tOp r ta tb) := by
  intro pins s σ H Q I h
  exact wpAny_Compare1 (binT ha hb I h fun v u s2 x y H2 I2 rx ry q => ho pins s2 σ H2 x y v u Q I2 rx ry q) hm
/-- a reading of a value as a test -/
def tTest (t : TE) : TT := fun σ H Q => t σ H fun x H' => ∃ k, x = .bl k ∧ Q k H'
theorem pt_cmpR {op : CmpOp} {r : R2} (ho : OpR X (compareOp op) r) (ha : PE X a ta) (hb : PE X b tb) (hm : behindInMarks op b = false) : PT X (.Compare a [op] [b] pos) (tTest (tOp r ta tb)) := by
  intro pins s σ H Q I h
  refine wpAny_isTrue_Compare1 (thn (ha pins s σ H _ I h) fun v s1 ⟨x, H1, I1, r1, q1⟩ => thn (hb pins s1 σ H1 _ I1 q1) fun u s2 ⟨y, H2, I2, r2, q2⟩ =>
    thn (ho pins s2 σ H2 x y v u _ I2 r1 r2 q2) fun c s3 ⟨z, H3, I3, r3, k, e, q3⟩ => ?_) hm
  subst e
  cases r3
  exact wpAny_truthy_bool ⟨H3, I3, q3⟩
/-- a op1 b op2 c -/
def tChain (r r' : R2) (ta tb tc : TE) : TE := fun σ H Q => ta σ H fun x H1 => tb σ H1 fun y H2 => r x y H2 fun z H3 => ∃ k, z = .bl k ∧
  (if k = true then tc σ H3 fun w' H4 => r' y w' H4 Q else Q (.bl false) H3)
theorem pt_chain {op op' : CmpOp} {r r' : R2} (ho : OpR X (compareOp op) r) (ho' : OpR X (compareOp op') r') (ha : PE X a ta) (hb : PE X b tb) (hc : PE X c tc)
    (hm : lastMarks [op, op'] [b, c] = false := by with_unfolding_all rfl) : PT X (.Compare a [op, op'] [b, c] pos) (tTest (tChain r r' ta tb tc)) := by
  intro pins s σ H Q I h
  refine isTrue_chain (thn (ha pins s σ H _ I h) fun v s1 ⟨x, H1, I1, r1, q1⟩ => test_link (thn (hb pins s1 σ H1 _ I1 q1) fun u s2 ⟨y, H2, I2, r2, q2⟩ =>
    thn (ho pins s2 σ H2 x y v u _ I2 r1 r2 q2) fun d s3 ⟨z, H3, I3, r3, k, e, q3⟩ => ?_)) hm
  subst e
  cases r3
  refine wpAny_truthy_bool ?_
  cases k with
  | false =>
    obtain ⟨k', e', q'⟩ := q3
    cases e'
    exact ite_ff ⟨H3, I3, q'⟩
  | true =>
    refine ite_tt (test_last (thn (hc pins s3 σ H3 _ I3 q3) fun w' s4 ⟨z', H4, I4, r4, q4⟩ => thn (ho' pins s4 σ H4 y z' u w' _ I4 r2 r4 q4) fun d' s5 ⟨z2, H5, I5, r5, k2, e2, q5⟩ => ?_))
    subst e2
    cases r5
    exact wpAny_truthy_bool ⟨H5, I5, q5⟩
/-! ### truth -/
theorem line63 : (sizeLine : Nat) < 2 ^ 63 := by rw [sizeLine_eq]; decide
/-! ### strs and bytes -/
/-! ### scalar builtins, by CallR -/
theorem vals1 {x : V} {us : List Value} (r : Vals [x] us) : ∃ u, us = [u] ∧ RelV x u := by
  cases r with
  | cons r1 r2 => cases r2; exact ⟨_, rfl, r1⟩
theorem vals2 {x y : V} {us : List Value} (r : Vals [x, y] us) : ∃ u w', us = [u, w'] ∧ RelV x u ∧ RelV y w' := by
  cases r with
  | cons r1 r2 =>
    cases r2 with
    | cons r3 r4 => cases r4; exact ⟨_, _, rfl, r1, r3⟩
theorem call_abs : CallR X (.builtin "abs") (fun xs H Q => ∃ i, xs = [.int i] ∧ Q (.int (if i < 0 then -i else i)) H) := by
  intro pins s σ H xs us Q I r h
  obtain ⟨i, rfl, q⟩ := h
  obtain ⟨u, rfl, t, rfl⟩ := vals1 r
  exact call_abs_int fun u tk => ⟨.int (if i < 0 then -i else i), H, I.tok _, ⟨_, rfl⟩, q⟩
theorem call_max2 (hc : X.calm = true) : CallR X (.builtin "max") (fun xs H Q => ∃ i j, xs = [.int i, .int j] ∧ Q (.int (if j > i then j else i)) H) := by
  intro pins s σ H xs us Q I r h
  obtain ⟨i, j, rfl, q⟩ := h
  obtain ⟨u, w', rfl, ⟨t, rfl⟩, ⟨t', rfl⟩⟩ := vals2 r
  refine max_two_ints (I.ok.hd hc) fun h' tk k => ⟨_, H, I.kept k, ?_, q⟩
  by_cases hj : j > i
  · rw [if_pos hj, if_pos hj]; exact ⟨_, rfl⟩
  · rw [if_neg hj, if_neg hj]; exact ⟨_, rfl⟩
theorem call_min2 (hc : X.calm = true) : CallR X (.builtin "min") (fun xs H Q => ∃ i j, xs = [.int i, .int j] ∧ Q (.int (if j < i then j else i)) H) := by
  intro pins s σ H xs us Q I r h
  obtain ⟨i, j, rfl, q⟩ := h
  obtain ⟨u, w', rfl, ⟨t, rfl⟩, ⟨t', rfl⟩⟩ := vals2 r
  refine min_two_ints (I.ok.hd hc) fun h' tk k => ⟨_, H, I.kept k, ?_, q⟩
  by_cases hj : j < i
  · rw [if_pos hj, if_pos hj]; exact ⟨_, rfl⟩
  · rw [if_neg hj, if_neg hj]; exact ⟨_, rfl⟩
end
end L2
namespace L2
open PySem PySem.Spec PyProof.Rows
/-! ### an instance, its attributes a map -/
structure ObjM (h : Heap) (x dx C : Addr) (mA : Str → Option Value) : Prop where
  obj : h.get? x = some (PySem.W.instObj C dx)
  ns : h.Ns1 dx mA
  ne : dx ≠ x
theorem lookIn_ns {h : Heap} {dx : Addr} {mA : Str → Option Value} (n : h.Ns1 dx mA) : ∃ od, h.get? dx = some od ∧ ∀ name, PySem.W.lookIn name od = some (mA name) := by
  obtain ⟨o, es, ep, ho, hd, hk, _, hm⟩ := n
  refine ⟨o, ho, fun name => ?_⟩
  have e := hm name
  unfold nsFind findBy at e
  rw [← Array.find?_toList] at e
  unfold PySem.W.lookIn
  rw [hd]
  dsimp only
  split
  · rename_i y q
    rw [q] at e
    exact congrArg some e
  · rename_i q
    rw [q] at e
    have a : es.toList.any (·.refKey) = false := by
      rw [List.any_eq_false]
      intro y hy
      obtain ⟨z, t, hkey⟩ := hk y (Array.mem_toList_iff.mp hy)
      simp [DictEntry.refKey, hkey]
    have a' : ¬ es.toList.any (·.refKey) = true := by rw [a]; exact Bool.false_ne_true
    rw [if_neg a']
    exact congrArg some e
theorem ObjM.look {h : Heap} {x dx C : Addr} {mA : Str → Option Value} (I : ObjM h x dx C mA) : ∃ od, PySem.W.InstAt h x (PySem.W.instObj C dx) C (some od) ∧ ∀ name, PySem.W.lookIn name od = some (mA name) :=
  let ⟨od, ho, hl⟩ := lookIn_ns I.ns
  ⟨od, ⟨I.obj, rfl, rfl, ho⟩, hl⟩
section
variable {prog : Program} {w : World} {A : Around} {E : Value → Shared → Prop} {s : Shared} {K : PySem.W.Frag} {x dx C f : Addr} {mA : Str → Option Value} {name : Str} {v : Value}
end
/-! ### the attributes as a list of pairs -/
section
variable {P : Program} {w : World} {H H' : Hp} {h h' : Heap} {a C dx : Addr} {fs fs' : List (Str × V)}
theorem ins_get (hok : HOk P w H h) (e : H a = some (.ins C dx fs)) : ∃ mA, ObjM h a dx C mA ∧ (∀ f, RelO (fs.lookup f) (mA f)) ∧ PySem.Within mA (fs.map (·.1)) ∧ fs.length ≤ 1000 ∧ H dx = some (.own a) := by
  obtain ⟨d, z, ne, ob, mA, n, r, q⟩ := (show ObjOk P w H h a (.ins C dx fs) from hok a _ e)
  exact ⟨mA, ⟨ob, n, ne⟩, r, q, z, d⟩
end
/-! ### what of the text a class must have -/
structure Cls (K : PySem.W.Frag) (C : Addr) : Prop where
  pg : PySem.W.plainGet K C Str.empty = true
  hd : PySem.W.hasDictIn K C = true
  po : PySem.W.plainOver K C = true
  sa : PySem.W.findIn K (.ref C) "__setattr__" = some (some (.builtin "object.__setattr__"))
theorem Cls.get {K : PySem.W.Frag} {C : Addr} (c : Cls K C) (f : Str) : PySem.W.plainGet K C f = true := c.pg
section
variable {X : Cx} {pins : List (Addr × Obj)} {σ : St} {H : Hp} {s : Shared} {a C dx : Addr} {fs : List (Str × V)} {f : Str} {v : V} {A : Around} {E : Value → Shared → Prop}
end
/-! ### readings and rules -/
section
variable {X : Cx} {o e value : Expr} {f : Str} {pos pos' tpos : Pos} {ta tv : TE}
end
/-! ### isinstance -/
section
variable {X : Cx} {pins : List (Addr × Obj)} {σ : St} {H : Hp} {s : Shared} {A : Around} {E : Value → Shared → Prop} {Q : Value → Shared → Prop} {c : Value} {b : Bool}
/-- the type of a value, as the fragment's deciders take it; for an instance its class -/
inductive TyOf (K : PySem.W.Frag) (H : Hp) : V → Value → Prop where
  | non : TyOf K H .non (.type "NoneType")
  | bl (x : Bool) : TyOf K H (.bl x) (.type "bool")
  | int (i : Int) : TyOf K H (.int i) (.type "int")
  | str (x : Str) : TyOf K H (.str x) (.type "str")
  | flt (x : UInt64) : TyOf K H (.flt x) (.type "float")
  | lst {a : Addr} {xs : List V} (e : H a = some (.lst xs)) : TyOf K H (.ref a) (.type "list")
  | frz {a : Addr} {o : Obj} {xs : List V} (e : H a = some (.frz o (.lst xs))) : TyOf K H (.ref a) (.type "list")
  | tup {a : Addr} {xs : List V} (e : H a = some (.tup xs)) : TyOf K H (.ref a) (.type "tuple")
  | dK {a : Addr} {kvs : List (Key × V)} (e : H a = some (.dK kvs)) : TyOf K H (.ref a) (.type "dict")
  | dT {a : Addr} {kvs : List (List Key × V)} (e : H a = some (.dT kvs)) : TyOf K H (.ref a) (.type "dict")
  | ins {a C dx : Addr} {fs : List (Str × V)} (e : H a = some (.ins C dx fs)) (cl : Cls K C) (ha : PySem.W.findIn K (.ref C) "__class__" = some (some (.builtin "object.__class__")))
      (hn : PySem.W.specialIn K (.builtin "object.__class__") "__get__" = some (some (.builtin "getset_descriptor.__get__"))) (htk : PySem.W.takesIn K (.builtin "object.__class__") = some true)
      (hm : PySem.W.mroIn K C (.type "object") = some true) : TyOf K H (.ref a) (.ref C)
/-- isinstance(x, c) for one class c, a built-in or an own one: kitOne's answer -/
theorem isinst_ok {x : V} {u t : Value} (I : Inv X pins σ H s) (rx : RelV x u) (ty : TyOf X.K H x t) (e : PySem.W.kitOne X.K t c = some b) (h : ∀ tk, Q (.bool b) { s with toks := tk }) :
    wpAny (model X.prog X.w) A (call (.builtin "isinstance") [u, c]) Q E s := by
  cases ty with
  | non => cases (show u = Value.none from rx); exact PySem.W.kia_one PySem.W.kitx_none I.kIn True.intro e (fun z => nomatch z) h
  | bl y => cases (show u = Value.bool y from rx); exact PySem.W.kia_one PySem.W.kitx_bool I.kIn True.intro e (fun z => nomatch z) h
  | int i => obtain ⟨t, q⟩ := (show ∃ t, u = Value.int i t from rx); cases q; exact PySem.W.kia_one PySem.W.kitx_int I.kIn True.intro e (fun z => nomatch z) h
  | str y => obtain ⟨t, q⟩ := (show ∃ t, u = Value.str y t from rx); cases q; exact PySem.W.kia_one PySem.W.kitx_str I.kIn True.intro e (fun z => nomatch z) h
  | flt y => obtain ⟨t, q⟩ := (show ∃ t, u = Value.float y t from rx); cases q; exact PySem.W.kia_one PySem.W.kitx_float I.kIn True.intro e (fun z => nomatch z) h
  | @lst a xs ea =>
    cases (show u = Value.ref a from rx)
    obtain ⟨_, _, n, _, h1⟩ := (show ObjOk X.prog X.w H s.heap a (.lst xs) from I.hok a _ ea)
    exact PySem.W.kia_one PySem.W.kitx_list I.kIn ⟨_, h1, rfl⟩ e (fun z => nomatch z) h
  | @frz a ob xs ea =>
    cases (show u = Value.ref a from rx)
    obtain ⟨_, _, _, n, _, h1⟩ := (show ObjOk X.prog X.w H s.heap a (.frz ob (.lst xs)) from I.hok a _ ea)
    exact PySem.W.kia_one PySem.W.kitx_list I.kIn ⟨_, h1, rfl⟩ e (fun z => nomatch z) h
  | @tup a xs ea =>
    cases (show u = Value.ref a from rx)
    obtain ⟨_, _, _, p⟩ := (show ObjOk X.prog X.w H s.heap a (.tup xs) from I.hok a _ ea)
    obtain ⟨o, h1, h2, _⟩ := p
    exact PySem.W.kia_one PySem.W.kitx_tuple I.kIn ⟨o, h1, h2⟩ e (fun z => nomatch z) h
  | @dK a kvs ea =>
    cases (show u = Value.ref a from rx)
    obtain ⟨_, _, vs, _, p⟩ := (show ObjOk X.prog X.w H s.heap a (.dK kvs) from I.hok a _ ea)
    obtain ⟨o, es, ep, h1, h2, _⟩ := p
    exact PySem.W.kia_one PySem.W.kitx_dict I.kIn ⟨o, h1, h2.1⟩ e (fun z => nomatch z) h
  | @dT a kvs ea =>
    cases (show u = Value.ref a from rx)
    obtain ⟨_, _, xs, _, o, es, ep, h1, h2, _⟩ := (show ObjOk X.prog X.w H s.heap a (.dT kvs) from I.hok a _ ea)
    exact PySem.W.kia_one PySem.W.kitx_dict I.kIn ⟨o, h1, h2.1⟩ e (fun z => nomatch z) h
  | @ins a C dx fs ea cl ha hn htk hm =>
    cases (show u = Value.ref a from rx)
    obtain ⟨mA, O, _⟩ := ins_get I.hok ea
    obtain ⟨od, J, _⟩ := O.look
    exact PySem.W.kia_one (PySem.W.kitx_own (cl.get _) cl.hd ha hn htk hm) I.kIn J e (fun z => nomatch z) h
end
end L2
namespace L2
open PySem PySem.Spec PyProof.Rows
/-! ### room -/
structure Room (k : Nat) (A : Around) : Prop where
  hd : A.handled = none
  dp : A.depth + 3 * k + 5 < recursionLimit
  un : A.units + 16 * k + 200 < cLine
theorem Room.mono {j k : Nat} {A : Around} (r : Room k A) (h : j ≤ k) : Room j A := ⟨r.hd, by have := r.dp; omega, by have := r.un; omega⟩
theorem Room.deeper {k : Nat} {A : Around} (r : Room (k + 1) A) (env : Env) : Room k (A.deeper env) :=
  ⟨r.hd, by have := r.dp; show A.depth + 1 + 3 * k + 5 < _; omega, by have := r.un; show A.units + 3 + 16 * k + 200 < _; omega⟩
theorem Room.depth {k : Nat} {A : Around} (r : Room k A) : A.depth < recursionLimit := by have := r.dp; omega
/-! ### argument lists and displays -/
def tNil : TA := fun _ H Q => Q [] H
def tCons (ta : TE) (tr : TA) : TA := fun σ H Q => ta σ H fun x H1 => tr σ H1 fun xs H2 => Q (x :: xs) H2
section
variable {X : Cx} {e : Expr} {es : List Expr} {te : TE} {t : TA} {pos : Pos}
theorem pa_nil : PA X [] tNil := fun _ _ _ _ H Q I h => Calls.spliced_nil ⟨[], H, I, .nil, h⟩
theorem pa_cons (ha : PE X e te) (hr : PA X es t) (hs : starEach (e :: es) X.env = (false, eval e X.env) :: starEach es X.env := by rfl) : PA X (e :: es) (tCons te t) := by
  intro pos pins s σ H Q I h
  rw [hs]
  show wpAny _ _ (spliced ((false, eval e X.env) :: backTo pos (starEach es X.env))) _ _ s
  refine Calls.spliced_cons (thn (ha pins s σ H _ I h) fun u s1 ⟨x, H1, I1, r1, q1⟩ => ?_)
  exact thn (hr pos pins s1 σ H1 _ I1 q1) fun us s2 ⟨xs, H2, I2, r2, q2⟩ => ⟨x :: xs, H2, I2, .cons r1 r2, q2⟩
/-- a tuple, a list of written items -/
def tTup (t : TA) : TE := fun σ H Q => t σ H fun xs H1 => xs.length ≤ sizeLine ∧ ∀ p, H1 p = none → Q (.ref p) (upd H1 p (.tup xs))
def tLst (t : TA) : TE := fun σ H Q => t σ H fun xs H1 => xs.length ≤ sizeLine ∧ ∀ p, H1 p = none → Q (.ref p) (upd H1 p (.lst xs))
theorem pe_tup {x1} (h : PA X es t) : PE X (.Tuple es x1 pos) (tTup t) := by
  intro pins s σ H Q I hq
  refine wpAny_Tuple_spliced (thn (h pos pins s σ H _ I hq) fun us s1 ⟨xs, H1, I1, r, z, q⟩ => ⟨by rw [← r.length]; exact z, ?_⟩)
  have hf : H1 s1.heap.objs.size = none := I1.hok.fresh (Nat.le_refl _)
  refine ⟨.ref s1.heap.objs.size, upd H1 s1.heap.objs.size (.tup xs), I1.laid (t' := s1.toks) (fun b u e => Heap.get?_push_of_some _ e) (Nat.le_refl _) ?_, rfl, q _ hf⟩
  exact ⟨z, us, r, ⟨_, Heap.get?_push_size _ rfl, rfl, _, rfl⟩⟩
theorem pe_lst (h : PA X es t) : PE X (.List es pos) (tLst t) := by
  intro pins s σ H Q I hq
  refine wpAny_List_spliced (thn (h pos pins s σ H _ I hq) fun us s1 ⟨xs, H1, I1, r, z, q⟩ => ⟨by rw [← r.length]; exact z, ?_⟩)
  have hf : H1 s1.heap.objs.size = none := I1.hok.fresh (Nat.le_refl _)
  refine ⟨.ref s1.heap.objs.size, upd H1 s1.heap.objs.size (.lst xs), I1.laid (t' := s1.toks) (fun b u e => Heap.get?_push_of_some _ e) (Nat.le_refl _) ?_, rfl, q _ hf⟩
  exact ⟨z, us, 0, r, Heap.get?_push_size _ rfl⟩
end
/-! ### what a def promises -/
/-- a def's promise: the bound arguments in the parameters' order, the heap, the wanted end, the wanted exception -/
abbrev Sp := List V → Hp → VK → XK → Prop
/-- how an exception lies behind a call (file 08 gives it): the callers' frames, abstract heap and state ahead of the call, the wish, the exception, the state -/
abbrev CXT := List Env → Hp → Shared → XK → Value → Shared → Prop
/-- the state at a call -/
structure Env0 (P : Program) (w : World) (K : PySem.W.Frag) (mg : Str → Option Value) (base : Heap) (A : Around) (outer : List Env) (s : Shared) (H : Hp) : Prop where
  frames : A.frames = some outer
  mod : Mod K mg base
  bs : ∀ b o, base.get? b = some o → s.heap.get? b = some o ∧ H b = none
  bsz : base.objs.size ≤ s.heap.objs.size
  funs : s.heap.FunFrames base outer
  frf : ∀ b ∈ frs outer, H b = none
  hok : HOk P w H s.heap
  bare : AllBare s.gens
/-- a call's end -/
def CE (outer : List Env) (P : Program) (w : World) (H : Hp) (s : Shared) (Q : VK) (u : Value) (s' : Shared) : Prop :=
  ∃ v H', s'.os = s.os ∧ AllBare s'.gens ∧ Un (frs outer) [] H H' s.heap s'.heap ∧ HOk P w H' s'.heap ∧ RelV v u ∧ Q v H'
def CR (CX : CXT) (outer : List Env) (P : Program) (w : World) (H : Hp) (s : Shared) (Q : VK) (E : XK) (r : Result) (s' : Shared) : Prop :=
  match r with
  | .ok (.ret u) => CE outer P w H s Q u s'
  | .ok _ => False
  | .error e => CX outer H s E e s'
structure FnOk (P : Program) (w : World) (K : PySem.W.Frag) (mg : Str → Option Value) (base : Heap) (CX : CXT) (k : Nat) (f : Addr) (fd : FuncData) (ps : List Str) (sp : Sp) : Prop where
  len : ∀ vs H Q E, sp vs H Q E → vs.length = ps.length
  run : ∀ (A : Around) (outer : List Env) (s : Shared) (H : Hp) (args : Args) (us : List Value) (vs : List V) (Q : VK) (E : XK), Room k A → Env0 P w K mg base A outer s H → BindsTo s fd args (ps.zip us) → Vals vs us → sp vs H Q E →
    codeAny (model P w) A (.call (.ref f) args) (CR CX outer P w H s Q E) s
theorem FnOk.mono {P : Program} {w : World} {K : PySem.W.Frag} {mg : Str → Option Value} {base : Heap} {CX : CXT} {j k : Nat} {f : Addr} {fd : FuncData} {ps : List Str} {sp : Sp} (F : FnOk P w K mg base CX j f fd ps sp) (h : j ≤ k) :
    FnOk P w K mg base CX k f fd ps sp := ⟨F.len, fun A outer s H args us vs Q E hr => F.run A outer s H args us vs Q E (hr.mono h)⟩
section
variable {X : Cx} {pins : List (Addr × Obj)} {σ : St} {H : Hp} {s s' : Shared}
/-- from a body: what a callee wants -/
theorem Inv.env0 (I : Inv X pins σ H s) : Env0 X.prog X.w X.K X.mg X.base X.A X.stack s H :=
  ⟨I.ok.frames, I.ok.mod, I.bs, Nat.le_trans I.ok.bsz I.sz, I.stack, I.stkFree, I.hok, I.bare⟩
/-- behind a call -/
theorem Inv.after {Q : VK} {u : Value} (I : Inv X pins σ H s) (h : CE X.stack X.prog X.w H s Q u s') : EP X pins σ Q u s' := by
  obtain ⟨v, H', os, bare, un, hok, r, q⟩ := h
  obtain ⟨hh, g, d, t, os'⟩ := s'
  obtain rfl : os' = s.os := os
  exact ⟨v, H', I.call (h' := hh) (g' := g) (d' := d) (t' := t) (ch := []) un hok bare (fun b z => absurd z (by simp)), r, q⟩
end
/-! ### calls -/
/-- f(..): the written arguments, then the defaults dvs; E: what is wanted of an exception -/
def tCall (sp : Sp) (dvs : List V) (E : XK) (t : TA) : TE := fun σ H Q => t σ H fun vs H1 => sp (vs ++ dvs) H1 Q E
/-- how the parameters are bound: us the positional arguments, kw the keywords' values by name, ds the defaults that fill up -/
def Binds (K : PySem.W.Frag) (fd : FuncData) (ps : List Str) (ds : List Value) : Prop :=
  ∀ (s : Shared) (us : List Value), K.In s.heap → (us ++ ds).length = ps.length → BindsTo s fd ⟨us, []⟩ (ps.zip (us ++ ds))
/-- every parameter is given -/
theorem Binds.all {K : PySem.W.Frag} {fd : FuncData} {ps : List Str} (h : ∀ us : List Value, us.length = ps.length → bindArgs fd ⟨us, []⟩ = pure (ps.zip us)) : Binds K fd ps [] := fun s us _ hl => by
  rw [List.append_nil] at hl ⊢
  exact .of_eq (h us hl)
/-- an exception of a callee reaches what this body wants of exceptions -/
def Passes (CX : CXT) (X : Cx) (E : XK) : Prop := ∀ (pins : List (Addr × Obj)) (σ : St) (H : Hp) (s : Shared) (e : Value) (s' : Shared), Inv X pins σ H s → CX X.stack H s E e s' → X.xe e s'
section
variable {X : Cx} {CX : CXT} {k : Nat} {f C : Addr} {fd : FuncData} {ps : List Str} {sp : Sp} {dvs : List V} {ds : List Value} {E : XK} {x m : Str} {p pos apos : Pos} {e o : Expr} {es : List Expr} {ta : TE} {t : TA}
/-- the callee runs -/
theorem run_fn {pins : List (Addr × Obj)} {σ : St} {H : Hp} {s : Shared} {Q : VK} {us : List Value} {vs : List V} (F : FnOk X.prog X.w X.K X.mg X.base CX k f fd ps sp) (hr : Room k X.A) (hb : Binds X.K fd ps ds) (hd : Vals dvs ds) (hx : Passes CX X E)
    (I : Inv X pins σ H s) (r : Vals vs us) (h : sp (vs ++ dvs) H Q E) : wpAny (model X.prog X.w) X.A (call (.ref f) us) (EP X pins σ Q) X.xe s := by
  have r2 : Vals (vs ++ dvs) (us ++ ds) := r.append hd
  have hl : (us ++ ds).length = ps.length := by rw [← r2.length]; exact F.len _ _ _ _ h
  refine wpAny_call (codeAny_mono (F.run X.A X.stack s H ⟨us, []⟩ (us ++ ds) (vs ++ dvs) Q E hr I.env0 (hb s us I.kIn hl) r2 h) fun r s' hq => ?_)
  cases r with
  | error e => exact hx pins σ H s e s' I hq
  | ok fl =>
    cases fl with
    | ret u => exact I.after hq
    | next => exact False.elim hq
    | brk => exact False.elim hq
    | cont => exact False.elim hq
theorem pe_call (F : FnOk X.prog X.w X.K X.mg X.base CX k f fd ps sp) (hr : Room k X.A) (hg : Gl X x) (hm : X.mg x = some (.ref f)) (hk : PySem.W.keepIn X.K (.ref f) = true) (hb : Binds X.K fd ps ds) (hd : Vals dvs ds) (hx : Passes CX X E)
    (ha : PA X (e :: es) t) (hdb : (x == ("__debug__" : Str)) = false := by decide) (he : starEach (e :: es) X.env = (false, eval e X.env) :: starEach es X.env := by rfl) (hpl : (backTo pos (starEach es X.env)).any (·.1) = false := by rfl) :
    PE X (.Call (.Name x p) (e :: es) [] pos) (tCall sp dvs E t) := by
  intro pins s σ H Q I h
  refine wpAny_Call_Name_kw (ld_glob I hg hm ?_ hdb)
  refine PySem.W.callWith_K (h₀ := X.base) I.ok.mod.kin hk (thn (ha pos pins s σ H _ I h) fun us s1 ⟨vs, H1, I1, r, q⟩ => ⟨I1.kIn, ?_⟩) he hpl
  exact run_fn F hr hb hd hx I1 r q
end
/-! ### keywords -/
section
variable {X : Cx} {CX : CXT} {k : Nat} {f C : Addr} {fd : FuncData} {ps ks : List Str} {sp : Sp} {E : XK} {x m : Str} {p pos apos kpos : Pos} {e o : Expr} {es : List Expr} {kws : List Keyword} {te ta : TE} {t tk : TA} {nm : Option Str}
variable {g : List Value → List Value → List Value} {gV : List V → List V → List V}
end
/-! ### a def's body keeps its promise -/
/-- names: the parameters first -/
structure FnScope (N P : List Str) (sc : Scope) : Prop where
  kind : sc.kind = .function
  co : sc.isCoroutine = false
  gen : sc.isGenerator = false
  nd : N.Nodup
  pre : N.take P.length = P
  par : ∀ x ∈ P, sc.names.lookup x = some .local ∨ sc.names.lookup x = some .cell
  nofree : ∀ y ∈ sc.names, y.2 ≠ .free
theorem bindL_out {kindOf : Str → Option NameKind} {x : Str} : ∀ {binds : List (Str × Value)} {m : Str → Option Value}, (∀ v, (x, v) ∉ binds) → bindL kindOf binds m x = m x
  | [], _, _ => rfl
  | (n, v) :: r, m, h => by
    unfold bindL
    rw [bindL_out fun w hw => h w (List.mem_cons_of_mem _ hw)]
    split
    · have : x ≠ n := by rintro rfl; exact h v List.mem_cons_self
      simp [this]
    · rfl
theorem bindC_out {kindOf : Str → Option NameKind} {x : Str} : ∀ {binds : List (Str × Value)} {m : Str → Option Value}, (∀ v, (x, v) ∉ binds) → bindC kindOf binds m x = m x
  | [], _, _ => rfl
  | (n, v) :: r, m, h => by
    unfold bindC
    rw [bindC_out fun w hw => h w (List.mem_cons_of_mem _ hw)]
    split
    · rfl
    · have : x ≠ n := by rintro rfl; exact h v List.mem_cons_self
      simp [this]
theorem bindL_get {kindOf : Str → Option NameKind} {x : Str} {v : Value} : ∀ {P : List Str} {vs : List Value} {i : Nat} {m : Str → Option Value}, P.Nodup → P[i]? = some x → vs[i]? = some v → kindOf x = some .local →
    bindL kindOf (P.zip vs) m x = some v
  | [], _, _, _, _, h, _, _ => by simp at h
  | _ :: _, [], _, _, _, _, h, _ => by simp at h
  | p :: P, w :: vs, 0, m, nd, h1, h2, hk => by
    simp at h1 h2; subst h1; subst h2
    show bindL kindOf ((p, w) :: P.zip vs) m p = _
    unfold bindL
    rw [bindL_out fun v hv => (List.nodup_cons.mp nd).1 (List.of_mem_zip hv).1, if_pos hk]
    simp
  | p :: P, w :: vs, i + 1, m, nd, h1, h2, hk => by
    show bindL kindOf ((p, w) :: P.zip vs) m x = _
    unfold bindL
    exact bindL_get (i := i) (List.nodup_cons.mp nd).2 (by simpa using h1) (by simpa using h2) hk
theorem bindC_get {kindOf : Str → Option NameKind} {x : Str} {v : Value} : ∀ {P : List Str} {vs : List Value} {i : Nat} {m : Str → Option Value}, P.Nodup → P[i]? = some x → vs[i]? = some v → kindOf x ≠ some .local →
    bindC kindOf (P.zip vs) m x = some v
  | [], _, _, _, _, h, _, _ => by simp at h
  | _ :: _, [], _, _, _, _, h, _ => by simp at h
  | p :: P, w :: vs, 0, m, nd, h1, h2, hk => by
    simp at h1 h2; subst h1; subst h2
    show bindC kindOf ((p, w) :: P.zip vs) m p = _
    unfold bindC
    rw [bindC_out fun v hv => (List.nodup_cons.mp nd).1 (List.of_mem_zip hv).1, if_neg hk]
    simp
  | p :: P, w :: vs, i + 1, m, nd, h1, h2, hk => by
    show bindC kindOf ((p, w) :: P.zip vs) m x = _
    unfold bindC
    exact bindC_get (i := i) (List.nodup_cons.mp nd).2 (by simpa using h1) (by simpa using h2) hk
/-- the names' values at the entry -/
def start (N : List Str) (vs : List V) : St := vs.map some ++ List.replicate (N.length - vs.length) none
/-- the context of a def's body, at its entry; an exception leaves the frame, then lies as CX says -/
def cxOf (CX : CXT) (P : Program) (w : World) (K : PySem.W.Frag) (mg : Str → Option Value) (base : Heap) (N : List Str) (qual : Str) (scope : Scope) (f : Addr) (cd : Value) (A : Around) (outer : List Env) (s : Shared) (H : Hp) (E : XK) : Cx where
  prog := P
  w := w
  K := K
  mg := mg
  base := base
  A := A.deeper (envOfC qual scope s.heap.objs.size f cd)
  N := N
  s₀ := s
  H₀ := H
  env := envOfC qual scope s.heap.objs.size f cd
  outer := outer
  stack := envOfC qual scope s.heap.objs.size f cd :: outer
  ex := []
  calm := true
  fn := fun _ => true
  pn := []
  xe := fun e s' => wpAny (model P w) (A.deeper (envOfC qual scope s.heap.objs.size f cd)) (leaving (envOfC qual scope s.heap.objs.size f cd) e) (fun _ s'' => CX outer H s E e s'') (fun e' s'' => CX outer H s E e' s'') s'
theorem cell_has {sc : Scope} {n : Nat} {x : Str} (h : sc.names.lookup x = some .cell) : ∃ c, (cellsFrom n sc.names []).lookup x = some c := by
  have q := PySem.W.cellsFrom_some sc.names n [] (.inl h)
  exact Option.isSome_iff_exists.mp q
theorem inv_start {CX : CXT} {P : Program} {w : World} {K : PySem.W.Frag} {mg : Str → Option Value} {base : Heap} {N ps : List Str} {qual : Str} {scope : Scope} {f : Addr} {cd : Value} {A : Around} {outer : List Env} {s s1 : Shared} {H : Hp} {E : XK} {us : List Value} {vs : List V}
    (S : FnScope N ps scope) (hd : A.handled = none) (e0 : Env0 P w K mg base A outer s H) (hl : vs.length = ps.length) (r : Vals vs us)
    (x : InCallC s s.heap.objs.size (bindL (envOfC qual scope s.heap.objs.size f cd).kindOf (ps.zip us) fun _ => none) (cellsFrom (s.heap.objs.size + 1) scope.names []) (bindC (envOfC qual scope s.heap.objs.size f cd).kindOf (ps.zip us) fun _ => none) s1) :
    Inv (cxOf CX P w K mg base N qual scope f cd A outer s H E) [] (start N vs) H s1 := by
  have hpl : ps.length ≤ N.length := by have := congrArg List.length S.pre; rw [List.length_take] at this; omega
  obtain ⟨h1, tk, rfl, hk⟩ := x.done
  have noA : ∀ b : Addr, b ∉ (cxOf CX P w K mg base N qual scope f cd A outer s H E).ex := fun b z => absurd (show b ∈ ([] : List Addr) from z) (by simp)
  refine ⟨⟨e0.mod, S.kind, rfl, rfl, Nat.le_refl _, fun y z c h1 h2 => ?_, fun y hy => ?_, fun y c _ h => ?_, fun _ => hd, Around.frames_deeper e0.frames, .inr ⟨rfl, rfl⟩, fun b z => absurd z (noA b), e0.bs, e0.bsz, fun b _ _ => noA b, fun b z => absurd z (noA b), e0.funs, e0.frf⟩,
    rfl, e0.bare, Un.kept hk, ⟨_, x.toInCall.ns, fun i y v h1 h2 h3 => ?_⟩, fun y c h => ⟨_, x.cell y c h⟩, e0.hok.fresh (Nat.le_refl _), fun y c h => ?_, fun p hp => absurd (show p ∈ ([] : List (Addr × Obj)) from hp) (by simp), e0.hok.kept hk, ?_⟩
  · exact name_of_addr x.apart (PySem.mem_of_lookup h1) (PySem.mem_of_lookup h2)
  · have hy : scope.names.lookup y = some .cell ∨ scope.names.lookup y = some .free := hy
    rcases hy with hy | hy
    · exact cell_has hy
    · exact absurd rfl (S.nofree _ (PySem.mem_of_lookup hy))
  · exact Nat.le_of_lt (x.above y c (PySem.mem_of_lookup h))
  · have hi : i < vs.length := by
      unfold start at h2
      by_cases hi : i < vs.length
      · exact hi
      · rw [List.getElem?_append_right (by simpa using hi)] at h2
        rw [List.getElem?_replicate] at h2
        split at h2 <;> cases h2
    have ha : vs[i]? = some v := by
      unfold start at h2
      rw [List.getElem?_append_left (by simpa using hi), List.getElem?_map] at h2
      cases e : vs[i]? with
      | none => rw [e] at h2; cases h2
      | some a => rw [e] at h2; cases h2; rfl
    obtain ⟨u, hu, rv⟩ := r.get ha
    have hp : ps[i]? = some y := by
      rw [← S.pre, List.getElem?_take_of_lt (by omega)]; exact h1
    have ndP : ps.Nodup := by rw [← S.pre]; exact S.nd.sublist (List.take_sublist _ _)
    refine ⟨u, rv, ?_⟩
    rcases S.par y (List.mem_of_getElem? hp) with k | k
    · exact .inl ⟨k, bindL_get ndP hp hu k⟩
    · obtain ⟨c, e⟩ := cell_has (n := s.heap.objs.size + 1) k
      refine .inr ⟨.inl k, c, e, ?_⟩
      have q := x.cell y c e
      rw [bindC_get ndP hp hu (by show scope.names.lookup y ≠ _; rw [k]; decide)] at q
      exact q
  · exact e0.hok.fresh (Nat.le_of_lt (x.above y c (PySem.mem_of_lookup h)))
  · unfold start
    show _ = N.length
    rw [List.length_append, List.length_map, List.length_replicate]
    omega
/-- THE RULE: a def (or a method) of the text, by its body. The body's reading t is chosen for each entry; it is run at the parameters' values -/
theorem fn_of {CX : CXT} {P : Program} {w : World} {K : PySem.W.Frag} {mg : Str → Option Value} {base : Heap} {k : Nat} {f : Addr} {name qual : Str} {params : Arguments} {body : List Stmt} {scope : Scope} {dV kV doc pm cdv ct oc : Value} {an od : Option Addr}
    {osl : Array (Option Value)} {N ps : List Str} {sp : Sp} (lk : K.lookup f = some ⟨oc, od, .func (PySem.W.fnOf name qual params body scope dV kV doc pm an cdv ct), osl⟩) (hcd : PySem.W.codeIn K cdv qual = true) (S : FnScope N ps scope)
    (len : ∀ vs H Q E, sp vs H Q E → vs.length = ps.length)
    (hbody : ∀ (A : Around) (outer : List Env) (s : Shared) (H : Hp) (vs : List V) (Q : VK) (E : XK), Room k (A.deeper (envOfC qual scope s.heap.objs.size f cdv)) → sp vs H Q E →
      ∃ t, PSs (cxOf CX P w K mg base N qual scope f cdv A outer s H E) body t ∧ t { nx := fun _ H' => Q .non H', rt := Q } (start N vs) H) :
    FnOk P w K mg base CX (k + 1) f (PySem.W.fnOf name qual params body scope dV kV doc pm an cdv ct) ps sp := by
  refine ⟨len, fun A outer s H args us vs Q E hr e0 hb r hsp => ?_⟩
  have hl := len _ _ _ _ hsp
  have KX : K.In s.heap := e0.mod.kin.keeps fun b o e => (e0.bs b o e).1
  have lim : s.heap.NoLimit := e0.mod.nolimit.keeps fun b o e => (e0.bs b o e).1
  have hkind : ∀ y ∈ ps.zip us, scope.names.lookup y.1 = some .local ∨ (scope.names.lookup y.1 = some .cell ∧ ((cellsFrom (s.heap.objs.size + 1) scope.names []).lookup y.1).isSome = true) := fun ⟨n, v⟩ hy => by
    rcases S.par n (List.of_mem_zip hy).1 with q | q
    · exact .inl q
    · exact .inr ⟨q, PySem.W.cellsFrom_some _ _ _ (.inl q)⟩
  refine codeAny_call_function hr.depth (KX _ _ lk) rfl S.co S.gen rfl (PySem.W.codeRec_of KX hcd) (hb _ _ _ _ ?_)
  refine wpAny_newFunctionEnv_cells S.kind hkind fun env he s1 x => ?_
  subst he
  refine ⟨lim.keeps x.toInCall.keep, codeAny_func ?_⟩
  obtain ⟨t, ht, hq⟩ := hbody A outer s H vs Q E (hr.deeper _) hsp
  have I : Inv (cxOf CX P w K mg base N qual scope f cdv A outer s H E) [] (start N vs) H s1 := inv_start S hr.hd e0 hl r x
  refine wpAny_mono (ht [] s1 (start N vs) H _ I hq) (fun fl s' hs => ?_) fun e s' hs => hs
  have fin : ∀ {σ' : St} {H' : Hp} {v : V} {u : Value}, Inv (cxOf CX P w K mg base N qual scope f cdv A outer s H E) [] σ' H' s' → RelV v u → Q v H' → CE outer P w H s Q u s' :=
    fun {σ' H' v u} J rv q => ⟨v, H', J.os, J.bare, J.base, J.hok, rv, q⟩
  cases fl with
  | ret u =>
    obtain ⟨v, σ', H', J, rv, q⟩ := hs
    exact fin J rv q
  | next =>
    obtain ⟨σ', H', J, q⟩ := hs
    exact fin (v := V.non) (u := Value.none) J rfl q
  | brk =>
    obtain ⟨_, _, _, q⟩ := hs
    exact False.elim q
  | cont =>
    obtain ⟨_, _, _, q⟩ := hs
    exact False.elim q
end L2
namespace L2
open PySem PySem.Spec PyProof.Rows
section
variable {X : Cx} {x : Str} {p pos : Pos} {e : Expr} {es : List Expr} {t : TA} {id T : String} {r : List V → Hp → VK → Prop}
def tCB (r : List V → Hp → VK → Prop) (t : TA) : TE := fun σ H Q => t σ H fun vs H1 => r vs H1 Q
/-- f(e, ..), f a built-in function -/
theorem pe_callB (hc : CallR X (.builtin id) r) (hg : Gl X x) (hm : X.mg x = none) (hv : bootBuiltins x = some (.builtin id)) (ha : PA X (e :: es) t) (hn : x ≠ "__name__" := by decide) (hdb : (x == ("__debug__" : Str)) = false := by decide)
    (he : starEach (e :: es) X.env = (false, eval e X.env) :: starEach es X.env := by rfl) (hpl : (backTo pos (starEach es X.env)).any (·.1) = false := by rfl) : PE X (.Call (.Name x p) (e :: es) [] pos) (tCB r t) := by
  intro pins s σ H Q I h
  refine wpAny_Call_Name_kw (ld_blt I hg hm hv ?_ hn hdb)
  exact PyProof.Rows.callWith_builtin1 (thn (ha pos pins s σ H _ I h) fun us s1 ⟨vs, H1, I1, r1, q1⟩ => hc pins s1 σ H1 vs us Q I1 r1 q1) he hpl
/-- T(e, ..), T a built-in type -/
theorem pe_callTy (hc : CallR X (.type T) r) (hg : Gl X x) (hm : X.mg x = none) (hv : bootBuiltins x = some (.type T)) (ha : PA X (e :: es) t) (hn : x ≠ "__name__" := by decide) (hdb : (x == ("__debug__" : Str)) = false := by decide)
    (he : starEach (e :: es) X.env = (false, eval e X.env) :: starEach es X.env := by rfl) (hpl : (backTo pos (starEach es X.env)).any (·.1) = false := by rfl) : PE X (.Call (.Name x p) (e :: es) [] pos) (tCB r t) := by
  intro pins s σ H Q I h
  refine wpAny_Call_Name_kw (ld_blt I hg hm hv ?_ hn hdb)
  exact PyProof.Rows.callWith_type1 (thn (ha pos pins s σ H _ I h) fun us s1 ⟨vs, H1, I1, r1, q1⟩ => hc pins s1 σ H1 vs us Q I1 r1 q1) he hpl
end
end L2
namespace HT
open PySem PyProof.Rows
section
open PySem.SeqAt
open PySem.AutoSeq1 (wpAny_loadPart')
open PySem.MeetsSeq PySem.MeetsSeq2 PySem.MeetsSeq3
end
section
variable {prog : Program} {w : World} {A : Around} {E : Value → Shared → Prop} {s : Shared}
/-! ### t[a:b], not the whole -/
/-- a slice's bound as a place among n (d where it is left out) -/
def sIx (n d : Nat) : Option Int → Nat
  | none => d
  | some v => if v < 0 then (v + (n : Int)).toNat else min v.toNat n
theorem sIx_none (n d : Nat) : sIx n d none = d := rfl
theorem sIx_nat (n d k : Nat) : sIx n d (some (k : Int)) = min k n := by
  show (if (k : Int) < 0 then ((k : Int) + (n : Int)).toNat else min (k : Int).toNat n) = min k n
  rw [if_neg (by omega), Int.toNat_natCast]
theorem clip_eq (v : Int) (n d : Nat) : (if v < 0 then max (v + (n : Int)) 0 else min v (n : Int)) = ((sIx n d (some v) : Nat) : Int) := by
  show (if v < 0 then max (v + (n : Int)) 0 else min v (n : Int)) = (((if v < 0 then (v + (n : Int)).toNat else min v.toNat n) : Nat) : Int)
  by_cases hv : v < 0
  · simp only [if_pos hv]; omega
  · simp only [if_neg hv]; omega
end
end HT
namespace L2
open PySem PySem.Spec PyProof.Rows
/-! ### the parts of a slice -/
abbrev TO := St → Hp → (Option Int → Hp → Prop) → Prop
/-- a slice's part (left out, or an int) -/
def PO (X : Cx) (e : Option Expr) (t : TO) : Prop :=
  ∀ (pins : List (Addr × Obj)) (s : Shared) (σ : St) (H : Hp) (Q : Option Int → Hp → Prop), Inv X pins σ H s → t σ H Q →
    wpAny (model X.prog X.w) X.A (evalPart e X.env) (fun u s' => ∃ o H', Inv X pins σ H' s' ∧ IsPart u o ∧ Q o H') X.xe s
def tNoPart : TO := fun _ H Q => Q none H
def tPart (t : TE) : TO := fun σ H Q => t σ H fun x H1 => ∃ i, x = .int i ∧ Q (some i) H1
section
variable {X : Cx} {e : Expr} {te : TE} {lo hi : Option Expr} {tl th : TO} {pos p2 : Pos}
theorem po_none : PO X none tNoPart := by
  intro pins s σ H Q I h
  rw [evalPart_none]
  exact wpAny_pure ⟨none, H, I, .none, h⟩
theorem po_some (h : PE X e te) : PO X (some e) (tPart te) := by
  intro pins s σ H Q I hw
  rw [evalPart_some]
  refine thn (h pins s σ H _ I hw) fun u s1 ⟨x, H1, I1, r1, q1⟩ => ?_
  obtain ⟨i, rfl, q⟩ := q1
  obtain ⟨t, rfl⟩ := r1
  exact ⟨some i, H1, I1, .int i t, q⟩
/-- what a slice of a value is, by values: the slice object stands at sl -/
def SlR (X : Cx) (r : V → Option Int → Option Int → Hp → VK → Prop) : Prop :=
  ∀ (pins : List (Addr × Obj)) (s : Shared) (σ : St) (H : Hp) (x : V) (v vl vu : Value) (lo hi : Option Int) (sl : Addr) (Q : VK), Inv X pins σ H s → RelV x v → s.heap.IsSliceOf sl vl vu .none → IsPart vl lo → IsPart vu hi → r x lo hi H Q →
    ∃ T id, typeLookup (.type T) "__getitem__" = pure (some (.builtin id)) ∧ s.TypeIs v T ∧ wpAny (model X.prog X.w) X.A (getItem v (.ref sl)) (EP X pins σ Q) X.xe s
def tSl (r : V → Option Int → Option Int → Hp → VK → Prop) (te : TE) (tl th : TO) : TE := fun σ H Q => te σ H fun x H1 => tl σ H1 fun l H2 => th σ H2 fun u H3 => r x l u H3 Q
/-- a[lo:hi], any a -/
theorem pe_slice {r : V → Option Int → Option Int → Hp → VK → Prop} (hr : SlR X r) (he : PE X e te) (hl : PO X lo tl) (hu : PO X hi th) : PE X (.Subscript e (.Slice lo hi none p2) pos) (tSl r te tl th) := by
  intro pins s σ H Q I h
  refine Subscript_ (thn (he pins s σ H _ I h) fun v s1 ⟨x, H1, I1, r1, q1⟩ => ?_)
  refine wpAny_Slice (thn (hl pins s1 σ H1 _ I1 q1) fun vl s2 ⟨l, H2, I2, pl, q2⟩ => thn (hu pins s2 σ H2 _ I2 q2) fun vu s3 ⟨u, H3, I3, pu, q3⟩ => ?_)
  rw [evalPart_none]
  refine wpAny_pure ?_
  have I4 : Inv X pins σ H3 { s3 with heap := s3.heap.push { cls := .type "slice", data := .fields #[vl, vu, .none] } } := I3.kept (t' := s3.toks) fun b ob q => Heap.get?_push_of_some _ q
  obtain ⟨T, id, hT, ht, hg⟩ := hr pins { s3 with heap := s3.heap.push { cls := .type "slice", data := .fields #[vl, vu, .none] } } σ H3 x v vl vu l u s3.heap.objs.size Q I4 r1 (Heap.IsSliceOf.new ..) pl pu q3
  show wpAny (model X.prog X.w) X.A (subscriptTail e (.Slice lo hi none p2) v (.ref s3.heap.objs.size)) (EP X pins σ Q) X.xe { s3 with heap := s3.heap.push { cls := .type "slice", data := .fields #[vl, vu, .none] } }
  exact tail_any (ops := [.ref s3.heap.objs.size, v]) ht hT hg (by with_unfolding_all rfl)
/-- the items of xs[lo:hi] -/
def cutV (xs : List V) (lo hi : Option Int) : List V := (xs.drop (HT.sIx xs.length 0 lo)).take (HT.sIx xs.length xs.length hi - HT.sIx xs.length 0 lo)
theorem cutV_length (xs : List V) (lo hi : Option Int) : (cutV xs lo hi).length ≤ xs.length := by
  unfold cutV
  rw [List.length_take, List.length_drop]
  omega
/-! ### t < u, t + u -/
end
end L2
namespace L2
open PySem PySem.Spec PyProof.Rows
/-! ### places -/
/-- the place that an index of any sign means -/
def ixN (n : Nat) (i : Int) : Option Nat := if 0 ≤ i then (if i < n then some i.toNat else none) else if -(n : Int) ≤ i then some (i + n).toNat else none
def atI {α : Type} (xs : List α) (i : Int) : Option α := (ixN xs.length i).bind fun j => xs[j]?
theorem ixN_seq {n : Nat} {i : Int} {j : Nat} (h : ixN n i = some j) : seqIndex? i n = some j ∧ j < n ∧ -(n : Int) ≤ i ∧ i < n := by
  unfold ixN at h
  by_cases h0 : 0 ≤ i
  · rw [if_pos h0] at h
    by_cases h1 : i < n
    · rw [if_pos h1] at h
      have e : i.toNat = j := Option.some.inj h
      exact ⟨by rw [seqIndex_of h0 h1, e], by omega, by omega, h1⟩
    · rw [if_neg h1] at h; cases h
  · rw [if_neg h0] at h
    by_cases h1 : -(n : Int) ≤ i
    · rw [if_pos h1] at h
      have e : (i + n).toNat = j := Option.some.inj h
      exact ⟨by rw [seqIndex_neg (by omega) h1, e], by omega, h1, by omega⟩
    · rw [if_neg h1] at h; cases h
theorem atI_get {α : Type} {xs : List α} {i : Int} {v : α} (h : atI xs i = some v) : ∃ j, seqIndex? i xs.length = some j ∧ xs[j]? = some v ∧ j < xs.length ∧ -(xs.length : Int) ≤ i ∧ i < xs.length := by
  unfold atI at h
  cases e : ixN xs.length i with
  | none => rw [e] at h; cases h
  | some j =>
    rw [e] at h
    obtain ⟨h1, h2, h3, h4⟩ := ixN_seq e
    exact ⟨j, h1, h, h2, h3, h4⟩
theorem atI_nat {α : Type} {xs : List α} {j : Nat} {v : α} (h : xs[j]? = some v) : atI xs (j : Int) = some v := by
  have hj : j < xs.length := (List.getElem?_eq_some_iff.mp h).1
  have e : ixN xs.length (j : Int) = some j := by
    unfold ixN
    rw [if_pos (by omega), if_pos (by omega)]; simp
  unfold atI; rw [e]; exact h
theorem atI_last {α : Type} (xs : List α) (v : α) : atI (xs ++ [v]) (-1) = some v := by
  have hl : (xs ++ [v]).length = xs.length + 1 := by simp
  have e : ixN (xs ++ [v]).length (-1) = some xs.length := by
    unfold ixN
    rw [hl, if_neg (by decide), if_pos (by omega)]
    congr 1
    omega
  unfold atI
  rw [e]
  show (xs ++ [v])[xs.length]? = some v
  simp
/-! ### what may be subscripted -/
/-- what stands as an index of a plain subscript -/
def PlainIx (b : Expr) : Prop := ∀ o i, subscripted b false o i = operate [o, i] (getItem o i)
/-- a subscript by values -/
def IxR (X : Cx) (r : R2) : Prop :=
  ∀ (value slice : Expr) (pins : List (Addr × Obj)) (s : Shared) (σ : St) (H : Hp) (x y : V) (v u : Value) (Q : VK), Inv X pins σ H s → RelV x v → RelV y u → r x y H Q →
    subscripted slice false v u = operate [v, u] (getItem v u) → wpAny (model X.prog X.w) X.A (subscriptTail value slice v u) (EP X pins σ Q) X.xe s
/-- a call of a builtin's method by values: the receiver, the arguments -/
def MtR (X : Cx) (id : String) (r : V → List V → Hp → VK → Prop) : Prop :=
  ∀ (pins : List (Addr × Obj)) (s : Shared) (σ : St) (H : Hp) (x : V) (xs : List V) (v : Value) (us : List Value) (Q : VK), Inv X pins σ H s → RelV x v → Vals xs us → r x xs H Q →
    wpAny (model X.prog X.w) X.A (call (.builtin id) (v :: us)) (EP X pins σ Q) X.xe s
section
variable {X : Cx} {a b : Expr} {ta tb : TE} {pos : Pos}
/-- a[b] -/
theorem pe_ix {r : R2} (hr : IxR X r) (ha : PE X a ta) (hb : PE X b tb) (hs : PlainIx b) : PE X (.Subscript a b pos) (tOp r ta tb) := by
  intro pins s σ H Q I h
  exact Subscript_ (binT ha hb I h fun v u s2 x y H2 I2 rx ry q => hr a b pins s2 σ H2 x y v u Q I2 rx ry q (hs _ _))
def rIxL (K : PySem.W.Frag) : R2 := fun x y H Q => ∃ p xs i v, x = .ref p ∧ y = .int i ∧ SqL K H p xs ∧ atI xs i = some v ∧ Q v H
def rIxT (K : PySem.W.Frag) : R2 := fun x y H Q => ∃ p xs i v, x = .ref p ∧ y = .int i ∧ SqT K H p xs ∧ atI xs i = some v ∧ Q v H
theorem ix_list : IxR X (rIxL X.K) := by
  intro value slice pins s σ H x y v u Q I rx ry h hs
  obtain ⟨p, xs, i, z, rfl, rfl, hq, he, q⟩ := h
  cases rx
  obtain ⟨t, rfl⟩ := ry
  obtain ⟨its, r, pl, hz⟩ := I.list hq
  obtain ⟨j, h1, h2, h3, h4, h5⟩ := atI_get he
  obtain ⟨w, ew, rw'⟩ := r.get h2
  have hl := r.length
  have hn := line63
  have fin : EP X pins σ Q w s := ⟨z, H, I, rw', q⟩
  by_cases h0 : 0 ≤ i
  · have hj : i.toNat = j := by
      rw [seqIndex_of h0 h5] at h1
      exact Option.some.inj h1
    exact item_listR pl.isList h0 (by omega) (by rw [hj]; simpa using ew) fin hs
  · have hj : (i + (its.toArray.size : Int)).toNat = j := by
      rw [seqIndex_neg (by omega) h4] at h1
      rw [List.size_toArray, ← hl]
      exact Option.some.inj h1
    exact subscriptTail_builtinR (x := w) pl.isList.typeIs slot_list_getitem.lookup
      (wpAny_getItem_list_neg (Q := fun r s' => r = w ∧ EP X pins σ Q r s') pl.isList (by omega) (by rw [List.size_toArray] <;> omega) (by omega) (by rw [hj]; simpa using ew) ⟨rfl, fin⟩) hs
theorem ix_tup : IxR X (rIxT X.K) := by
  intro value slice pins s σ H x y v u Q I rx ry h hs
  obtain ⟨p, xs, i, z, rfl, rfl, hq, he, q⟩ := h
  cases rx
  obtain ⟨t, rfl⟩ := ry
  obtain ⟨its, r, pl, hz⟩ := I.tuple hq
  obtain ⟨j, h1, h2, h3, h4, h5⟩ := atI_get he
  obtain ⟨w, ew, rw'⟩ := r.get h2
  have hl := r.length
  have hn := line63
  have fin : EP X pins σ Q w s := ⟨z, H, I, rw', q⟩
  exact subscriptTail_builtinR (x := w) pl.typeIs slot_tuple_getitem.lookup
    (getItem_tuple (j := j) (Q := fun r s' => r = w ∧ EP X pins σ Q r s') pl (by omega) (by omega) (by rw [List.size_toArray, ← hl]; exact h1) (by simpa using ew) ⟨rfl, fin⟩) hs
/-! ### xs[i] = v, any sign -/
/-- the list's object behind a store -/
theorem mapSeq_set (its : List Value) (n j : Nat) (u : Value) : Obj.mapSeq (·.setIfInBounds j u) { cls := .type "list", data := .seq its.toArray n } = { cls := .type "list", data := .seq (its.set j u).toArray n } := by
  simp [Obj.mapSeq]
theorem Inv.lst {pins : List (Addr × Obj)} {σ : St} {H : Hp} {s : Shared} {p : Addr} {xs : List V} (I : Inv X pins σ H s) (h : H p = some (.lst xs)) :
    ∃ (its : List Value) (n : Nat), Vals xs its ∧ s.heap.get? p = some { cls := .type "list", data := .seq its.toArray n } ∧ xs.length ≤ sizeLine := by
  obtain ⟨z, its, n, r, e⟩ := I.hok p _ h
  exact ⟨its, n, r, e, z⟩
/-- the list at p is written by an update of its object -/
theorem Inv.lstUpd {pins : List (Addr × Obj)} {σ : St} {H : Hp} {s : Shared} {p : Addr} {xs ys : List V} {its its' : List Value} {n n' : Nat} {f : Obj → Obj} (I : Inv X pins σ H s) (h : H p = some (.lst xs))
    (ho : s.heap.get? p = some { cls := .type "list", data := .seq its.toArray n }) (hf : f { cls := .type "list", data := .seq its.toArray n } = { cls := .type "list", data := .seq its'.toArray n' }) (r : Vals ys its') (hz : ys.length ≤ sizeLine) (t : Nat) :
    Inv X pins σ (upd H p (.lst ys)) { s with heap := s.heap.update p f, toks := t } := by
  have e : (s.heap.update p f).get? p = some { cls := .type "list", data := .seq its'.toArray n' } := by
    rw [Heap.get?_update_self f ho (by rw [hf] <;> rfl), hf]
  refine I.write (x := p) (e := p) (by rw [h]; trivial) (.inl rfl) (fun b u hb q => (Heap.get?_update_other _ _ (Ne.symm hb)).trans q) ⟨_, e⟩ ?_
  exact ⟨hz, its', n', r, e⟩
def rSetL : V → V → V → Hp → (Hp → Prop) → Prop := fun o i v H Q => ∃ p xs k j, o = .ref p ∧ i = .int k ∧ H p = some (.lst xs) ∧ ixN xs.length k = some j ∧ Q (upd H p (.lst (xs.set j v)))
theorem set_list : PSet X rSetL := by
  intro pins s σ H o i v ov iv u Q I ro ri rv h
  obtain ⟨p, xs, k, j, rfl, rfl, hp, hj, q⟩ := h
  cases ro
  obtain ⟨t, rfl⟩ := ri
  obtain ⟨its, n, r, ho, hz⟩ := I.lst hp
  obtain ⟨h1, h2, h3, h4⟩ := ixN_seq hj
  have hl := r.length
  have hn := line63
  have I' : Inv X pins σ (upd H p (.lst (xs.set j v))) { s with heap := s.heap.update p (Obj.mapSeq (·.setIfInBounds j u)) } :=
    I.lstUpd hp ho (mapSeq_set its n j u) (r.set rv j) (by rw [List.length_set]; exact hz) s.toks
  by_cases h0 : 0 ≤ k
  · have hk : k.toNat = j := by
      rw [seqIndex_of h0 h4] at h1
      exact Option.some.inj h1
    exact PySem.W.ki_setAt ho h0 (by omega) (by rw [List.size_toArray, ← hl]; exact h4) (by rw [hk]; exact ⟨_, I', q⟩)
  · have hk : (k + (its.toArray.size : Int)).toNat = j := by
      rw [seqIndex_neg (by omega) h3] at h1
      rw [List.size_toArray, ← hl]
      exact Option.some.inj h1
    exact PySem.W.ki_setBack ho (by omega) (by rw [List.size_toArray, ← hl]; exact h3) (by omega) (by rw [hk]; exact ⟨_, I', q⟩)
/-! ### slices -/
theorem slice_bounds (lo hi : Option Int) (n : Nat) : (sliceBounds lo hi none n).1 = ((HT.sIx n 0 lo : Nat) : Int) ∧ (sliceBounds lo hi none n).2.1 = ((HT.sIx n n hi : Nat) : Int) ∧ (sliceBounds lo hi none n).2.2 = 1 := by
  refine ⟨?_, ?_, rfl⟩
  · cases lo with
    | none => simp [sliceBounds, HT.sIx]
    | some i =>
      simp only [sliceBounds, HT.sIx, Option.getD_none, show (1 : Int) > 0 by decide, if_true]
      by_cases h : i < 0
      · simp only [h, if_true] <;> omega
      · simp only [h, if_false] <;> omega
  · cases hi with
    | none => simp [sliceBounds, HT.sIx]
    | some i =>
      simp only [sliceBounds, HT.sIx, Option.getD_none, show (1 : Int) > 0 by decide, if_true]
      by_cases h : i < 0
      · simp only [h, if_true] <;> omega
      · simp only [h, if_false] <;> omega
theorem slicePick_cut (its : List Value) (lo hi : Option Int) : slicePick its.toArray lo hi none = ((its.drop (HT.sIx its.length 0 lo)).take (HT.sIx its.length its.length hi - HT.sIx its.length 0 lo)).toArray := by
  obtain ⟨h1, h2, h3⟩ := slice_bounds lo hi its.toArray.size
  unfold slicePick
  rw [h1, h2, h3]
  simp only [sliceRange_one, pick_run, List.size_toArray] <;> rfl
/-- xs[lo:hi] of a list: a new list -/
def rSlL (K : PySem.W.Frag) : V → Option Int → Option Int → Hp → VK → Prop := fun x lo hi H Q => ∃ a xs, x = .ref a ∧ SqL K H a xs ∧ ∀ p, H p = none → Q (.ref p) (upd H p (.lst (cutV xs lo hi)))
theorem sl_list : SlR X (rSlL X.K) := by
  intro pins s σ H x v vl vu lo hi sl Q I rx hs pl pu h
  obtain ⟨a, xs, rfl, hx, q⟩ := h
  cases rx
  obtain ⟨its, r, ht, hz⟩ := I.list hx
  have hlen := r.length
  refine ⟨"list", _, slot_list_getitem.lookup, ht.isList.typeIs, ?_⟩
  refine wpAny_getItem_list_slice ht.isList hs pl pu .none (by simp) ?_ (by rw [List.size_toArray] <;> omega)
  rw [slicePick_cut, ← hlen]
  refine ⟨.ref s.heap.objs.size, _, I.laid (t' := s.toks) (o := .lst (cutV xs lo hi)) (fun b ob q => Heap.get?_push_of_some _ q) (Nat.le_refl _) ?_, rfl, q _ (I.hok.fresh (Nat.le_refl _))⟩
  exact ⟨Nat.le_trans (cutV_length xs lo hi) hz, _, 0, (r.drop (HT.sIx xs.length 0 lo)).take (HT.sIx xs.length xs.length hi - HT.sIx xs.length 0 lo), Heap.get?_push_size _ rfl⟩
/-! ### in, not in: flat items -/
def flatV : V → Bool
  | .non => true
  | .bl _ => true
  | .int _ => true
  | .str _ => true
  | _ => false
/-- == of flat values -/
def eqV : V → V → Bool
  | .non, .non => true
  | .bl a, .bl b => a == b
  | .bl a, .int b => (if a then 1 else 0) == b
  | .int a, .bl b => a == (if b then 1 else 0)
  | .int a, .int b => a == b
  | .str a, .str b => a == b
  | _, _ => false
theorem eqAt_V {A : Around} {s : Shared} {y x : V} {u v : Value} (ry : RelV y u) (rx : RelV x v) (fy : flatV y = true) (fx : flatV x = true) : SeqAt.EqAt A s u v (eqV y x) := by
  cases y with
  | non =>
    cases ry
    cases x with
    | non => cases rx; exact SeqAt.EqAt.same _
    | bl b => cases rx; exact SeqAt.EqAt.none_bool b
    | int b => obtain ⟨t, rfl⟩ := rx; exact SeqAt.EqAt.none_int b t
    | str b => obtain ⟨t, rfl⟩ := rx; exact SeqAt.EqAt.none_str b t
    | _ => exact absurd (show false = true from fx) Bool.false_ne_true
  | bl a =>
    cases ry
    cases x with
    | non => cases rx; exact SeqAt.EqAt.bool_none a
    | bl b => cases rx; exact SeqAt.EqAt.bool_bool a b
    | int b => obtain ⟨t, rfl⟩ := rx; exact SeqAt.EqAt.bool_int a b t
    | str b => obtain ⟨t, rfl⟩ := rx; exact SeqAt.EqAt.bool_str a b t
    | _ => exact absurd (show false = true from fx) Bool.false_ne_true
  | int a =>
    obtain ⟨t', rfl⟩ := ry
    cases x with
    | non => cases rx; exact SeqAt.EqAt.int_none a t'
    | bl b => cases rx; exact SeqAt.EqAt.int_bool a t' b
    | int b => obtain ⟨t, rfl⟩ := rx; exact SeqAt.EqAt.int_int a t' b t
    | str b => obtain ⟨t, rfl⟩ := rx; exact SeqAt.EqAt.int_str a t' b t
    | _ => exact absurd (show false = true from fx) Bool.false_ne_true
  | str a =>
    obtain ⟨t', rfl⟩ := ry
    cases x with
    | non => cases rx; exact SeqAt.EqAt.str_none a t'
    | bl b => cases rx; exact SeqAt.EqAt.str_bool a t' b
    | int b => obtain ⟨t, rfl⟩ := rx; exact SeqAt.EqAt.str_int a t' b t
    | str b => obtain ⟨t, rfl⟩ := rx; exact SeqAt.EqAt.str_str a t' b t
    | _ => exact absurd (show false = true from fx) Bool.false_ne_true
  | _ => exact absurd (show false = true from fy) Bool.false_ne_true
/-! ### len, list(x), tuple(x) of any list or tuple that is read -/
theorem call_len_seq : CallR X (.builtin "len") (fun xs H Q => ∃ p ys, xs = [.ref p] ∧ (SqL X.K H p ys ∨ SqT X.K H p ys) ∧ Q (.int ys.length) H) := by
  intro pins s σ H xs us Q I r h
  obtain ⟨p, ys, rfl, hq, q⟩ := h
  obtain ⟨u, rfl, rx⟩ := vals1 r
  cases rx
  have hn := line63
  rcases hq with hq | hq
  · obtain ⟨its, r', pl, hz⟩ := I.list hq
    have hlen := r'.length
    exact Calls.call_len_list pl.isList (by simp only [List.size_toArray] <;> omega) ⟨.int ys.length, H, I.tok _, ⟨s.toks + 1, by rw [List.size_toArray, hlen]⟩, q⟩
  · obtain ⟨its, r', pl, hz⟩ := I.tuple hq
    have hlen := r'.length
    exact len_tuple pl (by simp only [List.size_toArray] <;> omega) ⟨.int ys.length, H, I.tok _, ⟨s.toks + 1, by rw [List.size_toArray, hlen]⟩, q⟩
theorem call_list_of : CallR X (.type "list") (fun xs H Q => ∃ p ys, xs = [.ref p] ∧ (SqL X.K H p ys ∨ SqT X.K H p ys) ∧ ∀ l, H l = none → Q (.ref l) (upd H l (.lst ys))) := by
  intro pins s σ H xs us Q I r h
  obtain ⟨p, ys, rfl, hq, q⟩ := h
  obtain ⟨u, rfl, rx⟩ := vals1 r
  cases rx
  have fin : ∀ (its : List Value), Vals ys its → ys.length ≤ sizeLine → ∀ (h' : Heap) (c' : Nat), (∀ b o', s.heap.get? b = some o' → h'.get? b = some o') →
      h'.get? s.heap.objs.size = some { cls := .type "list", dict := none, data := .seq its.toArray c', slots := #[] } → EP X pins σ Q (.ref s.heap.objs.size) { s with heap := h' } := fun its r' hz h' c' kp e =>
    ⟨.ref s.heap.objs.size, _, I.laid (t' := s.toks) kp (Nat.le_refl _) (show ObjOk X.prog X.w _ h' _ (.lst ys) from ⟨hz, its, c', r', e⟩), rfl, q _ (I.hok.fresh (Nat.le_refl _))⟩
  rcases hq with hq | hq
  · obtain ⟨its, r', pl, hz⟩ := I.list hq
    have hlen := r'.length
    obtain ⟨o, ho, hc, n, hd⟩ := pl.isList
    exact call_list_seq p (.inl rfl) ho hc hd (fun h' c' kp e => fin its r' hz h' c' kp e) (by simp only [List.size_toArray] <;> omega)
  · obtain ⟨its, r', pl, hz⟩ := I.tuple hq
    have hlen := r'.length
    obtain ⟨o, ho, hc, n, hd⟩ := pl
    exact call_list_seq p (.inr rfl) ho hc hd (fun h' c' kp e => fin its r' hz h' c' kp e) (by simp only [List.size_toArray] <;> omega)
/-! ### the call of a builtin's method: o.m(..) -/
/-- the value is of that builtin type -/
def tyV (K : PySem.W.Frag) (T : String) (x : V) (H : Hp) : Prop := match x with
  | .str _ => T = "str"
  | .int _ => T = "int"
  | .ref p => (T = "list" ∧ ∃ xs, SqL K H p xs) ∨ (T = "tuple" ∧ ∃ o, K.lookup p = some o ∧ o.cls = .type "tuple" ∧ o.dict = none) ∨
      (T = "dict" ∧ ((∃ kvs, H p = some (.dK kvs)) ∨ ∃ kvs, H p = some (.dT kvs))) ∨ (T = "set" ∧ ∃ S n, H p = some (.set S n))
  | _ => False
theorem tyV_is {pins : List (Addr × Obj)} {σ : St} {H : Hp} {s : Shared} {T : String} {x : V} {v : Value} (I : Inv X pins σ H s) (r : RelV x v) (ty : tyV X.K T x H) :
    s.TypeIs v T ∧ ∀ a, v = .ref a → ∃ ob, s.heap.get? a = some ob ∧ ob.dict = none := by
  cases x with
  | str z =>
    obtain ⟨t, rfl⟩ := r
    cases (show T = "str" from ty)
    exact ⟨typeIs_str s z t, fun _ e => nomatch e⟩
  | int i =>
    obtain ⟨t, rfl⟩ := r
    cases (show T = "int" from ty)
    exact ⟨typeIs_int s i t, fun _ e => nomatch e⟩
  | ref p =>
    cases r
    rcases ty with ⟨rfl, xs, hq⟩ | ⟨rfl, o, hk, hc, hd⟩ | ⟨rfl, hk⟩ | ⟨rfl, S, n, hk⟩
    · obtain ⟨its, _, pl, _⟩ := I.list hq
      refine ⟨pl.isList.typeIs, fun a e => ?_⟩
      cases e
      obtain ⟨o, n, e, c, hd, _⟩ := pl
      exact ⟨o, e, hd⟩
    · refine ⟨⟨o, I.kIn p o hk, hc⟩, fun a e => ?_⟩
      cases e
      exact ⟨o, I.kIn _ o hk, hd⟩
    · have z : ∃ o, s.heap.get? p = some o ∧ o.ExactDict := by
        rcases hk with ⟨kvs, hk⟩ | ⟨kvs, hk⟩
        · obtain ⟨_, _, _, _, o, _, _, e, ex, _⟩ := I.hok p _ hk
          exact ⟨o, e, ex⟩
        · obtain ⟨_, _, _, _, o, _, _, e, ex, _⟩ := I.hok p _ hk
          exact ⟨o, e, ex⟩
      obtain ⟨o, e, ex⟩ := z
      refine ⟨⟨o, e, ex.1⟩, fun a e2 => ?_⟩
      cases e2
      exact ⟨o, e, ex.2.1⟩
    · obtain ⟨o, _, _, _, e, ex, _⟩ := I.hok p _ hk
      refine ⟨⟨o, e, ex.1⟩, fun a e2 => ?_⟩
      cases e2
      exact ⟨o, e, ex.2.1⟩
  | _ => exact False.elim ty
def tBM (K : PySem.W.Frag) (T : String) (r : V → List V → Hp → VK → Prop) (to : TE) (t : TA) : TE := fun σ H Q => to σ H fun x H1 => tyV K T x H1 ∧ t σ H1 fun xs H2 => r x xs H2 Q
variable {o e : Expr} {es : List Expr} {to : TE} {t : TA} {name : Str} {apos cpos : Pos} {T id : String} {r : V → List V → Hp → VK → Prop}
theorem pe_bm (pa : PlainAttrs T) (slot : Slot T name id) (hty : typeOf (.builtin id) = pure (.type "method_descriptor")) (hm : MtR X id r) (ho : PE X o to) (ha : PA X (e :: es) t)
    (hbase : attributeBase o name X.env (eval o X.env) = eval o X.env := by rfl)
    (hfew : ((backTo cpos (starEach (e :: es) X.env)).all (fun x => !x.1) && (backToKw cpos (keywordEach [] X.env)).all (fun x => x.1.isSome)
      && decide ((e :: es).length + ([] : List Keyword).length + (if ([] : List Keyword).isEmpty then 0 else 1) < 30)) = true := by rfl)
    (hline : (apos.endLine == cpos.line) = true := by rfl) (hs : starEach (e :: es) X.env = (false, eval e X.env) :: starEach es X.env := by rfl) (hplain : (backTo cpos (starEach es X.env)).any (·.1) = false := by rfl) :
    PE X (.Call (.Attribute o name apos) (e :: es) [] cpos) (tBM X.K T r to t) := by
  intro pins s σ H Q I h
  refine wpAny_Call_method_late hbase hfew hline rfl (thn (ho pins s σ H _ I h) fun v s1 ⟨x, H1, I1, r1, ty, q1⟩ => ?_)
  obtain ⟨h1, h2⟩ := tyV_is I1 r1 ty
  refine ⟨T, id, pa, slot, hty, h1, h2, ?_⟩
  have hA := ha cpos pins s1 σ H1 _ I1 q1
  rw [hs] at hA ⊢
  refine Calls.callWith_builtin (by show (false || (backTo cpos (starEach es X.env)).any (·.1)) = false; rw [hplain] <;> rfl) (Calls.evalArgs_plain ?_)
  exact thn hA fun us s2 ⟨vs, H2, I2, r2, q2⟩ => hm pins s2 σ H2 x vs v us Q I2 r1 r2 q2
/- xs.append(e), list.index on a module's tuple .. are MtR facts of 06m -/
end
end L2
namespace L2
open PySem PySem.Spec PyProof.Rows
def MtM (X : Cx) (id : String) (r : V → List V → Hp → VK → Prop) : Prop :=
  ∀ (pins : List (Addr × Obj)) (s : Shared) (σ : St) (H : Hp) (x : V) (xs : List V) (v : Value) (us : List Value) (Q : VK), Inv X pins σ H s → RelV x v → Vals xs us → r x xs H Q →
    wpAny (model X.prog X.w) X.A (call (.builtin id) (v :: us)) (EP X pins σ Q) X.xe s
/-! ### lists of values -/
theorem Vals.one : ∀ {x : V} {us : List Value}, Vals [x] us → ∃ u, us = [u] ∧ RelV x u
  | _, _, .cons r .nil => ⟨_, rfl, r⟩
theorem Vals.rep {xs : List V} {us : List Value} (h : Vals xs us) : ∀ k : Nat, Vals (List.replicate k xs).flatten (List.replicate k us).flatten
  | 0 => .nil
  | k + 1 => by
    rw [List.replicate_succ, List.replicate_succ, List.flatten_cons, List.flatten_cons]
    exact Vals.append h (Vals.rep h k)
theorem foldl_rep (its : List Value) : ∀ (k : Nat) (acc : List Value),
    List.foldl (fun x1 x2 => x1 ++ x2) acc.toArray (List.replicate k its.toArray) = (acc ++ (List.replicate k its).flatten).toArray
  | 0, acc => by simp
  | k + 1, acc => by
    have e : acc.toArray ++ its.toArray = (acc ++ its).toArray := by simp
    have e2 : (acc ++ its) ++ (List.replicate k its).flatten = acc ++ (List.replicate (k + 1) its).flatten := by
      rw [List.replicate_succ, List.flatten_cons, List.append_assoc]
    rw [← e2, ← foldl_rep its k (acc ++ its), ← e, List.replicate_succ, List.foldl_cons]
section
variable {X : Cx} {pins : List (Addr × Obj)} {σ : St} {H : Hp} {s : Shared} {l b : Addr} {xs ys zs : List V}
/-! ### the two steps: a tracked list is rewritten, a new list is laid -/
theorem Inv.lset {its its' : List Value} {n : Nat} {f : Array Value → Array Value} {t' : Nat} (I : Inv X pins σ H s) (hH : H l = some (.lst xs))
    (e : s.heap.get? l = some { cls := .type "list", data := .seq its.toArray n }) (hf : f its.toArray = its'.toArray) (hv : Vals ys its') (hz : ys.length ≤ sizeLine) :
    Inv X pins σ (upd H l (.lst ys)) { s with heap := s.heap.update l (Obj.mapSeq f), toks := t' } := by
  have q := PySem.IsL.update e f
  rw [hf] at q
  refine I.write (x := l) (e := l) (by rw [hH]; exact trivial) (.inl rfl) (fun b' u hb hu => (Heap.get?_update_other s.heap (Obj.mapSeq f) (Ne.symm hb)).trans hu) ⟨_, q⟩ ?_
  exact ⟨hz, its', _, hv, q⟩
theorem Inv.lnew {its : List Value} {t' : Nat} (I : Inv X pins σ H s) (hv : Vals ys its) (hz : ys.length ≤ sizeLine) :
    Inv X pins σ (upd H s.heap.objs.size (.lst ys)) { s with heap := s.heap.push { cls := .type "list", data := .seq its.toArray }, toks := t' } :=
  I.laid (fun _ _ q => Heap.get?_push_of_some _ q) (Nat.le_refl _) ⟨hz, its, 0, hv, Heap.get?_push_size _ rfl⟩
theorem Inv.fresh (I : Inv X pins σ H s) : H s.heap.objs.size = none := I.hok.fresh (Nat.le_refl _)
theorem Inv.lstM (I : Inv X pins σ H s) (hH : H l = some (.lst xs)) : xs.length ≤ sizeLine ∧ ∃ (its : List Value) (n : Nat), Vals xs its ∧ xs.length = its.length ∧ s.heap.get? l = some { cls := .type "list", data := .seq its.toArray n } := by
  obtain ⟨z, its, n, r, e⟩ := I.hok l _ hH
  exact ⟨z, its, n, r, r.length, e⟩
theorem notLongL {n : Nat} (h : n ≤ sizeLine) : Builtin.List.listTooLong n = false := by
  unfold Builtin.List.listTooLong
  exact decide_eq_false (by omega)
end
section
variable {X : Cx}
/-! ### methods -/
def rAppend : V → List V → Hp → VK → Prop := fun x vs H Q => ∃ l xs y, x = .ref l ∧ vs = [y] ∧ H l = some (.lst xs) ∧ xs.length < sizeLine ∧ Q .non (upd H l (.lst (xs ++ [y])))
theorem mt_append : MtM X "list.append" rAppend := by
  intro pins s σ H x vs v us Q I rx rv h
  obtain ⟨l, xs, y, rfl, rfl, hH, hz, q⟩ := h
  cases rx
  obtain ⟨u, rfl, ru⟩ := rv.one
  obtain ⟨z, its, n, r, hl, e⟩ := I.lstM hH
  refine call_meets F.slot_list_append ⟨_, e, rfl⟩ F.entry_list_append (F.args_list_append_2 _ _) (PySem.list_append l its.toArray n u (by rw [List.size_toArray]; omega)) ⟨e, ?_⟩
  refine ⟨.non, _, I.lset (its' := its ++ [u]) hH e (by simp) (r.append (.cons ru .nil)) ?_, rfl, q⟩
  rw [List.length_append, List.length_singleton]
  omega
/-! ### list + list, list += list, list * int -/
def rCat : R2 := fun x y H Q => ∃ l b xs zs, x = .ref l ∧ y = .ref b ∧ H l = some (.lst xs) ∧ H b = some (.lst zs) ∧ xs.length + zs.length ≤ sizeLine ∧ ∀ p, H p = none → Q (.ref p) (upd H p (.lst (xs ++ zs)))
theorem op_cat : OpR X (binaryOp .Add) rCat := by
  intro pins s σ H x y v u Q I rx ry h
  obtain ⟨l, b, xs, zs, rfl, rfl, hH, hB, hz, q⟩ := h
  cases rx
  cases ry
  obtain ⟨z, its, n, r, hl, e⟩ := I.lstM hH
  obtain ⟨z2, its2, n2, r2, hl2, e2⟩ := I.lstM hB
  refine PySem.P.add_list e e2 ?_ (by rw [List.size_toArray, List.size_toArray]; omega)
  have ea : its.toArray ++ its2.toArray = (its ++ its2).toArray := by simp
  rw [ea]
  exact ⟨.ref _, _, I.lnew (t' := s.toks) (r.append r2) (by rw [List.length_append]; omega), rfl, q _ I.fresh⟩
/-- a list times an int (a negative one is nothing) -/
def rRep : R2 := fun x y H Q => ∃ l k xs, x = .ref l ∧ y = .int k ∧ H l = some (.lst xs) ∧ -(2 ^ 63) ≤ k ∧ k < 2 ^ 63 ∧ xs.length * k.toNat ≤ sizeLine ∧
  ∀ p, H p = none → Q (.ref p) (upd H p (.lst (List.replicate k.toNat xs).flatten))
theorem len_rep {α : Type} (xs : List α) (k : Nat) : (List.replicate k xs).flatten.length = k * xs.length := by
  induction k with
  | zero => simp
  | succ k ih => rw [List.replicate_succ, List.flatten_cons, List.length_append, ih, Nat.succ_mul, Nat.add_comm]
theorem op_rep : OpR X (binaryOp .Mult) rRep := by
  intro pins s σ H x y v u Q I rx ry h
  obtain ⟨l, k, xs, rfl, rfl, hH, h1, h2, hz, q⟩ := h
  cases rx
  obtain ⟨t, rfl⟩ := ry
  obtain ⟨z, its, n, r, hl, e⟩ := I.lstM hH
  have hlen : its.toArray.size * k.toNat ≤ sizeLine := by rw [List.size_toArray, ← hl]; exact hz
  have hcap : ¬ its.toArray.size * k.toNat > (2 ^ 63 - 1) / 8 := by
    have : (sizeLine : Nat) ≤ (2 ^ 63 - 1) / 8 := by decide
    omega
  have hfit : ¬ (!Builtin.List.listFitsIndex k) = true := by
    rw [fitsIndex_both h1 h2]
    exact Bool.false_ne_true
  have hlong : ¬ Builtin.List.listTooLong (its.toArray.size * k.toNat) = true := by
    rw [notLongL hlen]
    exact Bool.false_ne_true
  have hnew : List.foldl (fun x1 x2 => x1 ++ x2) #[] (List.replicate (if its.toArray.isEmpty = true then 0 else k.toNat) its.toArray) = (List.replicate k.toNat its).flatten.toArray := by
    have f0 : ∀ m : Nat, List.foldl (fun x1 x2 => x1 ++ x2) #[] (List.replicate m its.toArray) = (List.replicate m its).flatten.toArray := fun m => by
      have := foldl_rep its m []
      rw [List.nil_append] at this
      exact this
    rw [f0]
    cases its with
    | nil => simp
    | cons a r' => rw [if_neg (by simp)]
  refine wpAny_binaryOp_repeat_ref (T := "list") (U := "int") (by decide) ⟨_, e, rfl⟩ (fun s' => typeIs_int s' k t) noFill_list_mul F.fills_int_mul F.slot_int_rmul repeat_list F.slot_int_index.lookup
    (call_meets F.slot_int_rmul (typeIs_int s k t) F.entry_int_rmul (F.args_int_rmul_2 _ _) (int___rmul___int_list k t l its.toArray n)
      ⟨e, rfl, ⟨_, e, rfl⟩, call_meets F.slot_list_mul ⟨_, e, rfl⟩ F.entry_list_mul (F.args_list_mul_2 _ _) (AutoListH.list___mul___list_int_3 l its.toArray n k t hfit hcap hlong) ⟨e, ?_⟩⟩)
  rw [hnew]
  exact ⟨.ref _, _, I.lnew (t' := s.toks) (r.rep k.toNat) (by rw [len_rep, Nat.mul_comm]; exact hz), rfl, q _ I.fresh⟩
/-! ### del xs[i] -/
end
/-! ### xs[a:b] = ys -/
section
variable {prog : Program} {w : World} {A : Around} {E : Value → Shared → Prop} {s : Shared}
set_option maxRecDepth 100000 in
end
section
variable {X : Cx}
end
end L2
namespace Att
open PySem PySem.W PySem.Calls PyProof.Rows
/-! ### the script -/
theorem ints_of_wellAll {P : Params} {h : Heap} : ∀ (ns : List Int) (vs : List Value), WellAll P h vs (ns.map WData.int) → IntsAre vs ns := by
  intro ns
  induction ns with
  | nil =>
    intro vs w
    rw [List.map_nil] at w
    cases w
    exact .nil
  | cons n ns ih =>
    intro vs w
    rw [List.map_cons] at w
    cases w with
    | cons a b =>
      cases a
      exact .cons _ _ (ih _ b)
theorem script_of {l : OpenLaw} {n : Nat} (hn : l.most = some n) {P : Params} {h : Heap} {args : List WData} {vals : List Value}
    (hpre : l.row.toRowW.claim.pre args = true) (hwl : WellAll P h vals args) :
    ∃ a vs ns, vals = [Value.ref a] ∧ args = [WData.list (ns.map WData.int)] ∧ h.get? a = some { cls := .type "list", data := .seq vs.toArray } ∧ IntsAre vs ns ∧ ns.length ≤ n := by
  have hsh : WShape.hasAll [] args [.list .int] = true := (pre_splitW hpre).1
  have hc : l.pre.holds [] { args := args } = true := (pre_splitW hpre).2
  obtain ⟨d, r, rfl, h1, h2⟩ := hasAllW_cons hsh
  obtain rfl := hasAllW_nil h2
  obtain ⟨xs, rfl, h3⟩ := hasW_list h1
  obtain ⟨ns, rfl⟩ := items_int h3
  have hlen : ns.length ≤ n := by
    unfold OpenLaw.pre at hc
    have h4 : (WTm.not (.lt (.lit (.int (n : Int))) (.len (.arg 0)))).holds [] { args := [.list (ns.map .int)] } = true := by
      have h4 := (holds_andW hc).1
      rw [hn] at h4
      exact h4
    have h5 := condW_of h4 (w_not (w_lt w_lit (w_len_list (w_arg rfl))))
    rw [List.length_map] at h5
    refine Nat.le_of_not_lt fun q => ?_
    have q' : (n : Int) < ((ns.length : Nat) : Int) := by omega
    first
      | (rw [decide_eq_true q'] at h5; exact absurd h5 (by decide))
      | (simp at h5; omega)
  cases hwl with
  | cons w1 w2 =>
    cases w2
    cases w1 with
    | list ho hall => exact ⟨_, _, ns, rfl, rfl, ho, ints_of_wellAll ns _ hall, hlen⟩
theorem post_true (l : OpenLaw) (args : List WData) : l.row.toRowW.claim.post args (.bool true) args = true :=
  postW_of (r := l.row.toRowW) (X := (true == true))
    (show WShape.has [] (.bool true) .bool = true by first | rfl | decide | simp [WShape.has, WShape.arms, WShape.armsAll])
    (show (WTm.eq .res (.lit (.bool true))).value [] { args := args, res := some (.bool true), after := args } = some (.bool (true == true)) from w_eq_bool (w_res rfl) w_lit) rfl
/-! ### the attachment: holds_open's last premise (the goal 'hc' behind k_head) from a wpAny of the law's body -/
/-- the same from a codeAny of the CALL (for a layer whose function contracts speak of calls) -/
theorem attach_call {l : OpenLaw} {n : Nat} {q : Program} {loose : List Str} {XP : (Str → Option Value) → Heap → Prop} {YP : World → Heap → Prop} {d : DefRec}
    (hn : l.most = some n) (hdf : d.params.defaults = [])
    (call : ∀ (w : World) (s₀ s₁ : Shared) (mg mb : Str → Option Value) (fa : Addr) (o : Obj) (pm cd doc : Value) (a : Addr) (vs : List Value) (ns : List Int),
      Ground q loose [] XP w s₀ mg mb s₁.heap → YP w s₁.heap →
      s₁.heap.get? fa = some o → o.data = .func (docDef d.name d.params d.body d.scope pm cd doc) → s₁.heap.CodeRec cd d.name → mg d.name = some (.ref fa) →
      s₁.heap.get? a = some { cls := .type "list", data := .seq vs.toArray } → IntsAre vs ns → ns.length ≤ n → s₁.gens = #[] →
      codeAny (model l.prog w) callerA (.call (.ref fa) ⟨[.ref a], []⟩) (fun r s' => r = .ok (.ret (.bool true)) ∧ OldK s₁.heap s'.heap ∧ s'.os = s₁.os ∧ AllBare s'.gens) s₁) :
    WalkO q loose XP YP l.row.toRowW d [] (fun f vs => PySem.call f vs) := by
  intro w s₀ s₁ mg mb G Y fa o pm cd doc dV kV ho hd hcd hD hmg hg args vals as hpre hlay hrd hwl hlo
  obtain rfl : dV = .none := Dflts.none hD hdf
  obtain rfl : kV = .none := Dflts.noKw hD
  obtain ⟨a, vs, ns, rfl, rfl, hobj, hints, hlen⟩ := script_of hn hpre hwl
  refine enter_call (codeAny_mono (call w s₀ s₁ mg mb fa o pm cd doc a vs ns G Y ho (fd_plain hd) hcd hmg hobj hints hlen hg) fun r s' hq => ?_)
  obtain ⟨rfl, h2, h3, h4⟩ := hq
  exact ⟨.inl ⟨.bool true, .bool true, [], rfl, fun _ => rfl, .bool true, post_true l _, fun _ => ⟨List.Pairwise.nil, fun _ hm => (nomatch hm)⟩⟩, h2, h3, h4⟩
/-! ### rules over ANY heap (no ledger) from facts about the written part K: the library's own take a ledger (News) for what they write -/
section
variable {prog : Program} {w : World} {A : Around} {E : Value → Shared → Prop} {s : Shared} {K : Frag}
/-! the whole heap as the ledger: makes every rule that writes through a ledger a rule over any heap -/
end
end Att
namespace L2
open PySem PySem.Spec PyProof.Rows
theorem vals_ints : ∀ {vs : List Value} {ns : List Int}, IntsAre vs ns → Vals (ns.map V.int) vs
  | _, _, .nil => .nil
  | _, _, .cons n t h => .cons ⟨t, rfl⟩ (vals_ints h)
/-- nothing is tracked but the script, known to the object (or it is an object of the module) -/
def Only (H : Hp) : Prop := ∀ b, H b = none ∨ ∃ o xs, H b = some (.frz o (.lst xs))
/-- THE HEAD: the law's promise, at the heap behind the top. F, the promise of the law's def, may use that base is part of the heap (so K.In base, base.Ns mainGlobals mg stand in Mod) -/
theorem law_call {P : Program} {w : World} {K : PySem.W.Frag} {mg mb : Str → Option Value} {CX : CXT} {k : Nat} {fa a : Addr} {fd : FuncData} {x : Str} {sp : Sp} {s₁ : Shared} {vs : List Value} {ns : List Int}
    (KX : K.In s₁.heap) (hns : s₁.heap.Ns mainGlobals mg) (hb : s₁.heap.Ns builtinsNs mb) (hbb : ∀ x : Str, x ≠ "__name__" → mb x = bootBuiltins x) (hlim : s₁.heap.NoLimit) (hg : s₁.gens = #[])
    (ha : s₁.heap.get? a = some { cls := .type "list", data := .seq vs.toArray }) (hi : IntsAre vs ns) (hl : ns.length ≤ sizeLine) (hr : Room k callerA)
    (F : ∀ base : Heap, K.In base → base.Ns mainGlobals mg → FnOk P w K mg base CX k fa fd [x] sp) (hbind : ∀ (s : Shared) (u : Value), BindsTo s fd ⟨[u], []⟩ [(x, u)])
    (hsp : ∀ H : Hp, Only H → SqL K H a (ns.map V.int) → sp [.ref a] H (fun v _ => v = .bl true) fun _ _ _ => False)
    (hCX : ∀ H e s', CX [] H s₁ (fun _ _ _ => False) e s' → False) :
    codeAny (model P w) callerA (.call (.ref fa) ⟨[.ref a], []⟩) (fun r s' => r = .ok (.ret (.bool true)) ∧ OldK s₁.heap s'.heap ∧ s'.os = s₁.os ∧ AllBare s'.gens) s₁ := by
  have rv := vals_ints hi
  have lenV := hi.length
  -- from an abstract heap in which nothing but the script may be tracked
  have core : ∀ H : Hp, Only H → SqL K H a (ns.map V.int) → HOk P w H s₁.heap → (∀ b, H b ≠ none → b = a) → (H a ≠ none → K.lookup a = none) →
      codeAny (model P w) callerA (.call (.ref fa) ⟨[.ref a], []⟩) (fun r s' => r = .ok (.ret (.bool true)) ∧ OldK s₁.heap s'.heap ∧ s'.os = s₁.os ∧ AllBare s'.gens) s₁ := by
    intro H hO hS hok hA hK
    have base_of : ∀ {b : Addr} {o : Obj}, s₁.heap.get? b = some o → H b = none → (hidT s₁.heap H).get? b = some o := fun e n => hidT_get e n
    have noA : ∀ {b : Addr} {o : Obj} {es : Array DictEntry} {ep : Nat}, s₁.heap.get? b = some o → o.data = .dict es ep → H b = none := fun {b o es ep} e d => by
      cases q : H b with
      | none => rfl
      | some u =>
        have e' : b = a := hA b (by rw [q]; simp)
        subst e'
        rw [ha] at e; cases e
        have d' : Data.seq vs.toArray _ = Data.dict es ep := d
        cases d'
    have nsK : ∀ {b : Addr} {m : Str → Option Value}, s₁.heap.Ns b m → (hidT s₁.heap H).Ns b m := fun {b m} ⟨o, es, ep, e, d, r⟩ => ⟨o, es, ep, base_of e (noA e d), d, r⟩
    have hKb : K.In (hidT s₁.heap H) := fun b o e => base_of (KX b o e) (by
      cases q : H b with
      | none => rfl
      | some u =>
        have e' : b = a := hA b (by rw [q]; simp)
        subst e'
        rw [hK (by rw [q]; simp)] at e; cases e)
    have hM : Mod K mg (hidT s₁.heap H) := ⟨hKb, nsK hns, ⟨mb, nsK hb, hbb⟩, let ⟨mc, h1, h2⟩ := hlim; ⟨mc, nsK h1, h2⟩⟩
    have e0 : Env0 P w K mg (hidT s₁.heap H) callerA [] s₁ H := ⟨rfl, hM, fun b o e => of_hidT e, Nat.le_of_eq (hidT_size _ _), trivial, fun b hb => absurd (show b ∈ ([] : List Addr) from hb) (by simp), hok, .of_eq hg⟩
    refine codeAny_mono ((F _ hKb (nsK hns)).run callerA [] s₁ H ⟨[.ref a], []⟩ [.ref a] [.ref a] _ _ hr e0 (hbind s₁ (.ref a)) (.cons rfl .nil) (hsp H hO hS)) fun r s' h => ?_
    cases r with
    | error e => exact (hCX H e s' h).elim
    | ok fl =>
      cases fl with
      | next => exact False.elim h
      | brk => exact False.elim h
      | cont => exact False.elim h
      | ret u =>
        obtain ⟨v, H', os, bare, un, hok', r', q⟩ := h
        have q' : v = .bl true := q
        subst q'
        obtain rfl : u = Value.bool true := r'
        refine ⟨rfl, OldK.of_keep fun b o e => ?_, os, bare⟩
        cases q : H b with
        | none => exact un.keep b o e q (by intro z; exact absurd (show b ∈ ([] : List Addr) from z) (by simp)) (by simp)
        | some u =>
          rcases hO b with z | ⟨ob, xs, z⟩
          · rw [q] at z; cases z
          · have z2 := un.frzs b ob _ z
            obtain ⟨e1, _⟩ := hok b _ z
            obtain ⟨e2, _⟩ := hok' b _ z2
            rw [e] at e1; cases e1
            exact e2
  cases hk : K.lookup a with
  | some o =>
    -- the script is one of the module's own objects
    have e := KX a o hk
    rw [ha] at e
    cases e
    refine core (fun _ => none) (fun _ => .inl rfl) (.inr ⟨_, vs.toArray, _, hk, rfl, rfl, rfl, by rw [List.size_toArray, lenV]; exact hl, by simpa using rv⟩) (fun b u z => by have z' : (none : Option HO) = some u := z; cases z') (fun b z => absurd rfl z) fun z => absurd rfl z
  | none =>
    refine core (fun b => if b = a then some (.frz { cls := .type "list", data := .seq vs.toArray } (.lst (ns.map V.int))) else none) (fun b => ?_) (.inl (.inr ⟨{ cls := .type "list", data := .seq vs.toArray }, if_pos rfl⟩)) (fun b u z => ?_) (fun b z => ?_) fun _ => hk
    · by_cases hb : b = a
      · exact .inr ⟨_, _, if_pos hb⟩
      · exact .inl (if_neg hb)
    · by_cases hb : b = a
      · have z' := (if_pos hb).symm.trans z
        cases z'
        subst hb
        exact ⟨ha, by rw [List.length_map]; exact hl, vs, _, rv, ha⟩
      · have z' := (if_neg hb).symm.trans z
        cases z'
    · by_cases hb : b = a
      · exact hb
      · exact absurd (if_neg hb) z
end L2
namespace L2
open PySem PySem.Spec PyProof.Rows
end L2
/- THE LAST THEOREM (shape; LID, My.* are yours):
   My.Adr: a structure of the addresses that your layer names (classes, functions); My.Txt K t: a structure (Prop) of the equations over K;
   My.txt_mk : {K} {implicit addresses ..} (e1 : nsIn K mainGlobals "law" = some (some (.ref f))) (e2 : K.lookup f = some ⟨oc, od, .func (fnOf "law" "law" params body scope dV kV doc pm an cdv ct), sl⟩) (e3 : codeIn K cdv "law" = true) .. : ∃ t, My.Txt K t
set_option maxRecDepth 100000 in
set_option maxHeartbeats 0 in
theorem PySem.Challenge.cw_LID_holds : PySem.Challenge.rw_LID.Holds := by
  w_on; o_law; k_head; (case hw => w_witness2)
  k_fill
  refine L2.walk_of (l := PySem.Challenge.rw_LID) (n := 63) (k := 40) (x := "script") (CX := fun w => ..) (sp := fun _ => My.sp_law) rfl (by decide) rfl ⟨rfl, by decide, by decide⟩ (fun w h Y => PySem.W.kIn_of Y) ?F ?S ?C
  case F =>
    intro w mg fa h KX G hmg
    have T : ∃ t, My.Txt (L2.KOf KX) t := by
      dsimp only [L2.KOf]                          -- K must stand as «<heap const> w.params» for k_is
      refine' My.txt_mk ?e1 ?e2 ?e3 ..
      (case e1 => PySem.W.k_is)                    -- in the order: a name -> its address -> its object -> its parts
      (case e2 => PySem.W.k_is)
      ..
    obtain ⟨t, T⟩ := T
    have e0 := hmg.symm.trans (PySem.W.mg_of KX G T.law)
    cases e0                                       -- fa is the law's own address
    exact ⟨_, fun s u => .of_eq rfl, fun base kb nb => My.law_fn T kb nb⟩     -- if «.of_eq rfl» comes too early: refine' ⟨_, ?b, fun base kb nb => My.law_fn T kb nb⟩; exact fun s u => .of_eq rfl
  case S => exact fun w H a ns hl hO hS => ..
  case C => exact ..
(the tactic k_is has no namespace: write k_is) -/
/-! SHORT WORDS over the layer: a def of the text, its body, what a loop and a test want. -/
namespace L2
open PySem PySem.Spec PyProof.Rows
/-! ### the text by places -/
def defArgs (s : Stmt) : Arguments := match s with
  | .FunctionDef _ a _ _ _ _ _ _ _ _ => a
  | _ => { posonlyargs := [], args := [], vararg := none, kwonlyargs := [], kw_defaults := [], kwarg := none, defaults := [] }
def defBody (s : Stmt) : List Stmt := match s with
  | .FunctionDef _ _ b _ _ _ _ _ _ _ => b
  | _ => []
def defScope (s : Stmt) : Scope := match s with
  | .FunctionDef _ _ _ _ _ _ sc _ _ _ => sc
  | _ => { kind := .function, names := [], isGenerator := false, isCoroutine := false }
/-! ### no exception leaves a def -/
abbrev CX0 : CXT := fun _ _ _ _ _ _ => False
abbrev E0 : XK := fun _ _ _ => False
theorem pass0 {X : Cx} : Passes CX0 X E0 := fun _ _ _ _ _ _ _ h => h.elim
/-! ### a def (or method) of the text as it stands behind the top -/
structure Fun (K : PySem.W.Frag) (x qual : Str) (st : Stmt) (f : Addr) (fd : FuncData) : Prop where
  ex : ∃ (oc : Value) (od : Option Addr) (kV doc pm : Value) (an : Option Addr) (cdv ct : Value) (osl : Array (Option Value)),
    fd = PySem.W.fnOf x qual (defArgs st) (defBody st) (defScope st) .none kV doc pm an cdv ct ∧ K.lookup f = some ⟨oc, od, .func fd, osl⟩ ∧ PySem.W.codeIn K cdv qual = true
  kp : PySem.W.keepIn K (.ref f) = true
section
variable {P : Program} {w : World} {K : PySem.W.Frag} {mg : Str → Option Value} {base : Heap}
/-- THE RULE for a def: its body as a term of rules, and the reading of that term -/
theorem Fun.ok {x qual : Str} {st : Stmt} {f : Addr} {fd : FuncData} {N ps : List Str} {k : Nat} {sp : Sp} (F : Fun K x qual st f fd) (S : FnScope N ps (defScope st)) (len : ∀ vs H Q E, sp vs H Q E → vs.length = ps.length)
    (hbody : ∀ (cdv : Value) (A : Around) (outer : List Env) (s : Shared) (H : Hp) (vs : List V) (Q : VK) (E : XK), Room k (A.deeper (envOfC qual (defScope st) s.heap.objs.size f cdv)) → sp vs H Q E →
      ∃ t, PSs (cxOf CX0 P w K mg base N qual (defScope st) f cdv A outer s H E).nox (defBody st) t ∧ t { nx := fun _ H' => Q .non H', rt := Q } (start N vs) H) : FnOk P w K mg base CX0 (k + 1) f fd ps sp := by
  obtain ⟨oc, od, kV, doc, pm, an, cdv, ct, osl, rfl, lk, hcd⟩ := F.ex
  refine fn_of lk hcd S len fun A outer s H vs Q E hr hsp => ?_
  obtain ⟨t, h, q⟩ := hbody cdv A outer s H vs Q E hr hsp
  exact ⟨t, h.nox, q⟩
/-- how its arguments bind (no defaults): h is «fun _ _ _ _ _ _ us hl => match us, hl with | [_, _], _ => rfl», one _ a parameter -/
theorem Fun.binds {x qual : Str} {st : Stmt} {f : Addr} {fd : FuncData} {ps : List Str} (F : Fun K x qual st f fd)
    (h : ∀ (kV doc pm : Value) (an : Option Addr) (cdv ct : Value) (us : List Value), us.length = ps.length → bindArgs (PySem.W.fnOf x qual (defArgs st) (defBody st) (defScope st) .none kV doc pm an cdv ct) ⟨us, []⟩ = pure (ps.zip us)) : Binds K fd ps [] := by
  obtain ⟨oc, od, kV, doc, pm, an, cdv, ct, osl, rfl, lk, hcd⟩ := F.ex
  exact .all (h kV doc pm an cdv ct)
theorem fun_mk {x qual : Str} {st : Stmt} {f : Addr} {oc : Value} {od an : Option Addr} {osl : Array (Option Value)} {kV doc pm cdv ct : Value} (l : K.lookup f = some ⟨oc, od, .func (PySem.W.fnOf x qual (defArgs st) (defBody st) (defScope st) .none kV doc pm an cdv ct), osl⟩)
    (c : PySem.W.codeIn K cdv qual = true) (k : PySem.W.keepIn K (.ref f) = true) : Fun K x qual st f (PySem.W.fnOf x qual (defArgs st) (defBody st) (defScope st) .none kV doc pm an cdv ct) := ⟨⟨oc, od, kV, doc, pm, an, cdv, ct, osl, rfl, l, c⟩, k⟩
end
theorem small1000 {n : Nat} (h : n ≤ 1000) : n < sizeLine := Nat.lt_of_le_of_lt h (by decide)
/-! ### expressions in short: the name that stands in the i-th slot -/
section
variable {X : Cx}
end
/-! ### tests -/
theorem iteF {A B : Prop} (h : B) : if false = true then A else B := by
  rw [if_neg Bool.false_ne_true]
  exact h
theorem iteT {A B : Prop} (h : A) : if true = true then A else B := by
  rw [if_pos rfl]
  exact h
theorem ite2 {c A B : Prop} [Decidable c] (h1 : c → A) (h2 : ¬ c → B) : if c then A else B := by
  by_cases h : c
  · rw [if_pos h]
    exact h1 h
  · rw [if_neg h]
    exact h2 h
theorem iteNS {c A B : Prop} [Decidable c] (hc : c) (h : B) : if (!decide c) = true then A else B := by
  rw [decide_eq_true hc]
  exact iteF h
/-! ### heaps -/
/-- all that was tracked is as it was -/
def Same (H H' : Hp) : Prop := ∀ b o, H b = some o → H' b = some o
theorem Same.refl (H : Hp) : Same H H := fun _ _ h => h
theorem Same.trans {H H1 H2 : Hp} (a : Same H H1) (b : Same H1 H2) : Same H H2 := fun c o h => b c o (a c o h)
theorem Same.seq {K : PySem.W.Frag} {H H' : Hp} {a : Addr} {xs : List V} (e : Same H H') (h : SqL K H a xs) : SqL K H' a xs := by
  rcases h with (h | ⟨o, h⟩) | h
  · exact .inl (.inl (e _ _ h))
  · exact .inl (.inr ⟨o, e _ _ h⟩)
  · exact .inr h
end L2
set_option Elab.async false
set_option linter.all false
set_option maxRecDepth 100000
namespace LN
/-- a size: below 2 to the power n, without the sign -/
def Bd (n : Nat) (i : Int) : Prop := i.natAbs < 2 ^ n
theorem Bd.mono {m n : Nat} {i : Int} (h : Bd m i) (hmn : m ≤ n) : Bd n i :=
  Nat.lt_of_lt_of_le h (Nat.pow_le_pow_right (by decide) hmn)
theorem Bd.mul {m n : Nat} {i j : Int} (hi : Bd m i) (hj : Bd n j) : Bd (m + n) (i * j) := by
  unfold Bd at *
  rw [Int.natAbs_mul, Nat.pow_add]
  exact Nat.mul_lt_mul_of_lt_of_le hi (Nat.le_of_lt hj) (Nat.two_pow_pos n)
theorem Bd.one : Bd 1 1 := by unfold Bd; decide
theorem Bd.pow {m : Nat} {i : Int} (h : Bd m i) : ∀ k : Nat, Bd (m * k + 1) (i ^ k)
  | 0 => by rw [Int.pow_zero]; exact Bd.one
  | k + 1 => by
    rw [Int.pow_succ]
    exact ((Bd.pow h k).mul h).mono (by rw [Nat.mul_succ]; omega)
theorem Bd.add {n : Nat} {i j : Int} (hi : Bd n i) (hj : Bd n j) : Bd (n + 1) (i + j) := by
  unfold Bd at *
  rw [Nat.pow_succ]
  omega
theorem Bd.neg {n : Nat} {i : Int} (hi : Bd n i) : Bd n (-i) := by
  unfold Bd at *
  omega
theorem Bd.of_le {n : Nat} {i j : Int} (hj : Bd n j) (h : i.natAbs ≤ j.natAbs) : Bd n i := Nat.lt_of_le_of_lt h hj
theorem Bd.dvd {n : Nat} {i j : Int} (hj : Bd n j) (h : i ∣ j) (h0 : j ≠ 0) : Bd n i :=
  hj.of_le (Nat.le_of_dvd (Int.natAbs_pos.mpr h0) (Int.natAbs_dvd_natAbs.mpr h))
theorem Bd.log2 {n : Nat} {i : Int} (h : Bd n i) (hn : 0 < n) : i.natAbs.log2 < n := by
  by_cases h0 : i.natAbs = 0
  · rw [h0]
    exact Nat.lt_of_le_of_lt (by decide : Nat.log2 0 ≤ 0) hn
  · exact (Nat.log2_lt h0).mpr h
theorem Bd.of_abs {n : Nat} {i : Int} {b : Nat} (h1 : -(b : Int) ≤ i) (h2 : i ≤ (b : Int)) (hb : b < 2 ^ n) : Bd n i := by
  unfold Bd
  omega
/-! ### powers by squares -/
/-! ### how often p divides -/
end LN
set_option Elab.async false
set_option linter.all false
set_option maxRecDepth 100000
namespace LN
/-! ### the greatest common divisor -/
theorem gcd_turn {a b : Nat} : Nat.gcd b (a % b) = Nat.gcd a b := by
  rw [Nat.gcd_comm b, ← Nat.gcd_rec, Nat.gcd_comm]
/-- (x, y) is t by b in lowest terms -/
structure Low (t b x y : Int) : Prop where
  pos : 0 < y
  cop : Nat.gcd x.natAbs y.natAbs = 1
  eq : x * b = t * y
  xd : x ∣ t
  yd : y ∣ b
theorem Low.of {t b c : Int} {g : Nat} (hg : Nat.gcd t.natAbs b.natAbs = g) (hb : b ≠ 0) (hc : c.natAbs = g) (hs : 0 < b → 0 < c) (hs' : b < 0 → c < 0) : Low t b (t.fdiv c) (b.fdiv c) := by
  have hg0 : 0 < g := by rw [← hg]; exact Nat.gcd_pos_of_pos_right _ (Int.natAbs_pos.mpr hb)
  have hc0 : c ≠ 0 := by omega
  have d1 : c ∣ t := Int.natAbs_dvd_natAbs.mp (by rw [hc, ← hg]; exact Nat.gcd_dvd_left _ _)
  have d2 : c ∣ b := Int.natAbs_dvd_natAbs.mp (by rw [hc, ← hg]; exact Nat.gcd_dvd_right _ _)
  obtain ⟨x, rfl⟩ := d1
  obtain ⟨y, rfl⟩ := d2
  rw [Int.mul_fdiv_cancel_left x hc0, Int.mul_fdiv_cancel_left y hc0]
  have hy : 0 < y := by
    rcases Int.lt_trichotomy c 0 with h | h | h
    · rcases Int.lt_or_le 0 y with z | z
      · exact z
      · exfalso
        have := Int.mul_nonneg_of_nonpos_of_nonpos (Int.le_of_lt h) z
        rcases Int.lt_or_le 0 (c * y) with q | q
        · have := hs q; omega
        · exact hb (by omega)
    · exact absurd h hc0
    · rcases Int.lt_or_le 0 y with z | z
      · exact z
      · exfalso
        have := Int.mul_nonpos_of_nonneg_of_nonpos (Int.le_of_lt h) z
        rcases Int.lt_or_le (c * y) 0 with q | q
        · have := hs' q; omega
        · exact hb (by omega)
  refine ⟨hy, ?_, ?_, ⟨c, Int.mul_comm c x⟩, ⟨c, Int.mul_comm c y⟩⟩
  · rw [Int.natAbs_mul, Int.natAbs_mul, Nat.gcd_mul_left, hc] at hg
    have : g * Nat.gcd x.natAbs y.natAbs = g * 1 := by omega
    exact Nat.eq_of_mul_eq_mul_left hg0 this
  · rw [Int.mul_left_comm, Int.mul_assoc]
end LN
set_option Elab.async false
set_option linter.all false
set_option maxRecDepth 100000
/-! WHAT ALL MY LAWS USE: the built-ins' names, kinds of things, cells of the script. -/
namespace L2
open PySem PySem.Spec PyProof.Rows
theorem bt_int : bootBuiltins "int" = some (.type "int") := by decide +kernel
theorem bt_bool : bootBuiltins "bool" = some (.type "bool") := by decide +kernel
theorem bt_tuple : bootBuiltins "tuple" = some (.type "tuple") := by decide +kernel
theorem bt_isinstance : bootBuiltins "isinstance" = some (.builtin "isinstance") := by decide +kernel
theorem bt_len : bootBuiltins "len" = some (.builtin "len") := by decide +kernel
theorem bt_abs : bootBuiltins "abs" = some (.builtin "abs") := by decide +kernel
section
variable {es : List Expr} {env : Env} {pos : Pos}
theorem star_Constant {c : Const} {k : Nat} : starEach (.Constant c k pos :: es) env = (false, eval (.Constant c k pos) env) :: starEach es env := by rw [starEach]; intro e p z; cases z
theorem star_Name {x : Str} : starEach (.Name x pos :: es) env = (false, eval (.Name x pos) env) :: starEach es env := by rw [starEach]; intro e p z; cases z
theorem star_List {l : List Expr} : starEach (.List l pos :: es) env = (false, eval (.List l pos) env) :: starEach es env := by rw [starEach]; intro e p z; cases z
theorem star_Tuple {l : List Expr} {k : Nat} : starEach (.Tuple l k pos :: es) env = (false, eval (.Tuple l k pos) env) :: starEach es env := by rw [starEach]; intro e p z; cases z
theorem star_BinOp {a b : Expr} {o : Operator} : starEach (.BinOp a o b pos :: es) env = (false, eval (.BinOp a o b pos) env) :: starEach es env := by rw [starEach]; intro e p z; cases z
theorem star_Call {f : Expr} {a : List Expr} {k : List Keyword} : starEach (.Call f a k pos :: es) env = (false, eval (.Call f a k pos) env) :: starEach es env := by rw [starEach]; intro e p z; cases z
theorem star_Subscript {a b : Expr} : starEach (.Subscript a b pos :: es) env = (false, eval (.Subscript a b pos) env) :: starEach es env := by rw [starEach]; intro e p z; cases z
end
theorem same_new {H : Hp} {p : Addr} (h : H p = none) (o : HO) : Same H (upd H p o) := fun b u q => by rw [upd_ne (ne_of_none q h)]; exact q
theorem TyOf.same {K : PySem.W.Frag} {H H' : Hp} {v : V} {t : Value} (ty : TyOf K H v t) (e : Same H H') : TyOf K H' v t := by
  cases ty with
  | non => exact .non
  | bl x => exact .bl x
  | int i => exact .int i
  | str x => exact .str x
  | flt x => exact .flt x
  | lst h => exact .lst (e _ _ h)
  | frz h => exact .frz (e _ _ h)
  | tup h => exact .tup (e _ _ h)
  | dK h => exact .dK (e _ _ h)
  | dT h => exact .dT (e _ _ h)
  | ins h cl ha hn htk hm => exact .ins (e _ _ h) cl ha hn htk hm
/-- the kinds of things that are drawn -/
inductive Kind : String → Bool → Bool → Bool → Prop where
  | non : Kind "NoneType" false false false
  | bl : Kind "bool" true true false
  | int : Kind "int" true false false
  | str : Kind "str" false false false
  | lst : Kind "list" false false false
  | tup : Kind "tuple" false false true
  | dct : Kind "dict" false false false
theorem Kind.kit_int {K : PySem.W.Frag} {t : String} {i b u : Bool} (k : Kind t i b u) : PySem.W.kitOne K (.type t) (.type "int") = some i := by
  cases k <;> kernel_rfl
theorem Kind.kit_bool {K : PySem.W.Frag} {t : String} {i b u : Bool} (k : Kind t i b u) : PySem.W.kitOne K (.type t) (.type "bool") = some b := by
  cases k <;> kernel_rfl
theorem Kind.kit_tuple {K : PySem.W.Frag} {t : String} {i b u : Bool} (k : Kind t i b u) : PySem.W.kitOne K (.type t) (.type "tuple") = some u := by
  cases k <;> kernel_rfl
def isI : V → Bool
  | .int _ => true
  | _ => false
/-- a thing: of one of these kinds -/
def Thing (K : PySem.W.Frag) (H : Hp) (v : V) : Prop := ∃ t i b u, Kind t i b u ∧ TyOf K H v (.type t) ∧ (i && !b) = isI v
theorem Thing.same {K : PySem.W.Frag} {H H' : Hp} {v : V} (h : Thing K H v) (e : Same H H') : Thing K H' v := by
  obtain ⟨t, i, b, u, k, ty, q⟩ := h
  exact ⟨t, i, b, u, k, ty.same e, q⟩
section
variable {K : PySem.W.Frag} {H : Hp}
theorem Thing.int (i : Int) : Thing K H (.int i) := ⟨_, _, _, _, .int, .int i, rfl⟩
theorem Thing.bl (i : Bool) : Thing K H (.bl i) := ⟨_, _, _, _, .bl, .bl i, rfl⟩
theorem Thing.str (x : Str) : Thing K H (.str x) := ⟨_, _, _, _, .str, .str x, rfl⟩
theorem Thing.tup {a : Addr} {xs : List V} (h : H a = some (.tup xs)) : Thing K H (.ref a) := ⟨_, _, _, _, .tup, .tup h, rfl⟩
end
/-- is_whole, _law_number: of any thing -/
def spWhole (K : PySem.W.Frag) : Sp := fun vs H Q _ => ∃ v, vs = [v] ∧ Thing K H v ∧ Q (.bl (isI v)) H
/-- a cell of the script -/
def spCell (K : PySem.W.Frag) : Sp := fun vs H Q _ => ∃ (a : Addr) (ns : List Int) (k : Nat), vs = [.ref a, .int (k : Int)] ∧ SqL K H a (ns.map V.int) ∧ Q (.int (ns.getD k 0)) H
theorem small {n : Nat} (h : n ≤ 1000) : n ≤ sizeLine := Nat.le_of_lt (small1000 h)
theorem cell_there {ns : List Int} {k : Nat} (h : k < ns.length) : atI (ns.map V.int) (k : Int) = some (.int (ns.getD k 0)) := by
  refine atI_nat ?_
  rw [List.getElem?_map, List.getElem?_eq_getElem h, List.getD_eq_getElem?_getD, List.getElem?_eq_getElem h]
  rfl
theorem cell_none {ns : List Int} {k : Nat} (h : ¬ k < ns.length) : ns.getD k 0 = 0 := by
  rw [List.getD_eq_getElem?_getD, List.getElem?_eq_none (by omega)]
  rfl
/-- the item of a written list at a rest -/
theorem at_rest {xs : List V} {i : Int} {P : V → Prop} (h0 : 0 ≤ i) (h1 : i < (xs.length : Int)) (h : ∀ v ∈ xs, P v) : ∃ v, atI xs i = some v ∧ P v := by
  have hk : i.toNat < xs.length := by omega
  have ek : i = ((i.toNat : Nat) : Int) := by omega
  refine ⟨xs[i.toNat], ?_, h _ (List.getElem_mem hk)⟩
  have q : atI xs ((i.toNat : Nat) : Int) = some xs[i.toNat] := atI_nat (List.getElem?_eq_getElem hk)
  rw [← ek] at q
  exact q
/-- a test upon ints that is known -/
theorem iteI {a b : Int} {A B : Prop} (h1 : a = b → A) (h2 : a ≠ b → B) : if decide (V.int a = V.int b) = true then A else B := by
  rw [dec_int]
  by_cases h : a = b
  · rw [h, beq_self_eq_true]
    exact iteT (h1 h)
  · rw [beq_eq_false_iff_ne.mpr h]
    exact iteF (h2 h)
theorem iteL {a b : Int} {A B : Prop} (h1 : a < b → A) (h2 : ¬ a < b → B) : if decide (a < b) = true then A else B :=
  ite2 (fun h => h1 (of_decide_eq_true h)) fun h => h2 fun z => h (decide_eq_true z)
/-- the loops with their ends as letters -/
theorem for_rangeN {lo : Int} {n : Nat} {g : TG} {tb : TS} {nx : St → Hp → Prop} {rt : VK} {σ : St} {H : Hp} (Pv : Nat → St → Hp → Prop) (h0 : Pv 0 σ H)
    (hs : ∀ i σ H, i < n → Pv i σ H → g (.int (lo + i)) σ H fun σ2 H2 => tb { nx := Pv (i + 1), rt := rt, bk := nx, ct := Pv (i + 1) } σ2 H2) (hd : ∀ σ H, Pv n σ H → nx σ H) :
    ∃ W : Nat → Nat → St → Hp → Prop, (∃ m, W 0 m σ H) ∧ ∀ i m σ H, W i m σ H →
      ((Itr lo n).stop i H ∧ nx σ H) ∨ ((Itr lo n).go i H ∧ ∃ N : St → Hp → Prop, (∀ σ' H', N σ' H' → ∃ m', m' < m ∧ W (i + 1) m' σ' H') ∧ ∀ x H', (Itr lo n).yld i H x H' → g x σ H' fun σ2 H2 => tb { nx := N, rt := rt, bk := nx, ct := N } σ2 H2) :=
  for_range (D := { nx := nx, rt := rt }) Pv h0 hs hd
end L2
set_option Elab.async false
set_option linter.all false
set_option maxRecDepth 100000
/-! RULES OF MY OWN over the layer: isinstance, bit_length, a range downwards, reversed, great products and quotients, an empty dict. -/
namespace L2
open PySem PySem.Spec PyProof.Rows
section
variable {X : Cx}
/-- isinstance(x, c), c a built-in type -/
def rInst (K : PySem.W.Frag) : List V → Hp → VK → Prop := fun xs H Q => ∃ (x : V) (n : String) (t : Value) (b : Bool), xs = [x, .ty n] ∧ TyOf K H x t ∧ PySem.W.kitOne K t (.type n) = some b ∧ Q (.bl b) H
theorem call_inst : CallR X (.builtin "isinstance") (rInst X.K) := by
  intro pins s σ H xs us Q I r h
  obtain ⟨x, n, t, b, rfl, ty, e, q⟩ := h
  obtain ⟨u, c, rfl, ru, rc⟩ := vals2 r
  cases (show c = Value.type n from rc)
  exact isinst_ok I ru ty e fun tk => ⟨.bl b, H, I.tok _, rfl, q⟩
/-- products and quotients of great numbers -/
def CMulB (i j : Int) : Prop := LN.Bd 1000000 i ∧ LN.Bd 1000000 j
theorem CMulB.ok {i j : Int} (h : CMulB i j) : IntMulOk i j :=
  IntMulOk.of_bits (Nat.le_trans (intBits_le_iff.mpr h.1) (by decide)) (Nat.le_trans (intBits_le_iff.mpr h.2) (by decide))
theorem op_mulB : OpR X (binaryOp .Mult) (rI CMulB fun i j => .int (i * j)) := opI fun _ _ _ _ _ _ _ hc q => mul_int q hc.ok
def CDivB (_i j : Int) : Prop := 0 < j ∧ LN.Bd 8000 j
theorem op_fdivB : OpR X (binaryOp .FloorDiv) (rI CDivB fun i j => .int (i / j)) := opI fun i j _ _ _ _ _ hc q => by
  have h1 : (0 : Int) < j := hc.1
  exact floordiv_int (by omega) (by rw [Int.fdiv_eq_ediv_of_nonneg i (by omega)]; exact q) (.inl (PyProof.noPylong_of_log2 (Nat.lt_of_lt_of_le (hc.2.log2 (by decide)) (by decide))))
def CDivN2 (_i j : Int) : Prop := j ≠ 0 ∧ LN.Bd 8000 j
theorem op_fdivN2 : OpR X (binaryOp .FloorDiv) (rI CDivN2 fun i j => .int (i.fdiv j)) := opI fun i j _ _ _ _ _ hc q =>
  floordiv_int hc.1 q (.inl (PyProof.noPylong_of_log2 (Nat.lt_of_lt_of_le (hc.2.log2 (by decide)) (by decide))))
end
/-! ### a range downwards -/
section
variable {X : Cx} {tg : Expr}
end
/-! ### reversed(a list) -/
/-- the list at a, xs of it, from behind -/
def Itv (K : PySem.W.Frag) (a : Addr) (xs : List V) : It :=
  ⟨fun i H => SqL K H a xs ∧ i < xs.length, fun i H x H' => H' = H ∧ xs[xs.length - 1 - i]? = some x, fun i H => SqL K H a xs ∧ xs.length = i⟩
theorem turn_rev {P : Program} {w : World} {K : PySem.W.Frag} {tg : Expr} (a it : Addr) (xs : List V) : Turn P w K tg (Itv K a xs) [it] it (fun i h => i ≤ xs.length ∧ h.IsRevIter it a ((xs.length : Int) - 1 - (i : Int))) where
  mem := by simp
  obj := fun i h st b hb => by
    have e : b = it := by simpa using hb
    subst e
    obtain ⟨_, o, e, c, d⟩ := st
    exact ⟨o, e, fun v z => by rw [d] at z; cases z⟩
  keep := fun i h h' st k => ⟨st.1, st.2.at fun o e => k it (by simp) o e⟩
  item := by
    intro X hP hw hK hc i pins s σ H E I hf st hg
    subst hP hw hK
    obtain ⟨hq, hi⟩ := hg
    obtain ⟨its, rv, p, hz⟩ := I.list hq
    have hx : xs[xs.length - 1 - i]? = some (xs[xs.length - 1 - i]'(by omega)) := List.getElem?_eq_getElem (by omega)
    obtain ⟨u, hu, ru⟩ := rv.get hx
    obtain ⟨f0, f1, f2, f3, f4, f5⟩ := hf it (by simp)
    obtain ⟨_, st⟩ := st
    have e : (xs.length : Int) - 1 - (i : Int) = ((xs.length - 1 - i : Nat) : Int) := by omega
    rw [e] at st
    refine wpAny_pyNext_rev_item st p.isList (x := u) (by simpa using hu) fun h' st' sb => ?_
    have e2 : ((xs.length - 1 - i : Nat) : Int) - 1 = (xs.length : Int) - 1 - ((i + 1 : Nat) : Int) := by omega
    rw [e2] at st'
    have I1 : Inv X pins σ H { s with heap := h' } := I.turned (t' := s.toks) (fun b o hb e => (sb.2 b hb).trans e) f0 f1 f3 f4 f5
    obtain ⟨o, e, c, d⟩ := id st'
    exact ⟨u, rfl, go_of (s := { s with heap := h' }) e c d (by decide) ⟨_, H, I1, ru, ⟨rfl, hx⟩, ⟨hi, st'⟩, fun b hb => (hf b hb).1⟩⟩
  done := by
    intro X hP hw hK hc i pins s σ H E I hf st hg
    subst hP hw hK
    obtain ⟨hq, hi⟩ := hg
    obtain ⟨f0, f1, f2, f3, f4, f5⟩ := hf it (by simp)
    obtain ⟨_, st⟩ := st
    have e : (xs.length : Int) - 1 - (i : Int) = -1 := by omega
    rw [e] at st
    exact wpAny_pyNext_rev_end (I.ok.hd hc) st fun h' eb => ⟨rfl, I.turned (t' := s.toks) (fun b o hb e => eb b o hb e) f0 f1 f3 f4 f5⟩
  self := fun _ _ _ _ _ st h => wpAny_pyIter_revIter st.2 h
section
variable {X : Cx} {tg : Expr}
def iRev (K : PySem.W.Frag) (ta : TA) : TI := fun σ H R => ta σ H fun vs H1 => ∃ a xs, vs = [.ref a] ∧ SqL K H1 a xs ∧ R (Itv K a xs) H1
theorem pi_rev {a : Expr} {ta : TA} {p pos : Pos} (hg : Gl X "reversed") (hm : X.mg "reversed" = none) (ha : PA X [a] ta) (hs : starEach [a] X.env = [(false, eval a X.env)] := by rfl) : PI X tg (.Call (.Name "reversed" p) [a] [] pos) (iRev X.K ta) := by
  intro pins s σ H R I h
  refine Call_ (ld_blt I hg hm boot_reversed (PyProof.Rows.callWith_type1 (thn (ha pos pins s σ H _ I h) fun us s1 ⟨vs, H1, I1, r1, q1⟩ => ?_) hs rfl))
  obtain ⟨l, xs, e, hq, q⟩ := q1
  subst e
  cases r1 with
  | cons r rr =>
    cases rr
    cases (show _ = Value.ref l from r)
    obtain ⟨its, rv, pl, hz⟩ := I1.list hq
    refine call_reversed_list pl.isList ?_
    have hl := rv.length
    have ho : (s1.heap.push (revObj l ((its.toArray.size : Int) - 1))).IsRevIter s1.heap.objs.size l ((its.toArray.size : Int) - 1) := ⟨_, Heap.get?_push_size _ rfl, rfl, rfl⟩
    refine wpAny_pyIter_revIter (s := { s1 with heap := s1.heap.push (revObj l ((its.toArray.size : Int) - 1)) }) ho ?_
    refine ⟨s1.heap.objs.size, [s1.heap.objs.size], _, _, H1, rfl, I1.kept (t' := s1.toks) fun b o e => Heap.get?_push_of_some _ e, turn_rev l _ xs, ⟨Nat.zero_le _, ?_⟩, fun b hb => ?_, q⟩
    · have e : (xs.length : Int) - 1 - ((0 : Nat) : Int) = (its.toArray.size : Int) - 1 := by rw [hl]; simp
      rw [e]
      exact ho
    · have e : b = s1.heap.objs.size := by simpa using hb
      subst e
      exact I1.fpOk (Nat.le_refl _) (I1.hok.fresh (Nat.le_refl _))
theorem for_rev {K : PySem.W.Frag} {a : Addr} {xs : List V} {g : TG} {tb : TS} {D : Ends} {σ : St} {H : Hp} (Pv : Nat → St → Hp → Prop) (h0 : Pv 0 σ H) (hl : ∀ i σ H, i ≤ xs.length → Pv i σ H → SqL K H a xs)
    (hs : ∀ i x σ H, xs[xs.length - 1 - i]? = some x → i < xs.length → Pv i σ H → g x σ H fun σ2 H2 => tb { D with nx := Pv (i + 1), ct := Pv (i + 1), bk := D.nx } σ2 H2) (hd : ∀ σ H, Pv xs.length σ H → D.nx σ H) :
    ∃ W : Nat → Nat → St → Hp → Prop, (∃ m, W 0 m σ H) ∧ ∀ i m σ H, W i m σ H →
      ((Itv K a xs).stop i H ∧ D.nx σ H) ∨ ((Itv K a xs).go i H ∧ ∃ N : St → Hp → Prop, (∀ σ' H', N σ' H' → ∃ m', m' < m ∧ W (i + 1) m' σ' H') ∧ ∀ x H', (Itv K a xs).yld i H x H' → g x σ H' fun σ2 H2 => tb { D with nx := N, ct := N, bk := D.nx } σ2 H2) := by
  refine ⟨fun i m σ H => m = xs.length - i ∧ i ≤ xs.length ∧ Pv i σ H, ⟨xs.length, by simp, Nat.zero_le _, h0⟩, ?_⟩
  rintro i m σ H ⟨rfl, hi, p⟩
  have q := hl i σ H hi p
  by_cases hlt : i < xs.length
  · refine .inr ⟨⟨q, hlt⟩, Pv (i + 1), fun σ' H' p' => ⟨xs.length - (i + 1), by omega, rfl, hlt, p'⟩, fun x H' y => ?_⟩
    obtain ⟨e, y⟩ := y
    subst e
    exact hs i x σ _ y hlt p
  · have e : i = xs.length := by omega
    subst e
    exact .inl ⟨⟨q, rfl⟩, hd σ H p⟩
end
end L2
set_option Elab.async false
set_option linter.all false
set_option maxRecDepth 100000
/-! The layer's judgements, wrapped: a structure is not unfolded when a long body is matched. -/
namespace L2
open PySem PySem.Spec PyProof.Rows
structure QE (X : Cx) (e : Expr) (t : TE) : Prop where
  ok : PE X e t
structure QT (X : Cx) (e : Expr) (t : TT) : Prop where
  ok : PT X e t
structure QW (X : Cx) (e : Expr) (t : TT) : Prop where
  ok : PW X e t
structure QA (X : Cx) (es : List Expr) (t : TA) : Prop where
  ok : PA X es t
structure QS (X : Cx) (st : Stmt) (t : TS) : Prop where
  ok : PS X st t
structure QSs (X : Cx) (st : List Stmt) (t : TS) : Prop where
  ok : PSs X st t
structure QI (X : Cx) (tg iter : Expr) (wi : TI) : Prop where
  ok : PI X tg iter wi
structure QG (X : Cx) (tg : Expr) (t : TG) : Prop where
  ok : PG X tg t
structure QGs (X : Cx) (es : List Expr) (t : TGs) : Prop where
  ok : PGs X es t
section
variable {X : Cx} {a b e o : Expr} {es rest : List Expr} {ta tb te : TE} {tA tB' : TT} {t : TA} {pos p cpos apos : Pos} {st : Stmt} {sts : List Stmt} {u v : TS}
theorem qpe_int {i j pos} : QE X (.Constant (.int i) j pos) (tC (.int i)) := ⟨pe_int⟩
theorem qpe_bl {b j pos} : QE X (.Constant (.bool b) j pos) (tC (.bl b)) := ⟨pe_bl⟩
theorem qpe_non {j pos} : QE X (.Constant .none j pos) (tC .non) := ⟨pe_non⟩
theorem qpe_str {x j pos} : QE X (.Constant (.str x) j pos) (tC (.str x)) := ⟨pe_str⟩
theorem qpv (i : Nat) {x : Str} {pos : Pos} (hN : X.N[i]? = some x := by rfl) (hv : Vis X.env.scope x := by first | exact Or.inl rfl | exact Or.inr (Or.inl rfl) | exact Or.inr (Or.inr rfl)) (hd : (x == ("__debug__" : Str)) = false := by decide)
    (hcd : (x == ("__classdict__" : Str)) = false := by decide) : QE X (.Name x pos) (tVar i) := ⟨pe_var hN hv hd hcd⟩
theorem qpe_glob {x : Str} {v : V} {u : Value} {pos : Pos} (hg : Gl X x) (hm : X.mg x = some u) (r : RelV v u) (hd : (x == ("__debug__" : Str)) = false := by decide) : QE X (.Name x pos) (tC v) := ⟨pe_glob hg hm r hd⟩
theorem qpe_bltn {x : Str} {v : V} {u : Value} {pos : Pos} (hg : Gl X x) (hm : X.mg x = none) (hv : bootBuiltins x = some u) (r : RelV v u) (hn : x ≠ "__name__" := by decide) (hd : (x == ("__debug__" : Str)) = false := by decide) : QE X (.Name x pos) (tC v) := ⟨pe_bltn hg hm hv r hn hd⟩
theorem qpe_op {op : Operator} {r : R2} (ho : OpR X (binaryOp op) r) (ha : QE X a ta) (hb : QE X b tb) : QE X (.BinOp a op b pos) (tOp r ta tb) := ⟨pe_op ho ha.ok hb.ok⟩
theorem qpe_un {op : UnaryOp} {r : V → Hp → VK → Prop} (ho : UnR X (unaryOp op) r) (ha : QE X a ta) : QE X (.UnaryOp op a pos) (tUn r ta) := ⟨pe_un ho ha.ok⟩
theorem qpe_not (ha : QE X a ta) : QE X (.UnaryOp .Not a pos) (tNotV ta) := ⟨pe_not ha.ok⟩
theorem qpe_one {op} (h : QE X a ta) : QE X (.BoolOp op [a] pos) ta := ⟨pe_one h.ok⟩
theorem qpe_and (ha : QE X a ta) (hb : QE X (.BoolOp .And (b :: rest) pos) tb) : QE X (.BoolOp .And (a :: b :: rest) pos) (tAndV ta tb) := ⟨pe_and ha.ok hb.ok⟩
theorem qpe_cmpR {op : CmpOp} {r : R2} (ho : OpR X (compareOp op) r) (ha : QE X a ta) (hb : QE X b tb) (hm : behindInMarks op b = false) : QE X (.Compare a [op] [b] pos) (tOp r ta tb) := ⟨pe_cmpR ho ha.ok hb.ok hm⟩
theorem qpt_cmpR {op : CmpOp} {r : R2} (ho : OpR X (compareOp op) r) (ha : QE X a ta) (hb : QE X b tb) (hm : behindInMarks op b = false) : QT X (.Compare a [op] [b] pos) (tTest (tOp r ta tb)) := ⟨pt_cmpR ho ha.ok hb.ok hm⟩
theorem qpt_val (h : QE X e te) (he : ∀ whole, isTrue e X.env whole = (do let v ← whole; standAt e.pos; holding [v] (truthy v)) := by intro _; rfl) : QT X e (tB te) := ⟨pt_val h.ok he⟩
theorem qpt_not (ha : QT X a tA) : QT X (.UnaryOp .Not a pos) (tNot tA) := ⟨pt_not ha.ok⟩
theorem qpw_and1 (ha : QT X a tA) : QW X (.BoolOp .And [a] pos) tA := ⟨pw_and1 ha.ok⟩
theorem qpw_or1 (ha : QT X a tA) : QW X (.BoolOp .Or [a] pos) tA := ⟨pw_or1 ha.ok⟩
theorem qpw_and (ha : QT X a tA) (hb : QW X (.BoolOp .And (b :: rest) pos) tB') : QW X (.BoolOp .And (a :: b :: rest) pos) (tAnd tA tB') := ⟨pw_and ha.ok hb.ok⟩
theorem qpw_or (ha : QT X a tA) (hb : QW X (.BoolOp .Or (b :: rest) pos) tB') : QW X (.BoolOp .Or (a :: b :: rest) pos) (tOr tA tB') := ⟨pw_or ha.ok hb.ok⟩
theorem QW.pt (h : QW X e tA) : QT X e tA := ⟨PW.pt h.ok⟩
theorem qpa_nil : QA X [] tNil := ⟨pa_nil⟩
theorem qpa_cons (ha : QE X e te) (hr : QA X es t) (hs : starEach (e :: es) X.env = (false, eval e X.env) :: starEach es X.env := by rfl) : QA X (e :: es) (tCons te t) := ⟨pa_cons ha.ok hr.ok hs⟩
theorem qpe_tup {x1} (h : QA X es t) : QE X (.Tuple es x1 pos) (tTup t) := ⟨pe_tup h.ok⟩
theorem qpe_lst (h : QA X es t) : QE X (.List es pos) (tLst t) := ⟨pe_lst h.ok⟩
theorem qpe_ix {r : R2} (hr : IxR X r) (ha : QE X a ta) (hb : QE X b tb) (hs : PlainIx b) : QE X (.Subscript a b pos) (tOp r ta tb) := ⟨pe_ix hr ha.ok hb.ok hs⟩
theorem qpe_call {CX : CXT} {k : Nat} {f : Addr} {fd : FuncData} {ps : List Str} {sp : Sp} {dvs : List V} {ds : List Value} {E : XK} {x : Str} (F : FnOk X.prog X.w X.K X.mg X.base CX k f fd ps sp) (hr : Room k X.A) (hg : Gl X x) (hm : X.mg x = some (.ref f)) (hk : PySem.W.keepIn X.K (.ref f) = true) (hb : Binds X.K fd ps ds) (hd : Vals dvs ds) (hx : Passes CX X E)
    (ha : QA X (e :: es) t) (hdb : (x == ("__debug__" : Str)) = false := by decide) (he : starEach (e :: es) X.env = (false, eval e X.env) :: starEach es X.env := by rfl) (hpl : (backTo pos (starEach es X.env)).any (·.1) = false := by rfl) :
    QE X (.Call (.Name x p) (e :: es) [] pos) (tCall sp dvs E t) := ⟨pe_call F hr hg hm hk hb hd hx ha.ok hdb he hpl⟩
theorem qpe_callB {id : String} {x : Str} {r : List V → Hp → VK → Prop} (hc : CallR X (.builtin id) r) (hg : Gl X x) (hm : X.mg x = none) (hv : bootBuiltins x = some (.builtin id)) (ha : QA X (e :: es) t) (hn : x ≠ "__name__" := by decide) (hdb : (x == ("__debug__" : Str)) = false := by decide)
    (he : starEach (e :: es) X.env = (false, eval e X.env) :: starEach es X.env := by rfl) (hpl : (backTo pos (starEach es X.env)).any (·.1) = false := by rfl) : QE X (.Call (.Name x p) (e :: es) [] pos) (tCB r t) := ⟨pe_callB hc hg hm hv ha.ok hn hdb he hpl⟩
theorem qpe_bm {T id : String} {name : Str} {to : TE} {r : V → List V → Hp → VK → Prop} (pa : PlainAttrs T) (slot : Slot T name id) (hty : typeOf (.builtin id) = pure (.type "method_descriptor")) (hm : MtR X id r) (ho : QE X o to) (ha : QA X (e :: es) t)
    (hbase : attributeBase o name X.env (eval o X.env) = eval o X.env := by rfl)
    (hfew : ((backTo cpos (starEach (e :: es) X.env)).all (fun x => !x.1) && (backToKw cpos (keywordEach [] X.env)).all (fun x => x.1.isSome)
      && decide ((e :: es).length + ([] : List Keyword).length + (if ([] : List Keyword).isEmpty then 0 else 1) < 30)) = true := by rfl)
    (hline : (apos.endLine == cpos.line) = true := by rfl) (hs : starEach (e :: es) X.env = (false, eval e X.env) :: starEach es X.env := by rfl) (hplain : (backTo cpos (starEach es X.env)).any (·.1) = false := by rfl) :
    QE X (.Call (.Attribute o name apos) (e :: es) [] cpos) (tBM X.K T r to t) := ⟨pe_bm pa slot hty hm ho.ok ha.ok hbase hfew hline hs hplain⟩
theorem qpss_nil : QSs X [] tNext := ⟨pss_nil⟩
theorem qpss_cons (h1 : QS X st u) (h2 : QSs X sts v) : QSs X (st :: sts) (tSeq u v) := ⟨pss_cons h1.ok h2.ok⟩
theorem qpss_one (h1 : QS X st u) : QSs X [st] u := ⟨pss_one h1.ok⟩
theorem qps_expr (he : QE X e te) (hs : swapsWith e none pos.line X.env = pure false := by rfl) : QS X (.Expr e pos) (tDrop te) := ⟨ps_expr he.ok hs⟩
theorem qps_ret (he : QE X e te) : QS X (.Return (some e) pos) (tRet te) := ⟨ps_ret he.ok⟩
theorem qps_if {c : Expr} {a b : List Stmt} {tc : TT} (hc : QT X c tc) (ha : QSs X a u) (hb : QSs X b v) : QS X (.If c a b pos) (tIfS tc u v) := ⟨ps_if hc.ok ha.ok hb.ok⟩
theorem qps_set {i : Nat} {x : Str} {pos' : Pos} (hN : X.N.Nodup) (hi : X.N[i]? = some x) (hx : Loc X.env.scope x) (he : QE X e te) (hs : swapsWith e (some (.Name x pos')) pos.line X.env = pure false := by rfl) (hf : X.fn x = true ∨ X.env.scope.names.lookup x = some .local := by first | exact .inl rfl | exact .inr rfl | assumption) :
    QS X (.Assign [.Name x pos'] e pos) (tAsg te (gName i)) := ⟨ps_set hN hi hx he.ok hs hf⟩
theorem qps_par {i j : Nat} {x y : Str} {ta : TA} {px py pt : Pos} {kt k2 pt2} (hc : X.calm = true) (hN : X.N.Nodup) (hi : X.N[i]? = some x) (hj : X.N[j]? = some y) (hij : i ≠ j)
    (hx : X.env.scope.names.lookup x = some .local) (hy : X.env.scope.names.lookup y = some .local) (ha : QA X [a, b] ta)
    (hw : swappedStores [.Tuple [.Name x px, .Name y py] kt pt] (.Tuple [a, b] k2 pt2) X.env = pure (some [x, y]))
    (hs : swapsWithSole [.Tuple [.Name x px, .Name y py] kt pt] (.Tuple [a, b] k2 pt2) pos.line X.env = pure false := by rfl) :
    QS X (.Assign [.Tuple [.Name x px, .Name y py] kt pt] (.Tuple [a, b] k2 pt2) pos) (tPar i j ta) := ⟨ps_par hc hN hi hj hij hx hy ha.ok hw hs⟩
theorem qps_asg {tg : Expr} {g : TG} (he : QE X e te) (hg : QG X tg g) (hs : swapsWithSole [tg] e pos.line X.env = pure false := by rfl) (hw : swappedStores [tg] e X.env = pure none := by rfl)
    (h1 : (assignEach [tg] X.env).map (·.2) = [assign tg X.env] := by rfl) : QS X (.Assign [tg] e pos) (tAsg te g) := ⟨ps_asg he.ok hg.ok hs hw h1⟩
theorem qpg_name {i : Nat} {x : Str} (hN : X.N.Nodup) (hi : X.N[i]? = some x) (hx : Loc X.env.scope x) (hf : X.fn x = true ∨ X.env.scope.names.lookup x = some .local := by first | exact .inl rfl | exact .inr rfl | assumption) : QG X (.Name x pos) (gName i) := ⟨pg_name hN hi hx hf⟩
theorem qpgs_nil : QGs X [] gNil := ⟨pgs_nil⟩
theorem qpgs_cons {t : TG} {u : TGs} (h1 : QG X e t) (h2 : QGs X es u)
    (hs : (assignEach (e :: es) X.env).map (·.2) = assign e X.env :: (assignEach es X.env).map (·.2) := by rfl) : QGs X (e :: es) (gCons t u) := ⟨pgs_cons h1.ok h2.ok hs⟩
theorem qpg_tup {k : Nat} {t : TGs} {n : Nat} (hc : X.calm = true) (h : QGs X es t)
    (hn : (assignEach es X.env).length = n := by rfl) (hst : (assignEach es X.env).findIdx? (·.1) = none := by rfl) : QG X (.Tuple es k pos) (gTup X.K n t) := ⟨pg_tup hc h.ok hn hst⟩
theorem qps_while {c : Expr} {body : List Stmt} {tc : TT} (hp : PassesOwn (model X.prog X.w) X.A X.env X.xe) (hc : QT X c tc) (hb : QSs X body u) : QS X (.While c body [] pos) (tWhile tc u) := ⟨ps_while hp hc.ok hb.ok⟩
theorem qps_for {tg iter : Expr} {body : List Stmt} {wi : TI} {g : TG} (hp : PassesOwn (model X.prog X.w) X.A X.env X.xe) (hc : X.calm = true) (hi : QI X tg iter wi) (hg : QG X tg g) (hb : QSs X body u)
    (hs : ∀ x, foldedSetIterable iter X.env x = pure x := by intro _; rfl) : QS X (.For tg iter body [] pos) (tFor wi g u) := ⟨ps_for hp hc hi.ok hg.ok hb.ok hs⟩
theorem qpi_list {tg l : Expr} {tl : TE} (hl : QE X l tl) : QI X tg l (iList X.K tl) := ⟨pi_list hl.ok⟩
theorem qpi_range1 {tg : Expr} (hg : Gl X "range") (hm : X.mg "range" = none) (ha : QA X [a] t) (hs : starEach [a] X.env = [(false, eval a X.env)] := by rfl) : QI X tg (.Call (.Name "range" p) [a] [] pos) (iRng1 t) := ⟨pi_range1 hg hm ha.ok hs⟩
theorem qpi_rev {tg : Expr} (hg : Gl X "reversed") (hm : X.mg "reversed" = none) (ha : QA X [a] t) (hs : starEach [a] X.env = [(false, eval a X.env)] := by rfl) : QI X tg (.Call (.Name "reversed" p) [a] [] pos) (iRev X.K t) := ⟨pi_rev hg hm ha.ok hs⟩
end
section
variable {P : Program} {w : World} {K : PySem.W.Frag} {mg : Str → Option Value} {base : Heap}
theorem Fun.okq {x qual : Str} {st : Stmt} {f : Addr} {fd : FuncData} {N ps : List Str} {k : Nat} {sp : Sp} (F : Fun K x qual st f fd) (S : FnScope N ps (defScope st)) (len : ∀ vs H Q E, sp vs H Q E → vs.length = ps.length)
    (hbody : ∀ (cdv : Value) (A : Around) (outer : List Env) (s : Shared) (H : Hp) (vs : List V) (Q : VK) (E : XK), Room k (A.deeper (envOfC qual (defScope st) s.heap.objs.size f cdv)) → sp vs H Q E →
      ∃ t, QSs (cxOf CX0 P w K mg base N qual (defScope st) f cdv A outer s H E).nox (defBody st) t ∧ t { nx := fun _ H' => Q .non H', rt := Q } (start N vs) H) : FnOk P w K mg base CX0 (k + 1) f fd ps sp :=
  F.ok S len fun cdv A outer s H vs Q E hr h => by
    obtain ⟨t, h1, h2⟩ := hbody cdv A outer s H vs Q E hr h
    exact ⟨t, h1.ok, h2⟩
end
end L2
set_option Elab.async false
set_option linter.all false
set_option maxRecDepth 100000
/-! EXCEPTIONS OF ONE'S OWN over the layer: raised, passing a frame, caught by their very class. -/
namespace L2
open PySem PySem.Spec PyProof.Rows
section
variable {P : Program} {w : World} {H : Hp} {h h' : Heap} {a e T : Addr} {o : HO} {l : List Env}
theorem ObjOk.got (x : ObjOk P w H h a o) : ∃ ob, h.get? a = some ob := by
  induction o with
  | lst xs => obtain ⟨_, its, n, _, q⟩ := x; exact ⟨_, q⟩
  | tup xs => obtain ⟨_, its, _, ob, q, _⟩ := x; exact ⟨_, q⟩
  | dK kvs => obtain ⟨_, _, vs, _, ob, es, ep, q, _⟩ := x; exact ⟨_, q⟩
  | dT kvs => obtain ⟨_, _, xs, _, ob, es, ep, q, _⟩ := x; exact ⟨_, q⟩
  | set S n => obtain ⟨ob, es, ep, t, q, _⟩ := x; exact ⟨_, q⟩
  | ins C dx fs => obtain ⟨_, _, _, q, _⟩ := x; exact ⟨_, q⟩
  | own y => exact x
  | xd fs => obtain ⟨mA, ⟨od, es, ep, q, _⟩, _⟩ := x; exact ⟨_, q⟩
  | rng lo hi => obtain ⟨t, u, v, q⟩ := x; exact ⟨_, q⟩
  | frz ob u ih => obtain ⟨q, _⟩ := x; exact ⟨_, q⟩
  | tbl ps => exact ⟨_, (show h.get? a = some _ from x)⟩
  | met f y => exact ⟨_, (show h.get? a = some _ from x)⟩
  | ext p => obtain ⟨_, q, _⟩ := x; exact q
theorem HOk.none_of (x : HOk P w H h) (q : h.get? a = none) : H a = none := by
  cases z : H a with
  | none => rfl
  | some o =>
    obtain ⟨ob, r⟩ := (x a o z).got
    rw [q] at r
    cases r
/-- frames are untracked and hold no record -/
def FrOk (H : Hp) (h : Heap) (l : List Env) : Prop := ∀ b ∈ frs l, H b = none ∧ ∃ o, h.get? b = some o ∧ ∀ vs, o.data ≠ .fields vs
end
section
variable {X : Cx} {pins : List (Addr × Obj)} {σ : St} {H H' : Hp} {s s' : Shared} {h' : Heap}
theorem Inv.frOk (I : Inv X pins σ H s) : FrOk H s.heap X.stack := fun b hb => ⟨I.stkFree b hb, (I.stack.mem hb).2⟩
end
/-! ### leaving a def's body -/
section
variable {P : Program} {w : World} {K : PySem.W.Frag} {mg : Str → Option Value} {base : Heap} {N : List Str} {qual : Str} {scope : Scope} {f : Addr} {cd : Value} {A : Around} {outer : List Env} {s0 : Shared} {H0 : Hp} {E : XK}
  {pins : List (Addr × Obj)} {σ : St} {H H' : Hp} {s s' : Shared} {h' : Heap} {e T : Addr} {cls : Value}
end
end L2
set_option Elab.async false
set_option linter.all false
set_option maxRecDepth 100000
/-! raise, try -/
namespace L2
open PySem PySem.Spec PyProof.Rows
/-- the bases of ValueError, itself first -/
abbrev bmVE : List Value := [.type "ValueError", .type "Exception", .type "BaseException", .type "object"]
theorem own_cls {K : PySem.W.Frag} {h : Heap} {mg : Str → Option Value} {x : Str} {C : Addr} {bmB : List Value} {newId : String} (X : K.In h) (hm : mg x = some (.ref C)) (q : PySem.W.excIn K C bmB newId = true) : OwnCls x C bmB newId mg h := by
  refine ⟨hm, ?_⟩
  unfold PySem.W.excIn at q
  split at q
  · rename_i dd cd sl ho
    split at q
    · rename_i C' bm k0 k1 k2 k3 n k5 hm hs
      simp only [Bool.and_eq_true, beq_iff_eq, Bool.not_eq_true'] at q
      obtain ⟨⟨⟨⟨⟨rfl, rfl⟩, hdel⟩, ht⟩, hok⟩, hni⟩ := q
      obtain ⟨nm, bs, mro, ns, qn, hd, sn, sub, ab, col, del⟩ := cd
      dsimp only at hm hdel hok hni
      subst hm hdel
      have hsl : sl = #[k0, k1, k2, k3, some (.builtin n), k5] := by
        obtain ⟨l⟩ := sl
        simp only at hs
        rw [hs]
      subst hsl
      exact ⟨bm, ns, nm, qn, bs, hd, sn, sub, ab, col, dd, k0, k1, k2, k3, k5, _, X _ _ ho, .of_isNs (PySem.W.isNs_of_in X hok), PySem.W.nsMap_none_of_in X hok hni, PySem.W.tail_of_in X ht⟩
    · cases q
  · cases q
def tRaise (E : XK) (C : Addr) (ta : TA) : TS := fun _ σ H => ta σ H fun vs H1 => vs.length ≤ sizeLine ∧ E (.ref C) none H1
/-- what a made exception does to the body that raises it -/
def Throws (X : Cx) (E : XK) (C : Addr) : Prop := ∀ (pins : List (Addr × Obj)) (σ : St) (H : Hp) (s : Shared) (h' : Heap) (e : Addr) (vs : List Value), Inv X pins σ H s → Heap.MadeExcOf s.heap h' e (.ref C) vs → E (.ref C) none H → X.xe (.ref e) { s with heap := h' }
section
variable {X : Cx} {x y : Str} {C : Addr} {a : Expr} {es : List Expr} {ta : TA} {np cpos pos epos hpos p : Pos} {E : XK}
theorem qps_raise (hx : Throws X E C) (hg : Gl X x) (hm : X.mg x = some (.ref C)) (q : PySem.W.excIn X.K C bmVE "ValueError.__new__" = true) (hc : X.calm = true) (ha : QA X (a :: es) ta)
    (he : starEach (a :: es) X.env = (false, eval a X.env) :: starEach es X.env := by rfl) (hpl : (backTo cpos (starEach es X.env)).any (·.1) = false := by rfl) (hd : (x == ("__debug__" : Str)) = false := by decide) :
    QS X (.Raise (some (.Call (.Name x np) (a :: es) [] cpos)) none pos) (tRaise E C ta) := ⟨by
  intro pins s σ H D I h
  obtain ⟨tl, N, nm, qn, bs, hdct, sn, sub, ab, col, dd, k0, k1, k2, k3, k5, mN, hC, hN, hni, T⟩ := (own_cls (h := X.base) I.ok.mod.kin hm q).obj
  refine wpAny_Raise_call_subT (C := C) (nm := nm) (q := qn) (N := N) (bs := bs) (bm := tl) (hdct := hdct) (sn := sn) (sub := sub) (ab := ab) (col := col) (dd := dd) (k0 := k0) (k1 := k1) (k2 := k2) (k3 := k3) (k5 := k5)
    PySem.F.excBase_ValueError (mN := mN) (T.hasType PySem.F.excBase_ValueError.hasBase) (I.ok.hd hc) (by rw [he]; show (false || (backTo cpos (starEach es X.env)).any (·.1)) = false; rw [hpl]; rfl) hni (ld_glob I hg hm ⟨rfl, ?_⟩ hd)
  have hA := ha.ok cpos pins s σ H _ I h
  rw [he] at hA ⊢
  refine Calls.evalArgs_plain (thn hA fun us s2 ⟨vs, H1, I1, r, z, qE⟩ => ?_)
  refine ⟨rfl, by rw [← r.length]; exact z, I1.bk _ _ hC, hN.keeps I1.bk, T.keeps I1.bk, fun h' e hx' => hx pins σ H1 s2 h' e _ I1 hx' qE⟩⟩
end
/-- within an except suite -/
abbrev Cx.marked (X : Cx) (ev : Value) : Cx := { X with A := X.A.mark (some ev), calm := false }
section
variable {X : Cx} {pins : List (Addr × Obj)} {σ : St} {H : Hp} {s : Shared} {ev : Value}
theorem Cx.Ok.marked (ok : X.Ok) : (X.marked ev).Ok :=
  ⟨ok.mod, ok.kind, ok.glob, ok.blt, ok.above, ok.inj, ok.has, ok.cab, fun z => (nomatch z), ok.frames, ok.stk, ok.exf, ok.bs, ok.bsz, ok.noex, ok.exfs, ok.funs, ok.frf⟩
theorem Inv.marked (I : Inv X pins σ H s) : Inv (X.marked ev) pins σ H s := ⟨I.ok.marked, I.os, I.bare, I.base, I.loc, I.cell, I.free, I.freeC, I.pin, I.hok, I.len⟩
theorem Inv.unmarked (I : Inv (X.marked ev) pins σ H s) (ok : X.Ok) : Inv X pins σ H s := ⟨ok, I.os, I.bare, I.base, I.loc, I.cell, I.free, I.freeC, I.pin, I.hok, I.len⟩
theorem SP.unmarked {D : Ends} {f : Flow} {s' : Shared} (ok : X.Ok) (h : SP (X.marked ev) pins D f s') : SP X pins D f s' := by
  cases f with
  | next => obtain ⟨σ', H', I, q⟩ := h; exact ⟨σ', H', I.unmarked ok, q⟩
  | brk => obtain ⟨σ', H', I, q⟩ := h; exact ⟨σ', H', I.unmarked ok, q⟩
  | cont => obtain ⟨σ', H', I, q⟩ := h; exact ⟨σ', H', I.unmarked ok, q⟩
  | ret u => obtain ⟨v, σ', H', I, r, q⟩ := h; exact ⟨v, σ', H', I.unmarked ok, r, q⟩
end
section
variable {X : Cx} {k : Nat} {f C : Addr} {fd : FuncData} {ps : List Str} {sp : Sp} {dvs : List V} {ds : List Value} {x y : Str} {p pos cpos epos hpos np : Pos} {e : Expr} {es : List Expr} {t : TA} {b0 : Stmt} {suite : List Stmt} {ts : TS}
end
end L2
set_option Elab.async false
set_option linter.all false
set_option maxRecDepth 100000
/-! defs that may raise, defs with defaults -/
namespace L2
open PySem PySem.Spec PyProof.Rows
structure FunD (K : PySem.W.Frag) (x qual : Str) (st : Stmt) (f : Addr) (fd : FuncData) : Prop where
  ex : ∃ (oc : Value) (od : Option Addr) (dV kV doc pm : Value) (an : Option Addr) (cdv ct : Value) (osl : Array (Option Value)),
    fd = PySem.W.fnOf x qual (defArgs st) (defBody st) (defScope st) dV kV doc pm an cdv ct ∧ K.lookup f = some ⟨oc, od, .func fd, osl⟩ ∧ PySem.W.codeIn K cdv qual = true
  kp : PySem.W.keepIn K (.ref f) = true
section
variable {P : Program} {w : World} {K : PySem.W.Frag} {mg : Str → Option Value} {base : Heap} {x qual : Str} {st : Stmt} {f : Addr} {fd : FuncData} {N ps : List Str} {k : Nat} {sp : Sp}
theorem Fun.toD (F : Fun K x qual st f fd) : FunD K x qual st f fd := by
  obtain ⟨oc, od, kV, doc, pm, an, cdv, ct, osl, e1, lk, hcd⟩ := F.ex
  exact ⟨⟨oc, od, .none, kV, doc, pm, an, cdv, ct, osl, e1, lk, hcd⟩, F.kp⟩
theorem funD_mk {oc : Value} {od an : Option Addr} {osl : Array (Option Value)} {dV kV doc pm cdv ct : Value} (l : K.lookup f = some ⟨oc, od, .func (PySem.W.fnOf x qual (defArgs st) (defBody st) (defScope st) dV kV doc pm an cdv ct), osl⟩)
    (c : PySem.W.codeIn K cdv qual = true) (k : PySem.W.keepIn K (.ref f) = true) : FunD K x qual st f (PySem.W.fnOf x qual (defArgs st) (defBody st) (defScope st) dV kV doc pm an cdv ct) := ⟨⟨oc, od, dV, kV, doc, pm, an, cdv, ct, osl, rfl, l, c⟩, k⟩
end
theorem iteN {a b : Int} {A B : Prop} (h1 : a ≠ b → A) (h2 : a = b → B) : if (!decide (V.int a = V.int b)) = true then A else B := by
  rw [dec_int]
  by_cases h : a = b
  · rw [h, beq_self_eq_true]
    exact iteF (h2 h)
  · rw [beq_eq_false_iff_ne.mpr h]
    exact iteT (h1 h)
/-- a fraction at a -/
abbrev FrAt (H : Hp) (a : Addr) (x y : Int) : Prop := H a = some (.tup [.int x, .int y])
end L2
set_option Elab.async false
set_option linter.all false
set_option maxRecDepth 100000
namespace LN
/-! ### fractions: sizes, exponents -/
theorem abs_nn (i : Int) : 0 ≤ (if i < 0 then -i else i) := by split <;> omega
theorem abs_abs (i : Int) : (if i < 0 then -i else i).natAbs = i.natAbs := by split <;> omega
theorem gcd_turnI {x y : Int} (hx : 0 ≤ x) (hy : 0 < y) : Nat.gcd y.natAbs (x % y).natAbs = Nat.gcd x.natAbs y.natAbs := by
  have e : (x % y).natAbs = x.natAbs % y.natAbs := by
    have h1 : x = ((x.natAbs : Nat) : Int) := by omega
    have h2 : y = ((y.natAbs : Nat) : Int) := by omega
    have h3 : x % y = ((x.natAbs % y.natAbs : Nat) : Int) := by rw [Int.natCast_emod, ← h1, ← h2]
    rw [h3]
    rfl
  rw [e]
  exact gcd_turn
theorem mod_lt {x y : Int} (hy : 0 < y) : (x % y).natAbs < y.natAbs := by
  have h1 := Int.emod_nonneg x (show y ≠ 0 by omega)
  have h2 := Int.emod_lt_of_pos x hy
  omega
theorem gcd_zero {x : Int} (hx : 0 ≤ x) : ((Nat.gcd x.natAbs (0 : Int).natAbs : Nat) : Int) = x := by
  rw [show (0 : Int).natAbs = 0 from rfl, Nat.gcd_zero_right]
  omega
theorem gcd_bd {n : Nat} {t b : Int} (hb : b ≠ 0) (h : Bd n b) : Bd n ((Nat.gcd t.natAbs b.natAbs : Nat) : Int) := by
  refine h.of_le ?_
  rw [Int.natAbs_natCast]
  exact Nat.gcd_le_right _ (Int.natAbs_pos.mpr hb)
theorem gcd_ne {t b : Int} (hb : b ≠ 0) : ((Nat.gcd t.natAbs b.natAbs : Nat) : Int) ≠ 0 := by
  have := Nat.gcd_pos_of_pos_right t.natAbs (Int.natAbs_pos.mpr hb)
  omega
theorem Low.x0 {t b x y : Int} (h : Low t b x y) (hb : b ≠ 0) (ht : t = 0) : x = 0 := by
  have e := h.eq
  rw [ht, Int.zero_mul] at e
  exact (Int.mul_eq_zero.mp e).resolve_right hb
theorem Low.bdx {n : Nat} {t b x y : Int} (h : Low t b x y) (hb : b ≠ 0) (ht : Bd n t) : Bd n x := by
  by_cases z : t = 0
  · rw [h.x0 hb z, ← z]
    exact ht
  · exact ht.dvd h.xd z
theorem Low.bdy {n : Nat} {t b x y : Int} (h : Low t b x y) (hb : b ≠ 0) (ht : Bd n b) : Bd n y := ht.dvd h.yd hb
end LN
namespace L2
open PySem
/-- two ways that meet behind a statement -/
theorem seq_of {t u : TS} {D : Ends} {σ : St} {H : Hp} (Pv : St → Hp → Prop) (tail : ∀ σ' H', Pv σ' H' → u D σ' H') (h : ∀ nx : St → Hp → Prop, (∀ σ' H', Pv σ' H' → nx σ' H') → t { D with nx := nx } σ H) : tSeq t u D σ H := h _ tail
theorem isI_int {v : V} (h : isI v = true) : ∃ i, v = .int i := by
  cases v with
  | int i => exact ⟨i, rfl⟩
  | _ => cases h
/-! ### the promises about fractions -/
def spGcd : Sp := fun vs H Q _ => ∃ x y : Int, vs = [.int x, .int y] ∧ 0 ≤ x ∧ 0 ≤ y ∧ Q (.int ((Nat.gcd x.natAbs y.natAbs : Nat) : Int)) H
end L2
set_option Elab.async false
set_option linter.all false
set_option maxRecDepth 100000
/-! EXCEPTIONS OF ONE'S OWN, by name: an exception in the air, its context known to be none; caught by a class above its own, bound to a name, asked by isinstance, while it is handled. -/
namespace L2
open PySem PySem.W PySem.Spec PyProof.Rows
/-- the exception at e, its trace at T, fl: the frame in which it stands -/
structure Air (e : Addr) (cls fl : Value) (T : Addr) (h : Heap) : Prop where
  ob : ∃ oe vs oT ts, h.get? e = some oe ∧ oe.cls = cls ∧ oe.data = .fields vs ∧ vs[1]? = some (.ref T) ∧ vs[2]? = some .none ∧ h.get? T = some oT ∧ oT.data = .fields ts ∧ ts[3]? = some fl
  ne : T ≠ e
/-- all but these are kept, the frames up to slots -/
structure Wind (as fr : List Addr) (h h' : Heap) : Prop where
  keep : ∀ b o, h.get? b = some o → b ∉ as → b ∉ fr → h'.get? b = some o
  slot : ∀ b o, h.get? b = some o → b ∉ as → ∃ sl, h'.get? b = some { o with slots := sl }
theorem Wind.trans {as bs cs fr : List Addr} {h1 h2 h3 : Heap} (x : Wind as fr h1 h2) (y : Wind bs fr h2 h3) (ha : ∀ b ∈ as, b ∈ cs) (hb : ∀ b o, h1.get? b = some o → b ∈ bs → b ∈ cs) : Wind cs fr h1 h3 where
  keep := fun b o q n1 n2 => y.keep b o (x.keep b o q (fun z => n1 (ha b z)) n2) (fun z => n1 (hb b o q z)) n2
  slot := fun b o q n1 => by
    obtain ⟨s1, e1⟩ := x.slot b o q fun z => n1 (ha b z)
    obtain ⟨s2, e2⟩ := y.slot b _ e1 fun z => n1 (hb b o q z)
    exact ⟨s2, e2⟩
theorem Wind.of_keeps {fr : List Addr} {h h' : Heap} (k : ∀ b o, h.get? b = some o → h'.get? b = some o) : Wind [] fr h h' := ⟨fun b o q _ _ => k b o q, fun b o q _ => ⟨o.slots, k b o q⟩⟩
theorem Wind.frames {as : List Addr} {h h' base : Heap} {l : List Env} (x : Wind as (frs l) h h') (hl : h.FunFrames base l) (has : ∀ b ∈ as, ∀ o, h.get? b = some o → ∃ vs, o.data = .fields vs) : h'.FunFrames base l :=
  hl.of_keeps fun b o q nf => by
    obtain ⟨sl, e⟩ := x.slot b o q fun z => by
      obtain ⟨vs, d⟩ := has b z o q
      exact nf vs d
    exact ⟨_, e, rfl⟩
/-- a trace is laid, the exception told of it -/
theorem air_laid {h h1 : Heap} {fr : List Addr} {e : Addr} {oe ob : Obj} {vs ts : Array Value} {fl : Value} (k : Heap.SlotsOnly fr h h1) (he : h.get? e = some oe) (hfr : e ∉ fr) (hd : oe.data = .fields vs) (hsz : 1 < vs.size) (h2 : vs[2]? = some .none)
    (hob : ob.data = .fields ts) (h3 : ts[3]? = some fl) :
    h.get? h1.objs.size = none ∧ Air e oe.cls fl h1.objs.size ((h1.push ob).update e (Obj.mapFields (·.setIfInBounds 1 (Value.ref h1.objs.size)))) ∧ Wind [e] fr h ((h1.push ob).update e (Obj.mapFields (·.setIfInBounds 1 (Value.ref h1.objs.size)))) := by
  have e1 : h1.get? e = some oe := (k.2.1 e hfr).trans he
  have e2 : (h1.push ob).get? e = some oe := Heap.get?_push_of_some _ e1
  have ne : h1.objs.size ≠ e := Nat.ne_of_gt (Heap.lt_size e1)
  have d3 := Obj.data_mapFields hd (·.setIfInBounds 1 (Value.ref h1.objs.size))
  have e3 := Heap.get?_update_self (Obj.mapFields (·.setIfInBounds 1 (Value.ref h1.objs.size))) e2 (Obj.isFreed_of_fields d3)
  have tt : (h1.push ob).get? h1.objs.size = some ob := Heap.get?_push_size h1 (Obj.isFreed_of_fields hob)
  have t3 := (Heap.get?_update_other (h1.push ob) (Obj.mapFields (·.setIfInBounds 1 (Value.ref h1.objs.size))) (Ne.symm ne)).trans tt
  have stay : ∀ b o, b ≠ e → h1.get? b = some o → ((h1.push ob).update e (Obj.mapFields (·.setIfInBounds 1 (Value.ref h1.objs.size)))).get? b = some o := fun b o nb q =>
    (Heap.get?_update_other _ _ (Ne.symm nb)).trans (Heap.get?_push_of_some _ q)
  refine ⟨Heap.get?_none_of_le (by rw [k.1]; exact Nat.le_refl _), ⟨⟨_, _, ob, ts, e3, Obj.cls_mapFields _ _, d3, by simp [hsz], by rw [Array.getElem?_setIfInBounds_ne (by decide)]; exact h2, t3, hob, h3⟩, ne⟩, fun b o q n1 n2 => stay b o (by simpa using n1) ((k.2.1 b n2).trans q), fun b o q n1 => ?_⟩
  obtain ⟨sl, q2⟩ := k.2.2 b o q
  exact ⟨sl, stay b _ (by simpa using n1) q2⟩
section
variable {M : Model} {A : Around} {E : Value → Shared → Prop} {s : Shared} {base : Heap} {env : Env} {outer : List Env} {L e T : Addr} {cls fl : Value} {Q : Unit → Shared → Prop}
theorem entry2 {oe : Obj} {vs : Array Value} {hd0 : Value} {hn : Bool} (hfr : A.frames = some (env :: outer)) (hl : s.heap.FunFrames base (env :: outer)) (hf : env.frame = some L) (he : s.heap.get? e = some oe) (hd : oe.data = .fields vs) (hsz : 1 < vs.size) (h2 : vs[2]? = some .none)
    (h : ∀ h' T', s.heap.get? T' = none → Air e oe.cls (rawInt L) T' h' → Wind [e] (frs (env :: outer)) s.heap h' → Q () { s with heap := h' }) :
    wpAny M A (do let a ← frameOf env; let pl ← entryPlaceOf L hn; let b ← EntryCells.newEntry hd0 a .none (rawInt L) .none pl; setField (.ref e) 1 b) Q E s := by
  have nfr : e ∉ frs (env :: outer) := fun z => by
    obtain ⟨_, o, qo, nf⟩ := hl.mem z
    rw [he] at qo
    cases qo
    exact nf vs hd
  refine wpAny_bind (wpAny_frameOf_fun hfr hl hf fun h1 k1 => wpAny_bind (wpAny_entryPlaceOf fun pp hpp => ?_))
  unfold EntryCells.newEntry newFields
  refine wpAny_bind (wpAny_newObj_type ?_ (hpp.sizeOk5 _ _ _ _ _))
  obtain ⟨z1, z2, z3⟩ := air_laid (fl := rawInt L) (ob := { cls := .type "traceback", dict := none, data := .fields ([hd0, .ref L, .none, rawInt L, .none] ++ (if pp.isEmpty then List.replicate 6 Value.none else pp)).toArray }) k1 he nfr hd hsz h2 rfl (by simp)
  exact wpAny_setField (Heap.get?_push_of_some _ ((k1.2.1 e nfr).trans he)) hd hsz (h _ _ z1 z2 z3)
theorem note_first {oe : Obj} {vs : Array Value} (hfr : A.frames = some (env :: outer)) (hl : s.heap.FunFrames base (env :: outer)) (hf : env.frame = some L) (he : s.heap.get? e = some oe) (hd : oe.data = .fields vs) (h1 : vs[1]? = some .none) (h2 : vs[2]? = some .none)
    (h : ∀ h' T', s.heap.get? T' = none → Air e oe.cls (rawInt L) T' h' → Wind [e] (frs (env :: outer)) s.heap h' → Q () { s with heap := h' }) : wpAny M A (noteFrame (.ref e) env) Q E s := by
  unfold noteFrame
  simp only [hf]
  refine wpAny_bind (wpAny_field he hd h1 ?_)
  rw [if_neg (by decide)]
  exact entry2 hfr hl hf he hd (Array.getElem?_eq_some_iff.mp h1).1 h2 h
/-- the trace's mark is taken away -/
theorem set_none2 (a : Air e cls fl T s.heap) (h : ∀ h', Air e cls .none T h' → Wind [T] [] s.heap h' → Q () { s with heap := h' }) : wpAny M A (setFlight (.ref e) none) Q E s := by
  obtain ⟨⟨oe, vs, oT, ts, he, hc, hd, h1, h2, hT, hdT, h3⟩, ne⟩ := a
  have z3 : 3 < ts.size := (Array.getElem?_eq_some_iff.mp h3).1
  have oth : ∀ b, b ≠ T → (s.heap.update T (Obj.mapFields (·.setIfInBounds 3 Value.none))).get? b = s.heap.get? b := fun b nb => Heap.get?_update_other _ _ (Ne.symm nb)
  have dT := Obj.data_mapFields hdT (·.setIfInBounds 3 Value.none)
  have tt := Heap.get?_update_self (Obj.mapFields (·.setIfInBounds 3 Value.none)) hT (Obj.isFreed_of_fields dT)
  unfold setFlight
  refine wpAny_bind (wpAny_field he hd h1 ?_)
  rw [if_pos (by simp : (Value.ref T != Value.none) = true)]
  refine wpAny_setField hT hdT z3 (h _ ⟨⟨oe, vs, _, _, (oth e (Ne.symm ne)).trans he, hc, hd, h1, h2, tt, dT, by simp [z3]⟩, ne⟩ ⟨fun b o q n1 _ => (oth b (by simpa using n1)).trans q, fun b o q n1 => ⟨o.slots, (oth b (by simpa using n1)).trans q⟩⟩)
theorem note_next (hfr : A.frames = some (env :: outer)) (hl : s.heap.FunFrames base (env :: outer)) (hf : env.frame = some L) (a : Air e cls .none T s.heap)
    (h : ∀ h' T', s.heap.get? T' = none → Air e cls (rawInt L) T' h' → Wind [e, T] (frs (env :: outer)) s.heap h' → Q () { s with heap := h' }) : wpAny M A (noteFrame (.ref e) env) Q E s := by
  obtain ⟨⟨oe, vs, oT, ts, he, hc, hd, h1, h2, hT, hdT, h3⟩, ne⟩ := a
  subst hc
  have z3 : 3 < ts.size := (Array.getElem?_eq_some_iff.mp h3).1
  have oth : ∀ b, b ≠ T → (s.heap.update T (Obj.mapFields (·.setIfInBounds 3 Value.none))).get? b = s.heap.get? b := fun b nb => Heap.get?_update_other _ _ (Ne.symm nb)
  have wd : Wind [T] (frs (env :: outer)) s.heap (s.heap.update T (Obj.mapFields (·.setIfInBounds 3 Value.none))) := ⟨fun b o q n1 _ => (oth b (by simpa using n1)).trans q, fun b o q n1 => ⟨o.slots, (oth b (by simpa using n1)).trans q⟩⟩
  unfold noteFrame
  simp only [hf]
  refine wpAny_bind (wpAny_field he hd h1 ?_)
  rw [if_pos (by simp : (Value.ref T != Value.none) = true)]
  refine wpAny_bind (wpAny_field hT hdT h3 ?_)
  rw [if_neg (by simp [rawInt] : ¬ ((Value.none == rawInt L) = true))]
  refine wpAny_bind (wpAny_setField hT hdT z3 ?_)
  refine entry2 (s := { s with heap := s.heap.update T (Obj.mapFields (·.setIfInBounds 3 Value.none)) }) hfr (wd.frames hl fun b hb o q => ?_) hf ((oth e (Ne.symm ne)).trans he) hd (Array.getElem?_eq_some_iff.mp h1).1 h2 fun h' T' z1 z2 z4 => h h' T' ?_ z2 (wd.trans z4 (by simp) (fun b o _ z => by simp at z; simp [z]))
  · obtain rfl : b = T := by simpa using hb
    rw [hT] at q
    cases q
    exact ⟨ts, hdT⟩
  · by_cases hb : T' = T
    · subst hb
      have tt := Heap.get?_update_self (Obj.mapFields (·.setIfInBounds 3 Value.none)) hT (Obj.isFreed_of_fields (Obj.data_mapFields hdT _))
      rw [tt] at z1
      cases z1
    · exact (oth T' hb).symm.trans z1
end
end L2
set_option Elab.async false
set_option linter.all false
set_option maxRecDepth 100000
/-! an exception of one's own, by its class: isinstance -/
namespace L2
open PySem PySem.W PySem.Spec PyProof.Rows
/-- what the text says of a class of exceptions -/
structure XCls (K : PySem.W.Frag) (C : Addr) : Prop where
  ga : PySem.W.findIn K (.ref C) "__getattribute__" = some (some (.builtin "BaseException.__getattribute__"))
  gt : PySem.W.findIn K (.ref C) "__getattr__" = some none
  cl : PySem.W.findIn K (.ref C) "__class__" = some (some (.builtin "object.__class__"))
  ob : PySem.W.subIn K (.ref C) (.type "object") = some true
  be : PySem.W.subIn K (.ref C) (.type "BaseException") = some true
  is : (PySem.W.clsIn K C).isSome = true
/-- an object of the class C -/
def ExcAt (e C : Addr) (h : Heap) : Prop := ∃ o, h.get? e = some o ∧ o.cls = .ref C
section
variable {prog : Program} {w : World} {A : Around} {E : Value → Shared → Prop} {h : Heap} {g : Array GenState} {d : Drawn} {t : Nat} {os : OsState} {a C : Addr} {o : Obj} {K : PySem.W.Frag}
theorem xcls_get {R : Result → Shared → Prop} (X : K.In h) (Z : XCls K C) (hx : h.get? a = some o) (hc : o.cls = .ref C) (hq : R (.ok (.ret (.ref C))) ⟨h, g, d, t, os⟩) :
    codeAny (model prog w) A (.call (.builtin "getset_descriptor.__get__") ⟨[.builtin "object.__class__", .ref a, .ref C], []⟩) R ⟨h, g, d, t, os⟩ := by
  have h5 : (⟨h, g, d, t, os⟩ : Shared).TypeIs (.builtin "object.__class__") "getset_descriptor" := F.typeOf_object_class
  have ls : Looks (model prog w) h (isSubtype (.ref C) (.type (".".intercalate ("object.__class__".cutAt '.').dropLast))) true := by rw [F.owner_object_class]; exact looks_subIn X Z.ob
  refine codeAny_call_builtin F.slot_gs_get.plain F.entry_gs_get (F.slot_gs_get.check _ _ _ _ _ _ _ _ h5 (F.args_gs_get _ _ _) ?_)
  repeat (any_goals (first | assumption | (with_reducible refine wpAny_loadPart_at hx ?_; rw [hc]) | with_reducible refine ls.at ?_ | wp_step))
  refine ⟨Code.quiet_builtin _ (by decide +kernel), codeAny_builtin F.entry_object_class ?_⟩
  repeat (any_goals (first | assumption | (with_reducible refine wpAny_loadPart_at hx ?_; rw [hc]) | wp_step))
theorem xcls_entry {tk : Tok} {Q : Fin → Shared → Prop} (X : K.In h) (Z : XCls K C) (hx : h.get? a = some o) (hc : o.cls = .ref C) (hq : Q (.done (.ret (.ref C))) ⟨h, g, d, t, os⟩) :
    wpAny (model prog w) A (Builtin.«object.__getattribute__» ⟨[.ref a, .str "__class__" tk], []⟩) Q E ⟨h, g, d, t, os⟩ := by
  have h5 : (⟨h, g, d, t, os⟩ : Shared).TypeIs (.builtin "object.__class__") "getset_descriptor" := F.typeOf_object_class
  have f5 := F.typeOf_object_class
  have f6 := F.slot_gs_get.lookup
  have f7 := F.slot_gs_set.lookup
  have l4 := looks_findIn (M := model prog w) X Z.cl
  repeat (any_goals (first | assumption | (with_reducible refine wpAny_loadPart_at hx ?_; rw [hc]) | with_reducible refine l4.at ?_ | wp_step))
  refine xcls_get X Z hx hc ?_
  repeat (any_goals (first | assumption | wp_step))
theorem xcls_check {M : Model} {nv : Value} {Q : Unit → Shared → Prop} (X : K.In h) (Z : XCls K C) (hx : h.get? a = some o) (hc : o.cls = .ref C) (hq : Q () ⟨h, g, d, t, os⟩) :
    wpAny M A (checkBuiltinCall "BaseException.__getattribute__" ⟨[.ref a, nv], []⟩) Q E ⟨h, g, d, t, os⟩ := by
  have k1 : builtinKind "BaseException.__getattribute__" = some .slot := by decide +kernel
  have k2 : splitId "BaseException.__getattribute__" = some ("BaseException", "__getattribute__") := by decide +kernel
  have ls : Looks M h (isSubtype (.ref C) (.type "BaseException")) true := looks_subIn X Z.be
  have k3 := F.args_bexc_ga (.ref a) nv
  simp only [checkBuiltinCall, k1, k2]
  refine wpAny_bind ?_
  unfold isInstance
  repeat (first | (with_reducible refine wpAny_loadPart_at hx ?_; rw [hc]) | with_reducible refine ls.at ?_ | wp_step)
  exact hq
theorem xcls_call {tk : Tok} {R : Result → Shared → Prop} (X : K.In h) (Z : XCls K C) (hx : h.get? a = some o) (hc : o.cls = .ref C) (hq : R (.ok (.ret (.ref C))) ⟨h, g, d, t, os⟩) :
    codeAny (model prog w) A (.call (.builtin "BaseException.__getattribute__") ⟨[.ref a, .str "__class__" tk], []⟩) R ⟨h, g, d, t, os⟩ :=
  codeAny_call_builtin (by decide +kernel) F.entry_bexc_ga (xcls_check X Z hx hc (xcls_entry X Z hx hc hq))
theorem xcls_by {tk : Tok} {Q : Value → Shared → Prop} (X : K.In h) (Z : XCls K C) (hx : h.get? a = some o) (hc : o.cls = .ref C) (hq : Q (.ref C) ⟨h, g, d, t, os⟩) :
    wpAny (model prog w) A (getAttrBy (.ref a) (.str "__class__" tk) false) Q E ⟨h, g, d, t, os⟩ := by
  have l1 := looks_findIn (M := model prog w) X Z.ga
  have l2 := looks_findIn (M := model prog w) X Z.gt
  have f3 := F.excAttr_ValueError.ga.bind (.ref a)
  have y2 : (Value.builtin "BaseException.__getattribute__" == Value.builtin "object.__getattribute__") = false := by decide +kernel
  have y1 : (onTheHeap (Value.ref C) && Value.builtin "BaseException.__getattribute__" == Value.builtin "object.__getattribute__") = false := by rw [y2]; rfl
  repeat (any_goals (first | assumption | (with_reducible refine wpAny_loadPart_at hx ?_; rw [hc]) | with_reducible refine l1.at ?_ | with_reducible refine l2.at ?_ | wp_step))
  refine xcls_call X Z hx hc ?_
  repeat (any_goals (first | assumption | wp_step))
theorem xcls_attr {Q : Option Value → Shared → Prop} (X : K.In h) (Z : XCls K C) (hx : h.get? a = some o) (hc : o.cls = .ref C) (hq : Q (some (.ref C)) ⟨h, g, d, t + 1, os⟩) : wpAny (model prog w) A (getAttr? (.ref a) "__class__") Q E ⟨h, g, d, t, os⟩ := by
  unfold getAttr? getAttrBy?
  repeat (any_goals (first | assumption | with_reducible apply xcls_by X Z hx hc | wp_step))
theorem kitx_exc (Z : XCls K C) : KitX K (.ref a) (.ref C) (ExcAt a C) where
  ty := fun M h _ p => by
    obtain ⟨o, h1, h2⟩ := p
    exact h2 ▸ (Looks.ld h1).andThen .now
  it := fun _ _ X _ => by
    have hi := Z.is
    unfold clsIn at hi
    split at hi
    · rename_i ho
      intro A' Q' E' s' k q
      unfold isType loadHead
      exact wpAny_bind (wpAny_loadPart (k _ _ (X _ _ ho)) (wpAny_pure q))
    · cases hi
  ne := fun h tp dd its n sl X htp => Bool.eq_false_iff.mpr fun q => by
    have e : C = tp := Value.ref.inj (beq_iff_eq.mp q)
    subst e
    have hi := Z.is
    unfold clsIn at hi
    split at hi
    · rename_i ho
      exact absurd ((X _ _ ho).symm.trans htp) (fun z => nomatch z)
    · cases hi
  ca := fun {_ _ _ _ _ s} X p k => by
    obtain ⟨o, h1, h2⟩ := p
    obtain ⟨hh, gg, dd, tt, oo⟩ := s
    exact xcls_attr X Z h1 h2 k
end
section
variable {X : Cx}
/-- an exception of the class C at e, its context none -/
def ExcX (e C : Addr) (h : Heap) : Prop := ∃ o vs, h.get? e = some o ∧ o.cls = .ref C ∧ o.data = .fields vs ∧ vs[2]? = some .none
abbrev ExH (H : Hp) (e C : Addr) : Prop := H e = some (.ext (ExcX e C))
theorem excX_ok {P : Program} {w : World} {H : Hp} {h : Heap} {e C : Addr} (p : ExcX e C h) : ObjOk P w H h e (.ext (ExcX e C)) := by
  obtain ⟨o, vs, q, r⟩ := p
  exact ⟨⟨o, vs, q, r⟩, ⟨o, q⟩, fun h1 h2 ⟨o', vs', q', r'⟩ k => ⟨o', vs', k _ q', r'⟩⟩
/-- isinstance(e, c), e an exception -/
def rInstX (K : PySem.W.Frag) : List V → Hp → VK → Prop := fun xs H Q => ∃ (e C : Addr) (c : V) (cv : Value) (b : Bool), xs = [.ref e, c] ∧ RelV c cv ∧ (∀ u, RelV c u → u = cv) ∧ ExH H e C ∧ XCls K C ∧ PySem.W.kitOne K (.ref C) cv = some b ∧ Q (.bl b) H
theorem call_instX : CallR X (.builtin "isinstance") (rInstX X.K) := by
  intro pins s σ H xs us Q I r h
  obtain ⟨e, C, c, cv, b, rfl, _, one, ex, Z, k, q⟩ := h
  obtain ⟨u, u2, rfl, ru, rc⟩ := vals2 r
  cases (show u = Value.ref e from ru)
  cases one u2 rc
  obtain ⟨⟨o, vs, h1, h2, _⟩, _⟩ := (show ObjOk X.prog X.w H s.heap e (.ext (ExcX e C)) from I.hok e _ ex)
  exact PySem.W.kia_one (kitx_exc Z) I.kIn ⟨o, h1, h2⟩ k (fun z => nomatch z) fun tk => ⟨.bl b, H, I.tok _, rfl, q⟩
end
end L2
set_option Elab.async false
set_option linter.all false
set_option maxRecDepth 100000
/-! an exception leaves a def; it is caught -/
namespace L2
open PySem PySem.W PySem.Spec PyProof.Rows
structure Fly2 (H : Hp) (hs : Heap) (e : Addr) (cls : Value) (T : Addr) (h : Heap) : Prop where
  air : Air e cls .none T h
  e0 : hs.get? e = none
  t0 : hs.get? T = none
  eH : H e = none
  tH : H T = none
/-- how an exception lies behind a call -/
def CX2 (P : Program) (w : World) : CXT := fun outer H s E ev s' =>
  ∃ (e T : Addr) (cls : Value) (H' : Hp), ev = .ref e ∧ s'.os = s.os ∧ AllBare s'.gens ∧ Un (frs outer) [] H H' s.heap s'.heap ∧ HOk P w H' s'.heap ∧ Fly2 H' s.heap e cls T s'.heap ∧ E cls none H'
theorem pass2 {X : Cx} : Passes (CX2 X.prog X.w) X E0 := fun _ _ _ _ _ _ _ h => by
  obtain ⟨_, _, _, _, _, _, _, _, _, _, z⟩ := h
  exact z.elim
theorem Wind.hok {P : Program} {w : World} {H : Hp} {as fr : List Addr} {h h' : Heap} (x : Wind as fr h h') (hfr : ∀ b ∈ fr, H b = none) (has : ∀ b ∈ as, H b = none) (k : HOk P w H h) : HOk P w H h' := fun a o ea =>
  (k a o ea).stay (fun b u hb q => by
    have hn : H b ≠ none := by
      rcases hb with z | z
      · rw [z, ea]; intro y; cases y
      · rw [z]; intro y; cases y
    exact x.keep b u q (fun z => hn (has b z)) fun z => hn (hfr b z)) (fun _ q => q) fun _ _ q => q
theorem un_wind {fr as : List Addr} {hs h h' : Heap} {H0 H : Hp} (u : Un fr [] H0 H hs h) (x : Wind as fr h h') (has : ∀ b ∈ as, hs.get? b = none) : Un fr [] H0 H hs h' where
  keep := fun b o q n hb hx => x.keep b o (u.keep b o q n hb hx) (fun z => by rw [has b z] at q; cases q) hb
  slot := fun b o q n hb hx => by
    obtain ⟨sl, q1⟩ := u.slot b o q n hb hx
    obtain ⟨sl', q2⟩ := x.slot b _ q1 fun z => by rw [has b z] at q; cases q
    exact ⟨sl', q2⟩
  free := u.free
  there := fun b o q hx => by
    obtain ⟨o', q1⟩ := u.there b o q hx
    obtain ⟨sl', q2⟩ := x.slot b o' q1 fun z => by rw [has b z] at q; cases q
    exact ⟨_, q2⟩
  tups := u.tups
  frzs := u.frzs
  tbls := u.tbls
section
variable {P : Program} {w : World} {K : PySem.W.Frag} {mg : Str → Option Value} {base : Heap} {N : List Str} {qual : Str} {scope : Scope} {f : Addr} {cd : Value} {A : Around} {outer : List Env} {s0 : Shared} {H0 : Hp} {E : XK}
  {pins : List (Addr × Obj)} {σ : St} {H H' : Hp} {s s' : Shared} {h' : Heap} {e T : Addr} {cls : Value}
/-- what is true behind the frame that was left -/
theorem left_cx2 (I : Inv (cxOf (CX2 P w) P w K mg base N qual scope f cd A outer s0 H0 E) pins σ H s) {as : List Addr} (L : Wind as (frs (envOfC qual scope s0.heap.objs.size f cd :: outer)) s.heap h')
    (u1 : ∀ b ∈ as, s0.heap.get? b = none) (has : ∀ b ∈ as, H b = none) (air : Air e cls .none T h') (en : s0.heap.get? e = none) (tn : s0.heap.get? T = none) (eH : H e = none) (tH : H T = none) (q : E cls none H) : CX2 P w outer H0 s0 E (.ref e) { s with heap := h' } := by
  have B : Un (frs outer) [] H0 H s0.heap s.heap := I.base
  have own : ∀ b o, s0.heap.get? b = some o → b ∉ frs outer → b ∉ frs (envOfC qual scope s0.heap.objs.size f cd :: outer) := fun b o qb hb z => by
    obtain ⟨ev, hev, hf⟩ := List.mem_filterMap.mp z
    rcases List.mem_cons.mp hev with r | r
    · subst r
      have e1 : s0.heap.objs.size = b := Option.some.inj hf
      have lt := Heap.lt_size qb
      rw [e1] at lt
      exact Nat.lt_irrefl _ lt
    · exact hb (List.mem_filterMap.mpr ⟨ev, r, hf⟩)
  have out : ∀ b o, s0.heap.get? b = some o → b ∉ as := fun b o qb z => by rw [u1 b z] at qb; cases qb
  refine ⟨e, T, cls, H, rfl, I.os, I.bare, ?_, L.hok (fun b hb => (I.frOk b hb).1) has I.hok, ⟨air, en, tn, eH, tH⟩, q⟩
  refine ⟨fun b o qb n hb hx => L.keep b o (B.keep b o qb n hb hx) (out b o qb) (own b o qb hb), fun b o qb n hb hx => ?_, B.free, fun b o qb hx => ?_, B.tups, B.frzs, B.tbls⟩
  · obtain ⟨sl, q1⟩ := B.slot b o qb n hb hx
    obtain ⟨sl', q2⟩ := L.slot b _ q1 (out b o qb)
    exact ⟨sl', q2⟩
  · obtain ⟨o', q1⟩ := B.there b o qb hx
    obtain ⟨sl', q2⟩ := L.slot b o' q1 (out b o qb)
    exact ⟨_, q2⟩
/-- an exception that was just made leaves the def -/
theorem leave_new2 (I : Inv (cxOf (CX2 P w) P w K mg base N qual scope f cd A outer s0 H0 E) pins σ H s) {vs : List Value} (hx : Heap.MadeExcOf s.heap h' e cls vs) (q : E cls none H) :
    (cxOf (CX2 P w) P w K mg base N qual scope f cd A outer s0 H0 E).xe (.ref e) { s with heap := h' } := by
  have sub : ∀ b o, s0.heap.get? b = some o → ∃ o', s.heap.get? b = some o' := fun b o z => I.base.there b o z (by simp [cxOf])
  have none0 : ∀ b, s.heap.get? b = none → s0.heap.get? b = none := fun b z => by
    cases y : s0.heap.get? b with
    | none => rfl
    | some o =>
      obtain ⟨o', y'⟩ := sub b o y
      rw [z] at y'
      cases y'
  have noneS : ∀ b, h'.get? b = none → s.heap.get? b = none := fun b z => by
    cases y : s.heap.get? b with
    | none => rfl
    | some o =>
      have y' := hx.keeps b o y
      rw [z] at y'
      cases y'
  obtain ⟨t, he, _, _⟩ := hx.there
  have w0 : Wind [] (frs (envOfC qual scope s0.heap.objs.size f cd :: outer)) s.heap h' := .of_keeps hx.keeps
  refine wpAny_bind (note_first (s := { s with heap := h' }) (env := envOfC qual scope s0.heap.objs.size f cd) (outer := outer) (L := s0.heap.objs.size) (base := base) I.ok.frames (w0.frames I.stack (fun b z => nomatch z)) rfl he rfl rfl rfl fun h1 T1 f1 a1 w1 => ?_)
  refine set_none2 (s := { s with heap := h1 }) a1 fun h2 a2 w2 => ?_
  have w01 := w0.trans (cs := [e]) w1 (by simp) (fun b o _ z => z)
  have w12 : Wind [T1] (frs (envOfC qual scope s0.heap.objs.size f cd :: outer)) h1 h2 := ⟨fun b o q n _ => w2.keep b o q n (by simp), w2.slot⟩
  have w02 := w01.trans (cs := [e, T1]) w12 (by simp) (fun b o _ z => by simp at z; simp [z])
  have eS := hx.new
  have tS := noneS T1 f1
  refine left_cx2 (s := s) (h' := h2) I w02 (fun b hb => ?_) (fun b hb => ?_) a2 (none0 e eS) (none0 T1 tS) (I.hok.none_of eS) (I.hok.none_of tS) q
  · rcases List.mem_cons.mp hb with r | r
    · rw [r]; exact none0 e eS
    · rw [List.mem_singleton.mp r]; exact none0 T1 tS
  · rcases List.mem_cons.mp hb with r | r
    · rw [r]; exact I.hok.none_of eS
    · rw [List.mem_singleton.mp r]; exact I.hok.none_of tS
theorem throws_new2 {C : Addr} : Throws (cxOf (CX2 P w) P w K mg base N qual scope f cd A outer s0 H0 E) E C := fun _ _ _ _ _ _ _ I hx q => leave_new2 I hx q
/-- an exception of a callee passes the def -/
theorem leave_on2 : Passes (CX2 P w) (cxOf (CX2 P w) P w K mg base N qual scope f cd A outer s0 H0 E) E := by
  intro pins σ H s ev s' I hc
  obtain ⟨e, T, cls, H', rfl, os, bare, un, hok, fl, q⟩ := hc
  obtain ⟨hh, g, d, t, os'⟩ := s'
  obtain rfl : os' = s.os := os
  have I1 : Inv (cxOf (CX2 P w) P w K mg base N qual scope f cd A outer s0 H0 E) pins σ H' { s with heap := hh, gens := g, drawn := d, toks := t } := I.call (h' := hh) (g' := g) (d' := d) (t' := t) (ch := []) un hok bare (fun b z => nomatch z)
  have sub : ∀ b o, s0.heap.get? b = some o → ∃ o', s.heap.get? b = some o' := fun b o z => I.base.there b o z (by simp [cxOf])
  have none0 : ∀ b, s.heap.get? b = none → s0.heap.get? b = none := fun b z => by
    cases y : s0.heap.get? b with
    | none => rfl
    | some o =>
      obtain ⟨o', y'⟩ := sub b o y
      rw [z] at y'
      cases y'
  refine wpAny_bind (note_next (s := { s with heap := hh, gens := g, drawn := d, toks := t }) (L := s0.heap.objs.size) (base := base) I.ok.frames I1.stack rfl fl.air fun h1 T1 f1 a1 w1 => ?_)
  refine set_none2 (s := { s with heap := h1, gens := g, drawn := d, toks := t }) a1 fun h2 a2 w2 => ?_
  have w12 : Wind [T1] (frs (envOfC qual scope s0.heap.objs.size f cd :: outer)) h1 h2 := ⟨fun b o q n _ => w2.keep b o q n (by simp), w2.slot⟩
  have w02 := w1.trans (cs := [e, T]) w12 (by simp) (fun b o y z => by
    obtain rfl := List.mem_singleton.mp z
    rw [f1] at y
    cases y)
  have t1n : s0.heap.get? T1 = none := by
    cases y : s0.heap.get? T1 with
    | none => rfl
    | some o =>
      obtain ⟨o', y'⟩ := I1.base.there T1 o y (by simp [cxOf])
      rw [f1] at y'
      cases y'
  refine left_cx2 (s := { s with heap := hh, gens := g, drawn := d, toks := t }) (h' := h2) I1 w02 (fun b hb => ?_) (fun b hb => ?_) a2 (none0 e fl.e0) t1n fl.eH (I1.hok.none_of f1) q
  · rcases List.mem_cons.mp hb with r | r
    · rw [r]; exact none0 e fl.e0
    · rw [List.mem_singleton.mp r]; exact none0 T fl.t0
  · rcases List.mem_cons.mp hb with r | r
    · rw [r]; exact fl.eH
    · rw [List.mem_singleton.mp r]; exact fl.tH
end
section
variable {P : Program} {w : World} {K : PySem.W.Frag} {mg : Str → Option Value} {base : Heap} {x qual : Str} {st : Stmt} {f : Addr} {fd : FuncData} {N ps : List Str} {k : Nat} {sp : Sp}
/-- a def that may raise -/
theorem FunD.ok2 (F : FunD K x qual st f fd) (S : FnScope N ps (defScope st)) (len : ∀ vs H Q E, sp vs H Q E → vs.length = ps.length)
    (hbody : ∀ (cdv : Value) (A : Around) (outer : List Env) (s : Shared) (H : Hp) (vs : List V) (Q : VK) (E : XK), Room k (A.deeper (envOfC qual (defScope st) s.heap.objs.size f cdv)) → sp vs H Q E →
      ∃ t, QSs (cxOf (CX2 P w) P w K mg base N qual (defScope st) f cdv A outer s H E) (defBody st) t ∧ t { nx := fun _ H' => Q .non H', rt := Q } (start N vs) H) : FnOk P w K mg base (CX2 P w) (k + 1) f fd ps sp := by
  obtain ⟨oc, od, dV, kV, doc, pm, an, cdv, ct, osl, rfl, lk, hcd⟩ := F.ex
  refine fn_of lk hcd S len fun A outer s H vs Q E hr hsp => ?_
  obtain ⟨t, h, q⟩ := hbody cdv A outer s H vs Q E hr hsp
  exact ⟨t, h.ok, q⟩
end
end L2
set_option Elab.async false
set_option linter.all false
set_option maxRecDepth 100000
/-! the suite behind `except C as e`: the exception is handled while it runs -/
namespace L2
open PySem PySem.W PySem.Spec PyProof.Rows
/-! ### a walk over a list ends while an exception is handled -/
section
variable {prog : Program} {w : World} {A : Around} {E : Value → Shared → Prop} {s : Shared}
end
section
variable {X : Cx}
end
end L2
set_option Elab.async false
set_option linter.all false
set_option maxRecDepth 100000
/-! a def that is called while an exception is handled; try .. except C as e -/
namespace L2
open PySem PySem.W PySem.Spec PyProof.Rows
section
variable {X : Cx} {pins : List (Addr × Obj)} {σ : St} {H : Hp} {s : Shared}
end
section
variable {P : Program} {w : World} {K : PySem.W.Frag} {mg : Str → Option Value} {base : Heap}
end
section
variable {X : Cx} {k : Nat} {f : Addr} {fd : FuncData} {ps : List Str} {sp : Addr → Sp} {ds : List Value} {dvs : List V} {x : Str} {p pos : Pos} {e : Expr} {es : List Expr} {t : TA} {ea : Addr}
end
/-! ### caught by a class above its own -/
theorem exc_matches2 {M : Model} {A : Around} {E : Value → Shared → Prop} {K : PySem.W.Frag} {nm q : Str} {C D N : Addr} {bs bm : List Value} {hdct : Bool} {sn : List Str} {sub : List Value} {ab : Bool} {col : Option Bool} {dd : Option Addr} {k0 k1 k2 k3 k5 : Option Value} {newId : String}
    {h : Heap} {g : Array GenState} {d : Drawn} {t : Nat} {os : OsState} {e : Addr} {oe : Obj} {Q : Bool → Shared → Prop} (X : K.In h) (hD : h.get? D = some (excClassObj nm q D N bs bm hdct sn sub ab col dd k0 k1 k2 k3 k5 newId)) (hbase : bm.contains (.type "BaseException") = true)
    (he : h.get? e = some oe) (hcls : oe.cls = .ref C) (hs : PySem.W.subIn K (.ref C) (.ref D) = some true) (hq : Q true ⟨h, g, d, t, os⟩) : wpAny M A (excMatches (.ref e) (.ref D)) Q E ⟨h, g, d, t, os⟩ := by
  have b1 : (Value.ref D :: bm).contains (.type "BaseException") = true := by rw [List.contains_cons, hbase, Bool.or_true]
  have ls : Looks M h (isSubtype (.ref C) (.ref D)) true := looks_subIn X hs
  have f := tc_notTuple
  unfold excMatches
  repeat (first | (with_reducible refine wpAny_loadPart_at he ?_; rw [hcls]) | with_reducible refine wpAny_loadPart_at hD ?_ | with_reducible refine ls.at ?_ | (with_reducible refine wpAny_isSubtype_exc hD ?_; rw [b1]) | wp_step)
  exact hq
section
variable {X : Cx} {pins : List (Addr × Obj)} {σ : St} {H : Hp} {s : Shared}
/-- an object that no one had told of is told of -/
theorem Inv.track {a : Addr} {o : HO} (I : Inv X pins σ H s) (hH : H a = none) (h0 : X.s₀.heap.get? a = none) (hL : a ≠ X.env.locals) (hc : ∀ x c, X.env.cells.lookup x = some c → c ≠ a) (hp : ∀ p ∈ X.pn ++ pins, p.1 ≠ a) (new : ObjOk X.prog X.w (upd H a o) s.heap a o) : Inv X pins σ (upd H a o) s := by
  have at_ : ∀ b u, H b = some u → upd H a o b = some u := fun b u q => by rw [upd_ne (ne_of_none q hH)]; exact q
  refine ⟨I.ok, I.os, I.bare, ⟨I.base.keep, I.base.slot, fun b ob q n hx => ?_, I.base.there, fun b xs q => at_ b _ (I.base.tups b xs q), fun b ob u q => at_ b _ (I.base.frzs b ob u q), fun b ps q => ?_⟩, I.loc, I.cell, ?_, fun x c q => ?_, fun p q => ?_, fun b u q => ?_, I.len⟩
  · have nb : b ≠ a := fun z => by rw [z, h0] at q; cases q
    rw [upd_ne nb]
    exact I.base.free b ob q n hx
  · obtain ⟨more, q2⟩ := I.base.tbls b ps q
    exact ⟨more, at_ b _ q2⟩
  · rw [upd_ne (Ne.symm hL)]
    exact I.free
  · rw [upd_ne (hc x c q)]
    exact I.freeC x c q
  · obtain ⟨q1, q2, q3⟩ := I.pin p q
    exact ⟨q1, by rw [upd_ne (hp p q)]; exact q2, q3⟩
  · by_cases nb : b = a
    · subst nb
      rw [upd_same] at q
      cases q
      exact new
    · rw [upd_ne nb] at q
      exact (I.hok b u q).stay (fun _ _ _ z => z) (fun c z => at_ c _ z) fun c xs z => at_ c _ z
/-- the name goes behind the suite -/
theorem goes_ok {M : Model} {A : Around} {E : Value → Shared → Prop} {i : Nat} {x : Str} {pos : Pos} {Q : Unit → Shared → Prop} (I : Inv X pins σ H s) (hN : X.N.Nodup) (hi : X.N[i]? = some x) (hk : X.env.kindOf x = some .local)
    (h : ∀ s', Inv X pins (σ.set i none) H s' → Q () s') : wpAny M A (do bindName X.env x .none; unbindBehindTheSuite X.env x pos) Q E s := by
  obtain ⟨m, hn, hl⟩ := id I.loc
  have hcls : (X.env.scope.kind == .class || (X.env.scope.kind == .module && X.env.locals != X.env.globals)) = false := by rw [I.ok.kind]; rfl
  refine wpAny_nameGoes_keeps hk hn hcls fun h' v hn' hs => ?_
  obtain ⟨oL, _, _, hoL, _⟩ := id hn
  have away : ∀ b o, X.s₀.heap.get? b = some o → b ≠ X.env.locals := fun b o q => Nat.ne_of_lt (Nat.lt_of_lt_of_le (Heap.lt_size q) I.ok.above)
  refine h _ ⟨I.ok, I.os, I.bare, ⟨fun b o q n hb hx => (hs.2 b (away b o q)).trans (I.base.keep b o q n hb hx), fun b o q n hb hx => ?_, I.base.free, fun b o q hx => ?_, I.base.tups, I.base.frzs, I.base.tbls⟩, ⟨_, hn', fun j y v' e1 e2 e3 => ?_⟩, fun y c q => ?_, I.free, I.freeC, fun p hp => ?_, fun b ob q => ?_, by simpa using I.len⟩
  · obtain ⟨sl, q1⟩ := I.base.slot b o q n hb hx
    exact ⟨sl, (hs.2 b (away b o q)).trans q1⟩
  · obtain ⟨o', q1⟩ := I.base.there b o q hx
    exact ⟨o', (hs.2 b (away b o q)).trans q1⟩
  · by_cases hj : j = i
    · subst hj
      have : j < σ.length := by rw [I.len]; exact (List.getElem?_eq_some_iff.mp hi).1
      rw [List.getElem?_set_self this] at e2
      cases e2
    · rw [List.getElem?_set_ne (Ne.symm hj)] at e2
      obtain ⟨u', r', q⟩ := hl j y v' e1 e2 e3
      refine ⟨u', r', ?_⟩
      rcases q with ⟨k, e⟩ | ⟨k, c, e, z⟩
      · refine .inl ⟨k, ?_⟩
        have : y ≠ x := fun e => hj (nodup_ix hN e1 (e ▸ hi))
        simp [this, e]
      · exact .inr ⟨k, c, e, z.sameBut hs (I.cne y c e)⟩
  · obtain ⟨w', z⟩ := I.cell y c q
    exact ⟨w', z.sameBut hs (I.cne y c q)⟩
  · obtain ⟨e, n, ne, nf, d⟩ := I.pin p hp
    exact ⟨(hs.2 p.1 ne).trans e, n, ne, nf, d⟩
  · refine (I.hok b ob q).stay (fun c w' hc z => (hs.2 c ?_).trans z) (fun _ z => z) fun _ _ z => z
    rintro rfl
    rcases hc with z | z
    · rw [← z, I.free] at q; cases q
    · rw [I.free] at z; cases z
end
/-- the ends of a suite whose name goes -/
def unb (i : Nat) (D : Ends) : Ends := { nx := fun σ H => D.nx (σ.set i none) H, rt := D.rt, bk := fun σ H => D.bk (σ.set i none) H, ct := fun σ H => D.ct (σ.set i none) H }
section
variable {X : Cx} {k i : Nat} {f C Dc : Addr} {fd : FuncData} {ps : List Str} {sp : Sp} {dvs : List V} {ds : List Value} {x y n : Str} {p pos cpos epos hpos np : Pos} {e : Expr} {es : List Expr} {t : TA} {b0 : Stmt} {suite : List Stmt} {ts : Addr → TS}
end
end L2
set_option Elab.async false
set_option linter.all false
set_option maxRecDepth 100000
namespace L2
open PySem PySem.W PySem.Spec PyProof.Rows
theorem bt_ValueError : bootBuiltins "ValueError" = some (.type "ValueError") := by decide +kernel
/-! ### tuples of whole numbers, held against one another -/
theorem ints_same (ns ms : List Int) : ((List.range (min ns.length ms.length)).all (fun j => ns.getD j 0 == ms.getD j 0) && ns.length == ms.length) = decide (ns = ms) := by
  rw [Bool.eq_iff_iff, Bool.and_eq_true, List.all_eq_true, beq_iff_eq, decide_eq_true_iff]
  constructor
  · rintro ⟨h1, h2⟩
    refine List.ext_getElem h2 fun i a b => ?_
    have q := beq_iff_eq.mp (h1 i (List.mem_range.mpr (by omega)))
    rw [List.getD_eq_getElem?_getD, List.getD_eq_getElem?_getD, List.getElem?_eq_getElem a, List.getElem?_eq_getElem b] at q
    exact q
  · rintro rfl
    exact ⟨fun j _ => beq_self_eq_true _, rfl⟩
section
variable {X : Cx}
end
/-! ### what is a fraction -/
theorem iteP {a b : Int} {A B : Prop} (h1 : b < a → A) (h2 : ¬ b < a → B) : if decide (b < a) = true then A else B :=
  ite2 (fun h => h1 (of_decide_eq_true h)) fun h => h2 fun z => h (decide_eq_true z)
end L2
set_option Elab.async false
set_option linter.all false
set_option maxRecDepth 100000
/-! LIST COMPREHENSIONS over the layer: [elt for x in iter], [elt for x in iter if c]. -/
namespace L2
open PySem PySem.W PySem.Spec PyProof.Rows
/-- the slots that the comprehension sees -/
def pick (idx : List Nat) (σ : St) : St := idx.map fun k => (σ[k]?).getD none
def AllCap (X : Cx) (cl : List (Str × Addr)) : List Str → Prop
  | [] => True
  | n :: r => (cl.lookup n = X.env.cells.lookup n ∧ X.env.kindOf n = some .cell) ∧ AllCap X cl r
theorem AllCap.mem {X : Cx} {cl : List (Str × Addr)} : ∀ {caps : List Str}, AllCap X cl caps → ∀ n ∈ caps, cl.lookup n = X.env.cells.lookup n ∧ X.env.kindOf n = some .cell
  | _ :: _, h, n, hn => by
    rcases List.mem_cons.mp hn with e | e
    · subst e; exact h.1
    · exact AllCap.mem h.2 n e
/-- the block of a comprehension -/
abbrev Cx.comp (X : Cx) (sc : Scope) (cl : List (Str × Addr)) (x : Str) (caps : List Str) (s0 : Shared) (H0 : Hp) (C : Addr) (fp : List Addr) : Cx :=
  { prog := X.prog, w := X.w, K := X.K, mg := X.mg, base := X.base, A := X.A, N := x :: caps, s₀ := s0, H₀ := H0, env := compEnvC sc cl C X.env, outer := X.stack, stack := X.stack, ex := fp, fn := fun _ => false, calm := X.calm, pn := [], xe := fun _ _ => False }
/-- what is to be known of the scopes -/
structure CompOk (X : Cx) (sc : Scope) (cl : List (Str × Addr)) (x : Str) (caps : List Str) (idx : List Nat) : Prop where
  clos : closureFor sc X.env = pure cl
  nocell : ∀ y ∈ sc.names, y.2 ≠ .cell
  kind : sc.kind = .function
  names : ∀ y ∈ sc.names, y.2 = .local → sc.names.lookup y.1 = some .local
  xl : sc.names.lookup x = some .local
  free : ∀ y ∈ sc.names, y.2 = .free → y.1 ∈ caps
  cln : cl.map Prod.fst = caps
  cap : AllCap X cl caps
  nd : (x :: caps).Nodup
  ix : idx.map (fun k => X.N[k]?) = caps.map some
  notloc : ∀ y ∈ caps, sc.names.lookup y ≠ some .local
theorem mem_fst_of_lookup {cl : List (Str × Addr)} {y : Str} {c : Addr} (h : cl.lookup y = some c) : y ∈ cl.map Prod.fst := List.mem_map.mpr ⟨(y, c), PySem.mem_of_lookup h, rfl⟩
section
variable {X : Cx} {sc : Scope} {cl : List (Str × Addr)} {x : Str} {caps : List Str} {idx : List Nat} {pins : List (Addr × Obj)} {σ : St} {H : Hp} {s : Shared} {C : Addr} {fp : List Addr}
theorem CompOk.cell (Z : CompOk X sc cl x caps idx) {y : Str} {c : Addr} (h : cl.lookup y = some c) : X.env.cells.lookup y = some c := by
  have hm : y ∈ caps := by rw [← Z.cln]; exact mem_fst_of_lookup h
  rw [← (Z.cap.mem y hm).1]
  exact h
theorem relabel_mem {env : Env} {y : Str} {k : NameKind} (h : (relabel sc env).names.lookup y = some k) (hk : k = .cell ∨ k = .free) : ∃ k0, (y, k0) ∈ sc.names ∧ (k0 = .cell ∨ k0 = .free) := by
  have hm := PySem.mem_of_lookup h
  obtain ⟨⟨n, k0⟩, h1, h2⟩ := List.mem_map.mp hm
  dsimp only at h2
  by_cases hc : (k0 == NameKind.free && env.scope.kind == .function && env.kindOf n == some .cell) = true
  · rw [if_pos hc] at h2
    cases h2
    simp only [Bool.and_eq_true, beq_iff_eq] at hc
    exact ⟨k0, h1, .inr hc.1.1⟩
  · rw [if_neg hc] at h2
    cases h2
    exact ⟨k, h1, hk⟩
/-- the block begins -/
theorem Inv.comp (I : Inv X pins σ H s) (Z : CompOk X sc cl x caps idx) (hC : s.heap.objs.size ≤ C) {h' : Heap} {t' : Nat} (k : ∀ b o, s.heap.get? b = some o → h'.get? b = some o) {m : Str → Option Value} (hn : h'.Ns C m) (hf : ∀ b ∈ fp, FpOk X pins H b) (hfp : ∀ b ∈ fp, b < s.heap.objs.size) :
    Inv (X.comp sc cl x caps s H C fp) [] (none :: pick idx σ) H { s with heap := h', toks := t' } := by
  have nC : ∀ b o, s.heap.get? b = some o → b ≠ C := fun b o q => Nat.ne_of_lt (Nat.lt_of_lt_of_le (Heap.lt_size q) hC)
  have hHC : H C = none := I.hok.fresh hC
  refine ⟨⟨I.ok.mod, Z.kind, I.ok.glob, I.ok.blt, hC, fun y z c h1 h2 => I.ok.inj y z c (Z.cell h1) (Z.cell h2), fun y hy => ?_, fun y c z => (nomatch z), I.ok.hd, I.ok.frames, .inl rfl, fun b hb => ⟨Nat.ne_of_lt (Nat.lt_of_lt_of_le (hfp b hb) hC), fun y c q => (hf b hb).2.2.2.2.1 y c (Z.cell q)⟩, fun b o q => ?_, ?_, fun b o q z => ?_, fun b hb z => ?_, I.stack, fun b hb => I.stkFree b hb⟩,
    rfl, I.bare, Un.kept k, ⟨m, hn, fun i y v e1 e2 e3 => ?_⟩, fun y c q => ?_, hHC, fun y c q => I.freeC y c (Z.cell q), fun p hp => (nomatch hp), I.hok.kept k, ?_⟩
  · obtain ⟨k0, h1, h2⟩ := hy.elim (fun z => relabel_mem (sc := sc) (env := X.env) z (.inl rfl)) (fun z => relabel_mem (sc := sc) (env := X.env) z (.inr rfl))
    have hm : y ∈ caps := Z.free (y, k0) h1 (h2.resolve_left (Z.nocell (y, k0) h1))
    obtain ⟨q1, q2⟩ := Z.cap.mem y hm
    obtain ⟨c, q3⟩ := I.ok.has y (.inl q2)
    exact ⟨c, q1.trans q3⟩
  · exact ⟨I.bk b o q, I.base.free b o (I.ok.bs b o q).1 (I.ok.bs b o q).2 (I.ok.noex b o q)⟩
  · exact Nat.le_trans I.ok.bsz I.sz
  · obtain ⟨_, _, _, h1, _⟩ := hf b z
    rcases h1 with h1 | h1
    · exact I.ok.noex b o q h1
    · exact absurd (Nat.lt_of_lt_of_le (Heap.lt_size q) (Nat.le_trans I.ok.bsz h1)) (Nat.lt_irrefl _)
  · obtain ⟨_, h1, h2, _⟩ := hf b hb
    rcases List.mem_cons.mp (I.stkSub b z) with e | e
    · exact h1 e
    · exact h2 e
  · cases i with
    | zero => cases e2
    | succ j =>
      have e1 : caps[j]? = some y := e1
      have e2 : (pick idx σ)[j]? = some (some v) := e2
      have hix := congrArg (fun l => l[j]?) Z.ix
      simp only [List.getElem?_map, e1, Option.map_some] at hix
      unfold pick at e2
      rw [List.getElem?_map] at e2
      cases hk : idx[j]? with
      | none => rw [hk] at e2; cases e2
      | some kk =>
        rw [hk] at e2 hix
        simp only [Option.map_some, Option.some.injEq] at e2 hix
        have e4 : σ[kk]? = some (some v) := by
          cases hs : σ[kk]? with
          | none => rw [hs] at e2; cases e2
          | some o => rw [hs] at e2; exact congrArg some e2
        have hm : y ∈ caps := List.mem_of_getElem? e1
        obtain ⟨q1, q2⟩ := Z.cap.mem y hm
        obtain ⟨mX, _, hl⟩ := I.loc
        obtain ⟨u, r, lk⟩ := hl kk y v hix e4 (.inr (.inl q2))
        refine ⟨u, r, ?_⟩
        rcases lk with ⟨z, _⟩ | ⟨_, c, q3, q4⟩
        · rw [q2] at z; cases z
        · have vis : (compEnvC sc cl C X.env).kindOf y = some .cell ∨ (compEnvC sc cl C X.env).kindOf y = some .free := by
            rcases e3 with z | z | z
            · exfalso
              have hm2 := PySem.mem_of_lookup z
              obtain ⟨⟨n0, k0⟩, h1, h2⟩ := List.mem_map.mp hm2
              dsimp only at h2
              by_cases hc : (k0 == NameKind.free && X.env.scope.kind == .function && X.env.kindOf n0 == some .cell) = true
              · rw [if_pos hc] at h2; cases h2
              · rw [if_neg hc] at h2
                cases h2
                exact Z.notloc y hm (Z.names _ h1 rfl)
            · exact .inl z
            · exact .inr z
          exact .inr ⟨vis, c, q1.trans q3, q4.keeps k⟩
  · obtain ⟨v, q1⟩ := I.cell y c (Z.cell q)
    exact ⟨v, q1.keeps k⟩
  · show (none :: pick idx σ).length = (x :: caps).length
    have := congrArg List.length Z.ix
    simp only [List.length_map] at this
    simp [pick, this]
/-- behind the block -/
theorem Inv.uncomp {pins' : List (Addr × Obj)} {σ' : St} {H' : Hp} {s' : Shared} (I : Inv X pins σ H s) (J : Inv (X.comp sc cl x caps s H C fp) pins' σ' H' s') (hf : ∀ b ∈ fp, FpOk X pins H b) : Inv X pins σ H' s' :=
  I.call' J.os J.base J.hok J.bare fun b hb => ⟨(hf b hb).2.2.2.1, (hf b hb).2.1, (hf b hb).2.2.2.2.1, (hf b hb).2.2.2.2.2⟩
end
section
variable {prog : Program} {w : World} {A : Around} {R : Result → Shared → Prop} {s : Shared}
/-- the loop of a comprehension -/
theorem comp_loop {elt target iter : Expr} {ifs : List Expr} {scope : Scope} {pos : Pos} {it acc : Value} {env : Env} (I : Nat → Shared → Prop)
    (turn : ∀ n s, I n s → wpAny (model prog w) A (pyNext it) (fun r s1 => match r with
      | none => R (.ok .next) s1
      | some v => wpAny (model prog w) A (letOwnedTupleGo target it v) (fun _ s1' => wpAny (model prog w) A (assign target env v) (fun _ s2 =>
          wpAny (model prog w) A (forIn ifs true fun c r => if r = true then do let ok ← isTrue c env (eval c env); pure (ForInStep.yield ok) else pure (ForInStep.yield r)) (fun ok s3 =>
            if ok = true then wpAny (model prog w) A (eval elt env) (fun x s4 =>
              wpAny (model prog w) A (call (.builtin "list.append") [acc, x]) (fun _ s5 => ∃ m, m < n ∧ I m s5) (fun _ _ => False) s4) (fun _ _ => False) s3
            else ∃ m, m < n ∧ I m s3) (fun _ _ => False) s2) (fun _ _ => False) s1') (fun _ _ => False) s1) (fun _ _ => False) s)
    (n : Nat) (h : I n s) : codeAny (model prog w) A (.compLoop (.ListComp elt [⟨target, iter, ifs, 0⟩] scope pos) 0 it acc env) R s := by
  refine codeAny_loop rfl I (fun n s hI => ?_) n h
  show wpAny _ A ((compTurn (.ListComp elt [⟨target, iter, ifs, 0⟩] scope pos) 0 it acc env).onRaise (fun x => do noteFrame x env; theTreesLotGoes x)) _ _ s
  refine wpAny_noted ?_
  rw [compTurn_list]
  refine wpAny_bind (wpAny_standAt (wpAny_bind (wpAny_mono (turn n s hI) (fun r s1 h1 => ?_) fun _ _ z => z.elim)))
  cases r with
  | none => exact wpAny_pure h1
  | some v =>
    refine wpAny_bind (wpAny_mono h1 (fun _ s1' h1' => wpAny_bind (wpAny_mono h1' (fun _ s2 h2 => wpAny_bind (wpAny_mono h2 (fun ok s3 h3 => ?_) fun _ _ z => z.elim)) fun _ _ z => z.elim)) fun _ _ z => z.elim)
    cases ok with
    | false => exact wpAny_pure ⟨rfl, h3⟩
    | true =>
      exact wpAny_bind (wpAny_bind (wpAny_mono h3 (fun x s4 h4 => wpAny_bind (wpAny_mono h4 (fun _ s5 h5 => wpAny_pure (wpAny_pure ⟨rfl, h5⟩)) fun _ _ z => z.elim)) fun _ _ z => z.elim))
end
/-- the tests of a comprehension -/
structure QIf (X : Cx) (ifs : List Expr) (t : TT) : Prop where
  ok : ∀ (pins : List (Addr × Obj)) (s : Shared) (σ : St) (H : Hp) (Q : Bool → Hp → Prop), Inv X pins σ H s → t σ H Q →
    wpAny (model X.prog X.w) X.A (forIn ifs true fun c r => if r = true then do let ok ← isTrue c X.env (eval c X.env); pure (ForInStep.yield ok) else pure (ForInStep.yield r)) (TP X pins σ Q) X.xe s
def tAlways : TT := fun _ H Q => Q true H
theorem qif_none {X : Cx} : QIf X [] tAlways := ⟨fun _ _ _ H _ I h => by
  rw [List.forIn_nil]
  exact wpAny_pure ⟨H, I, h⟩⟩
/-- the list that comes, turn by turn: the turn, a measure, the list so far -/
def CompW (J : It) (D : Addr) (p : St) (tt : TT) (te : TE) (Q : V → Hp → Prop) (H1 : Hp) : Prop := ∃ W : Nat → Nat → List V → Hp → Prop, (∃ m, W 0 m [] (upd H1 D (.lst []))) ∧ ∀ i m ys H, W i m ys H →
  H D = some (.lst ys) ∧ ((J.stop i H ∧ Q (.ref D) H) ∨ (J.go i H ∧ ∀ x H', J.yld i H x H' → tt (some x :: p) H' fun c H2 =>
    if c = true then te (some x :: p) H2 fun v H3 => H3 D = some (.lst ys) ∧ ys.length < sizeLine ∧ ∃ m', m' < m ∧ W (i + 1) m' (ys ++ [v]) (upd H3 D (.lst (ys ++ [v]))) else ∃ m', m' < m ∧ W (i + 1) m' ys H2))
def tCompL (wi : TI) (idx : List Nat) (tt : TT) (te : TE) (Q : V → Hp → Prop) : St → Hp → Prop := fun σ H => wi σ H fun J H1 => ∀ D, H1 D = none → CompW J D (pick idx σ) tt te Q H1
def tComp (wi : TI) (idx : List Nat) (tt : TT) (te : TE) : TE := fun σ H Q => tCompL wi idx tt te Q σ H
section
variable {X : Cx} {sc : Scope} {cl : List (Str × Addr)} {x : Str} {caps : List Str} {idx : List Nat} {wi : TI} {tt : TT} {te : TE} {elt iter : Expr} {ifs : List Expr} {pos px : Pos}
/-- the block, ahead of the letting go of its names -/
theorem comp_run {use : Option (Value → Sem Unit)} {Q : V → Hp → Prop} {Q' : Value → Shared → Prop} (hc : X.calm = true) (Z : CompOk X sc cl x caps idx) (hi : QI X (.Name x px) iter wi)
    (ht : ∀ s0 H0 C fp, QIf (X.comp sc cl x caps s0 H0 C fp) ifs tt) (he : ∀ s0 H0 C fp, QE (X.comp sc cl x caps s0 H0 C fp) elt te) (hs : ∀ z, foldedSetIterable iter X.env z = pure z)
    {pins : List (Addr × Obj)} {s : Shared} {σ : St} {H : Hp} (I : Inv X pins σ H s) (h : tCompL wi idx tt te Q σ H)
    (fin : ∀ (D C : Addr) (H' : Hp) (s' : Shared) (m : Str → Option Value), Inv X pins σ H' s' → s'.heap.Ns C m → (∀ h2 : Heap, ∀ t2 σ2 s2, Inv X pins σ2 H' s2 → (∀ b o, b ≠ C → s2.heap.get? b = some o → h2.get? b = some o) → Inv X pins σ2 H' { s2 with heap := h2, toks := t2 }) → C ≠ X.env.locals → (∀ y c, X.env.cells.lookup y = some c → c ≠ C) → Q (.ref D) H' → compPost (model X.prog X.w) X.A X.xe use Q' (.ref D) C (.ok .next) s') :
    wpAny (model X.prog X.w) X.A (comprehension (.ListComp elt [⟨.Name x px, iter, ifs, 0⟩] sc pos) sc X.env (firstIterPos [⟨.Name x px, iter, ifs, 0⟩] pos) (newList []) false (eval iter X.env) use) Q' X.xe s := by
  refine wpAny_comprehension_free rfl hs Z.clos Z.kind Z.names (thn (hi.ok pins s σ H _ I h) fun v s1 h1 => thn h1 fun itv s2 h2 => ?_)
  obtain ⟨it, fp, tn, J, H2, e, I2, T, st2, f2, qD⟩ := h2
  subst e
  refine wpAny_newObj_type (wpAny_newFunctionEnv (fun y hy => Z.nocell y hy) (by intro y hy; simp at hy) (fun h4 ns4 sb4 => ?_) Z.kind)
  dsimp only at ns4 sb4 ⊢
  have fD := I2.hok.fresh (Nat.le_refl s2.heap.objs.size)
  obtain ⟨W, ⟨m0, w0⟩, turn⟩ := qD s2.heap.objs.size fD
  have hlt : ∀ b ∈ fp, b < s2.heap.objs.size := fun b hb => by
    obtain ⟨o, q, _⟩ := T.obj 0 s2.heap st2 b hb
    exact Heap.lt_size q
  have I3 : Inv X pins σ (upd H2 s2.heap.objs.size (.lst [])) { s2 with heap := s2.heap.push { cls := .type "list", dict := none, data := .seq ([] : List Value).toArray }, toks := s2.toks } :=
    I2.laid (a := s2.heap.objs.size) (o := .lst []) (t' := s2.toks) (fun _ _ q => Heap.get?_push_of_some _ q) (Nat.le_refl _) ⟨Nat.zero_le _, [], 0, .nil, Heap.get?_push_size _ rfl⟩
  generalize hs3 : ({ s2 with heap := s2.heap.push { cls := .type "list", dict := none, data := .seq ([] : List Value).toArray }, toks := s2.toks } : Shared) = s3 at I3
  have e3 : s2.heap.push { cls := .type "list", dict := none, data := .seq ([] : List Value).toArray } = s3.heap := by rw [← hs3]
  rw [e3] at ns4 sb4
  have sz3 : s3.heap.objs.size = s2.heap.objs.size + 1 := by rw [← e3, Heap.size_push]
  have k34 : ∀ b o, s3.heap.get? b = some o → h4.get? b = some o := fun b o q => sb4.extBut b o (Nat.ne_of_lt (Heap.lt_size q)) (Heap.get?_push_of_some _ q)
  have f3 : ∀ b ∈ fp, FpOk X pins (upd H2 s2.heap.objs.size (.lst [])) b := fun b hb => ⟨by rw [upd_ne (Nat.ne_of_lt (hlt b hb))]; exact (f2 b hb).1, (f2 b hb).2⟩
  have J4 := I3.comp (t' := s2.toks + ([] : List (Str × Value)).length) Z (C := s3.heap.objs.size) (Nat.le_refl _) k34 ns4 f3 (fun b hb => by rw [sz3]; exact Nat.lt_succ_of_lt (hlt b hb))
  have tn4 : tn 0 h4 := T.keep 0 s2.heap h4 st2 fun b hb o q => k34 b o (by rw [← e3]; exact Heap.get?_push_of_some _ q)
  generalize hC : s3.heap.objs.size = C at *
  generalize hD : s2.heap.objs.size = D at *
  have hCL : C ≠ X.env.locals := by rw [← hC]; exact Nat.ne_of_gt I3.lt
  have hCc : ∀ y c, X.env.cells.lookup y = some c → c ≠ C := fun y c q => by
    obtain ⟨v, o, ho, _⟩ := I3.cell y c q
    rw [← hC]
    exact Nat.ne_of_lt (Heap.lt_size ho)
  have stat : ∀ {H' : Hp}, (∀ b ∈ fp, H' b = none) → ∀ b ∈ fp, FpOk (X.comp sc cl x caps s3 (upd H2 D (.lst [])) C fp) [] H' b := fun hn b hb =>
    ⟨hn b hb, by show b ≠ C; rw [sz3]; exact Nat.ne_of_lt (Nat.lt_succ_of_lt (hlt b hb)), fun z => by
      rcases List.mem_cons.mp (I3.stkSub b z) with q | q
      · exact (f2 b hb).2.1 q
      · exact (f2 b hb).2.2.1 q, .inl hb, fun y c q => (f2 b hb).2.2.2.2.1 y c (Z.cell q), fun p z => nomatch z⟩
  have loop : ∀ s5 : Shared, s5 = { s3 with heap := h4, toks := s2.toks + ([] : List (Str × Value)).length } →
      codeAny (model X.prog X.w) X.A (.compLoop (.ListComp elt [⟨.Name x px, iter, ifs, 0⟩] sc pos) 0 (.ref it) (.ref D) (compEnvC sc cl C X.env)) (compPost (model X.prog X.w) X.A X.xe use Q' (.ref D) C) s5 := by
    rintro s5 rfl
    refine comp_loop (fun n s' => ∃ i ys H', Inv (X.comp sc cl x caps s3 (upd H2 D (.lst [])) C fp) [] (none :: pick idx σ) H' s' ∧ tn i s'.heap ∧ (∀ b ∈ fp, H' b = none) ∧ W i n ys H') ?_ m0 ⟨0, [], _, J4, tn4, fun b hb => (f3 b hb).1, w0⟩
    rintro n s5 ⟨i, ys, H5, J5, st5, fr5, w5⟩
    obtain ⟨hD5, t5⟩ := turn i n ys H5 w5
    rcases t5 with ⟨stop, q5⟩ | ⟨go, step⟩
    · refine thn (T.done (X.comp sc cl x caps s3 (upd H2 D (.lst [])) C fp) rfl rfl rfl hc i [] s5 _ H5 _ J5 (stat fr5) st5 stop) fun r s6 ⟨hr, J6⟩ => ?_
      subst hr
      obtain ⟨m6, ns6, _⟩ := J6.loc
      have I6 := I3.uncomp J6 f3
      refine fin D C H5 s6 m6 I6 ns6 (fun h2 t2 σ2 s7 I7 k7 => ?_) hCL hCc q5
      refine I7.turned (it := C) k7 J6.free hCL (.inr ?_) hCc (fun p hp z => ?_)
      · rw [← hC]; exact I3.sz
      · have q := (I3.pin p hp).1
        rw [z, ← hC] at q
        exact absurd (Heap.lt_size q) (Nat.lt_irrefl _)
    · refine thn (T.item (X.comp sc cl x caps s3 (upd H2 D (.lst [])) C fp) rfl rfl rfl hc i [] s5 _ H5 _ J5 (stat fr5) st5 go) fun r s6 ⟨u, hr, h6⟩ => ?_
      subst hr
      refine thn h6 fun _ s6' ⟨xv, H6, J6, r6, y6, st6, fr6⟩ => ?_
      have J6' := J6.pinned (stat fr6) (T.obj _ _ st6)
      have again : ∀ {σ7 : St} {H7 : Hp} {s7 : Shared} {ys' : List V}, Inv (X.comp sc cl x caps s3 (upd H2 D (.lst [])) C fp) ([] ++ pinsAt fp s6'.heap) ((none :: pick idx σ).set 0 σ7.head?.join) H7 s7 → (∃ m', m' < n ∧ W (i + 1) m' ys' H7) →
          ∃ m, m < n ∧ ∃ i ys H', Inv (X.comp sc cl x caps s3 (upd H2 D (.lst [])) C fp) [] (none :: pick idx σ) H' s7 ∧ tn i s7.heap ∧ (∀ b ∈ fp, H' b = none) ∧ W i m ys H' := fun {σ7 H7 s7 ys'} J7 ⟨m', hm, w7⟩ => by
        refine ⟨m', hm, i + 1, ys', H7, (J7.unpinned (pins := [])).weak (by simp) (fun j v q => ?_), T.keep _ _ _ st6 fun b hb o e => (J7.pin (b, o) (List.mem_append_right _ (List.mem_append_right _ (mem_pinsAt hb e)))).1, fun b hb => ?_, w7⟩
        · cases j with
          | zero => cases q
          | succ j => exact q
        · obtain ⟨o, e, d⟩ := T.obj _ _ st6 b hb
          exact (J7.pin (b, o) (List.mem_append_right _ (List.mem_append_right _ (mem_pinsAt hb e)))).2.1
      have again' : ∀ {H7 : Hp} {s7 : Shared} {ys' : List V}, Inv (X.comp sc cl x caps s3 (upd H2 D (.lst [])) C fp) ([] ++ pinsAt fp s6'.heap) (some xv :: pick idx σ) H7 s7 → (∃ m', m' < n ∧ W (i + 1) m' ys' H7) →
          ∃ m, m < n ∧ ∃ i ys H', Inv (X.comp sc cl x caps s3 (upd H2 D (.lst [])) C fp) [] (none :: pick idx σ) H' s7 ∧ tn i s7.heap ∧ (∀ b ∈ fp, H' b = none) ∧ W i m ys H' := fun {H7 s7 ys'} J7 w7 => again (σ7 := [some xv]) J7 w7
      refine wpAny_assign_Name (store_ok J6' (i := 0) Z.nd rfl (.inl (lookup_relabel_local Z.xl)) r6 (fun s7 J7 => ?_) (.inr (lookup_relabel_local Z.xl)))
      have J7 : Inv (X.comp sc cl x caps s3 (upd H2 D (.lst [])) C fp) ([] ++ pinsAt fp s6'.heap) (some xv :: pick idx σ) H6 s7 := J7
      refine thn ((ht s3 (upd H2 D (.lst [])) C fp).ok _ s7 _ H6 _ J7 (step xv H6 y6)) fun ok s8 ⟨H8, J8, q8⟩ => ?_
      cases ok with
      | false => exact again' J8 q8
      | true =>
        refine thn ((he s3 (upd H2 D (.lst [])) C fp).ok _ s8 _ H8 _ J8 q8) fun u9 s9 ⟨v9, H9, J9, r9, hD9, hl9, q9⟩ => ?_
        refine thn (mt_append (X := X.comp sc cl x caps s3 (upd H2 D (.lst [])) C fp) _ s9 _ H9 (.ref D) [v9] (.ref D) [u9] (fun _ H10 => ∃ m', m' < n ∧ W (i + 1) m' (ys ++ [v9]) H10) J9 rfl (.cons r9 .nil) ⟨D, ys, v9, rfl, rfl, hD9, hl9, q9⟩) fun _ s10 ⟨_, H10, J10, _, q10⟩ => ?_
        exact again' J10 q10
  have start5 := loop _ rfl
  subst hs3
  subst hC
  exact codeAny_compStart_list start5 (T.self X.A 0 _ _ _ tn4 start5)
/-- [elt for x in iter if ..] -/
theorem qpe_comp (hc : X.calm = true) (Z : CompOk X sc cl x caps idx) (hi : QI X (.Name x px) iter wi) (ht : ∀ s0 H0 C fp, QIf (X.comp sc cl x caps s0 H0 C fp) ifs tt) (he : ∀ s0 H0 C fp, QE (X.comp sc cl x caps s0 H0 C fp) elt te)
    (hs : ∀ z, foldedSetIterable iter X.env z = pure z := by intro _; rfl) : QE X (.ListComp elt [⟨.Name x px, iter, ifs, 0⟩] sc pos) (tComp wi idx tt te) := ⟨fun pins s σ H Q I h => by
  rw [eval_ListComp]
  refine comp_run (use := none) hc Z hi ht he hs I h fun D C H' s' m I' ns hC _ _ q => ⟨m, ns, fun h2 sb => ?_⟩
  exact ⟨.ref D, H', hC h2 s'.toks σ s' I' fun b o nb z => sb.extBut b o nb z, rfl, q⟩⟩
/-- y = [elt for x in iter if ..], where the store comes ahead of the letting go of x -/
theorem qps_comp {i : Nat} {y : Str} {py spos : Pos} (hc : X.calm = true) (hN : X.N.Nodup) (hy : X.N[i]? = some y) (hl : X.env.kindOf y = some .local) (Z : CompOk X sc cl x caps idx) (hi : QI X (.Name x px) iter wi)
    (ht : ∀ s0 H0 C fp, QIf (X.comp sc cl x caps s0 H0 C fp) ifs tt) (he : ∀ s0 H0 C fp, QE (X.comp sc cl x caps s0 H0 C fp) elt te) (hsw : swapsWith (.ListComp elt [⟨.Name x px, iter, ifs, 0⟩] sc pos) (some (.Name y py)) spos.line X.env = pure true := by rfl)
    (hs : ∀ z, foldedSetIterable iter X.env z = pure z := by intro _; rfl) : QS X (.Assign [.Name y py] (.ListComp elt [⟨.Name x px, iter, ifs, 0⟩] sc pos) spos) (tAsg (tComp wi idx tt te) (gName i)) := ⟨fun pins s σ H D I h => by
  rw [exec_Assign_Name_used _ _ _ _ hsw]
  refine wpAny_bind (wpAny_standAt (wpAny_bind ?_))
  show wpAny _ X.A (do let _ ← comprehension (.ListComp elt [⟨.Name x px, iter, ifs, 0⟩] sc pos) sc X.env _ (newList []) false (eval iter X.env) (some (assign (.Name y py) X.env))) _ _ s
  refine wpAny_bind (thn (comp_run (use := some (assign (.Name y py) X.env)) (Q := fun v H1 => D.nx (σ.set i (some v)) H1) (Q' := fun _ s' => SP X pins D .next s') hc Z hi ht he hs I h fun L C H' s' m I' ns hC nL nc q => ?_) fun _ s' z => wpAny_pure (wpAny_pure z))
  refine wpAny_assign_Name (store_ok2 I' hN hy (.inl hl) (v := .ref L) rfl (fun s2 I2 ⟨a, sb, ha⟩ => ?_) (.inr hl))
  have na : a ≠ C := by
    rcases ha with e | e
    · rw [e]; exact Ne.symm nL
    · exact nc y a e
  refine ⟨m, ns.sameBut sb (Ne.symm na), fun h2 sb2 => ?_⟩
  exact ⟨_, H', hC h2 s2.toks _ s2 I2 fun b o nb z => sb2.extBut b o nb z, q⟩⟩
end
end L2
set_option Elab.async false
set_option linter.all false
set_option maxRecDepth 100000
/-! MORE RULES: the layer's others wrapped; all, any, min of three; == and != of lists, tuples, left numbers; slices with a step; list(range(..)). -/
namespace L2
open PySem PySem.W PySem.Spec PyProof.Rows
theorem bt_all : bootBuiltins "all" = some (.builtin "all") := by decide +kernel
theorem bt_min : bootBuiltins "min" = some (.builtin "min") := by decide +kernel
theorem bt_max : bootBuiltins "max" = some (.builtin "max") := by decide +kernel
theorem bt_list : bootBuiltins "list" = some (.type "list") := by decide +kernel
section
variable {es : List Expr} {env : Env} {pos : Pos}
theorem star_ListComp {a : Expr} {gs : List Comprehension} {sc : Scope} : starEach (.ListComp a gs sc pos :: es) env = (false, eval (.ListComp a gs sc pos) env) :: starEach es env := by rw [starEach]; intro e p z; cases z
end
structure QO (X : Cx) (e : Option Expr) (t : TO) : Prop where
  ok : PO X e t
section
variable {X : Cx} {a b c e l o i : Expr} {es : List Expr} {ta tb tc te tl to ti : TE} {tA : TT} {t : TA} {pos p p2 : Pos} {lo hi : Option Expr} {tlo thi : TO} {tg : Expr}
theorem qpo_none : QO X none tNoPart := ⟨po_none⟩
theorem qpo_some (h : QE X e te) : QO X (some e) (tPart te) := ⟨po_some h.ok⟩
theorem qpe_slice {r : V → Option Int → Option Int → Hp → VK → Prop} (hr : SlR X r) (he : QE X e te) (hl : QO X lo tlo) (hu : QO X hi thi) : QE X (.Subscript e (.Slice lo hi none p2) pos) (tSl r te tlo thi) := ⟨pe_slice hr he.ok hl.ok hu.ok⟩
theorem qpt_chain {op op' : CmpOp} {r r' : R2} (ho : OpR X (compareOp op) r) (ho' : OpR X (compareOp op') r') (ha : QE X a ta) (hb : QE X b tb) (hc : QE X c tc)
    (hm : lastMarks [op, op'] [b, c] = false := by with_unfolding_all rfl) : QT X (.Compare a [op, op'] [b, c] pos) (tTest (tChain r r' ta tb tc)) := ⟨pt_chain ho ho' ha.ok hb.ok hc.ok hm⟩
theorem qpg_sub {t : TSet} (ho : QE X o to) (hi : QE X i ti) (hs : PSet X t)
    (ha : ∀ v, assign (.Subscript o i pos) X.env v = (do
      let ov ← holding [v] (eval o X.env)
      let iv ← holding [v, ov] (eval i X.env)
      standAt pos
      holding [v, ov, iv] (setItem ov iv v)
      release [v, ov, iv] []) := by intro _; rfl) : QG X (.Subscript o i pos) (gSub to ti t) := ⟨pg_sub ho.ok hi.ok hs ha⟩
theorem qpi_range2 (hg : Gl X "range") (hm : X.mg "range" = none) (ha : QA X [a, b] t) (hs : starEach [a, b] X.env = [(false, eval a X.env), (false, eval b X.env)] := by rfl) (hs2 : starEach [b] X.env = [(false, eval b X.env)] := by rfl) :
    QI X tg (.Call (.Name "range" p) [a, b] [] pos) (iRng2 t) := ⟨pi_range2 hg hm ha.ok hs hs2⟩
theorem qpe_callTy {T : String} {x : Str} {r : List V → Hp → VK → Prop} (hc : CallR X (.type T) r) (hg : Gl X x) (hm : X.mg x = none) (hv : bootBuiltins x = some (.type T)) (ha : QA X (e :: es) t) (hn : x ≠ "__name__" := by decide) (hdb : (x == ("__debug__" : Str)) = false := by decide)
    (he : starEach (e :: es) X.env = (false, eval e X.env) :: starEach es X.env := by rfl) (hpl : (backTo pos (starEach es X.env)).any (·.1) = false := by rfl) : QE X (.Call (.Name x p) (e :: es) [] pos) (tCB r t) := ⟨pe_callTy hc hg hm hv ha.ok hn hdb he hpl⟩
/-! ### min of three, all, any -/
theorem getD_bool {bs : List Bool} {its : List Value} (rv : Vals (bs.map V.bl) its) {i : Nat} {v : Value} (hv : its.toArray[i]? = some v) : v = .bool (bs.getD i false) := by
  have hl := rv.length
  have hi : its[i]? = some v := by simpa using hv
  have hb : i < bs.length := by
    have := (List.getElem?_eq_some_iff.mp hi).1
    rw [← hl, List.length_map] at this
    exact this
  obtain ⟨u, hu, ru⟩ := rv.get (x := V.bl bs[i]) (by rw [List.getElem?_map, List.getElem?_eq_getElem hb]; rfl)
  rw [hi] at hu
  cases hu
  have e : bs.getD i false = bs[i] := by rw [List.getD_eq_getElem?_getD, List.getElem?_eq_getElem hb]; rfl
  rw [e]
  exact ru
theorem range_bools (bs : List Bool) : (List.range bs.length).map (fun i => bs.getD i false) = bs := by
  refine List.ext_getElem (by simp) fun i h1 h2 => ?_
  simp [h2]
/-- all(a list of truths) -/
theorem call_allL (hc : X.calm = true) : CallR X (.builtin "all") (fun xs H Q => ∃ (p : Addr) (bs : List Bool), xs = [.ref p] ∧ SqL X.K H p (bs.map V.bl) ∧ Q (.bl (bs.all id)) H) := by
  intro pins s σ H xs us Q I r h
  obtain ⟨p, bs, rfl, hp, q⟩ := h
  cases r with
  | cons r rr =>
    cases rr
    cases (show _ = Value.ref p from r)
    obtain ⟨its, rv, pl, hz⟩ := I.list hp
    have hl := rv.length
    have hs : its.toArray.size = bs.length := by rw [List.size_toArray, ← hl, List.length_map]
    have ho : (s.heap.push { cls := .type "list_iterator", data := .fields #[.ref p, .int 0 0] }).IsListIter s.heap.objs.size p 0 := ⟨_, Heap.get?_push_size _ rfl, rfl, rfl⟩
    have np : p ≠ s.heap.objs.size := by
      obtain ⟨o, ho, _⟩ := pl.isList
      exact Nat.ne_of_lt (Heap.lt_size ho)
    refine call_all_walk (wpAny_pyIter_list pl.isList ⟨s.heap.objs.size, _, _, _, _, _, fun i => bs.getD i false, rfl, Walks.list (A := X.A.in1) (I.ok.hd hc) _ _ np its.toArray, ⟨ho, pl.isList.at fun o e => Heap.get?_push_of_some _ e⟩, fun i v s Q E hv hq => ?_, fun h' tk k => ?_⟩)
    · rw [getD_bool rv hv]
      exact wpAny_pure hq
    · have e : (List.range its.toArray.size).all (fun i => bs.getD i false) = bs.all id := by
        rw [hs]
        conv => rhs; rw [← range_bools bs]
        rw [List.all_map]
        rfl
      refine ⟨.bl (bs.all id), H, I.kept (t' := tk) fun b o q => ?_, by rw [← e]; rfl, q⟩
      exact k b o (fun z => Nat.ne_of_lt (Heap.lt_size q) (by simpa using z)) (Heap.get?_push_of_some _ q)
/-! ### == of lists and tuples -/
/-- x == y as items, at any place -/
def Eqs (X : Cx) (k : Nat) (H : Hp) (x y : V) (e : Bool) : Prop := ∀ (pins : List (Addr × Obj)) (s : Shared) (σ : St) (A : Around) (u v : Value), Inv X pins σ H s → A.units + k < cLine → RelV x u → RelV y v → SeqAt.EqAt A s u v e
theorem Eqs.flat {H : Hp} {x y : V} (fx : flatV x = true) (fy : flatV y = true) {k : Nat} : Eqs X k H x y (eqV x y) := fun _ _ _ _ _ _ _ _ rx ry => eqAt_V rx ry fx fy
/-- two lists of items -/
def sameE (e : Nat → Bool) (xs ys : List V) : Bool := (List.range (min xs.length ys.length)).all e && xs.length == ys.length
theorem item_rel {xs : List V} {its : List Value} (r : Vals xs its) {j : Nat} (hj : j < its.toArray.size) (hx : j < xs.length) : RelV xs[j] its.toArray[j] := by
  obtain ⟨u, hu, ru⟩ := r.get (List.getElem?_eq_getElem hx)
  have : its.toArray[j] = u := by
    have h1 := (List.getElem?_eq_some_iff.mp hu).2
    simpa using h1
  rw [this]
  exact ru
/-- == of two tuples, of two lists -/
def rEqD (X : Cx) (neg : Bool) : R2 := fun x y H Q => ∃ (a b : Addr) (xs ys : List V) (e : Nat → Bool), x = .ref a ∧ y = .ref b ∧ ((SqT X.K H a xs ∧ SqT X.K H b ys) ∨ (SqL X.K H a xs ∧ SqL X.K H b ys)) ∧ (∀ j (h1 : j < xs.length) (h2 : j < ys.length), Eqs X 32 H xs[j] ys[j] (e j)) ∧ Q (.bl (if neg then !sameE e xs ys else sameE e xs ys)) H
theorem lists_len {e : Nat → Bool} {xs ys : List V} (h : xs.length ≠ ys.length) : sameE e xs ys = false := by
  unfold sameE
  rw [show (xs.length == ys.length) = false from beq_eq_false_iff_ne.mpr h, Bool.and_false]
theorem op_eqD (hu : X.A.units + 40 < cLine) : OpR X (compareOp .Eq) (rEqD X false) := by
  intro pins s σ H x y v u Q I rx ry h
  obtain ⟨a, b, xs, ys, e, rfl, rfl, hab, he, q⟩ := h
  cases rx
  cases ry
  rcases hab with ⟨ha, hb⟩ | ⟨ha, hb⟩
  · obtain ⟨its, r1, p1, _⟩ := I.tuple ha
    obtain ⟨its2, r2, p2, _⟩ := I.tuple hb
    have l1 : its.toArray.size = xs.length := by rw [List.size_toArray, ← r1.length]
    have l2 : its2.toArray.size = ys.length := by rw [List.size_toArray, ← r2.length]
    have main := SeqAt.RcAt.tuples (A := X.A) (s := s) (e := e) (show s.heap.IsTuple a its.toArray from p1) (show s.heap.IsTuple b its2.toArray from p2) (by omega) (fun j h1 h2 =>
      he j (by omega) (by omega) pins s σ X.A.in1 _ _ I (by show X.A.units + 1 + 32 < cLine; omega) (item_rel r1 h1 (by omega)) (item_rel r2 h2 (by omega)))
    rw [l1, l2] at main
    exact main _ _ _ _ ⟨.bl (sameE e xs ys), H, I, rfl, q⟩
  · obtain ⟨its, r1, p1, _⟩ := I.list ha
    obtain ⟨its2, r2, p2, _⟩ := I.list hb
    have l1 : its.toArray.size = xs.length := by rw [List.size_toArray, ← r1.length]
    have l2 : its2.toArray.size = ys.length := by rw [List.size_toArray, ← r2.length]
    by_cases hl : xs.length = ys.length
    · have main := SeqAt.RcAt.lists (A := X.A) (s := s) (e := e) p1.isList p2.isList (by omega) (by omega) (fun j h1 h2 =>
        he j (by omega) (by omega) pins s σ X.A.in1 _ _ I (by show X.A.units + 1 + 32 < cLine; omega) (item_rel r1 h1 (by omega)) (item_rel r2 h2 (by omega)))
      have es : (List.range its.toArray.size).all e = sameE e xs ys := by
        unfold sameE
        rw [l1, ← hl, Nat.min_self, beq_self_eq_true, Bool.and_true]
      rw [es] at main
      exact main _ _ _ _ ⟨.bl (sameE e xs ys), H, I, rfl, q⟩
    · have main := SeqAt.RcAt.lists_lengths (A := X.A) (s := s) p1.isList p2.isList (by rw [l1, l2, bne_iff_ne]; exact hl) (by omega)
      rw [if_neg (by decide), lists_len hl] at q
      exact main _ _ _ _ ⟨.bl false, H, I, rfl, q⟩
theorem op_neD (hu : X.A.units + 40 < cLine) : OpR X (compareOp .NotEq) (rEqD X true) := by
  intro pins s σ H x y v u Q I rx ry h
  obtain ⟨a, b, xs, ys, e, rfl, rfl, hab, he, q⟩ := h
  cases rx
  cases ry
  rcases hab with ⟨ha, hb⟩ | ⟨ha, hb⟩
  · obtain ⟨its, r1, p1, _⟩ := I.tuple ha
    obtain ⟨its2, r2, p2, _⟩ := I.tuple hb
    have l1 : its.toArray.size = xs.length := by rw [List.size_toArray, ← r1.length]
    have l2 : its2.toArray.size = ys.length := by rw [List.size_toArray, ← r2.length]
    have main := SeqAt.RcNeAt.tuples (A := X.A) (s := s) (e := e) (show s.heap.IsTuple a its.toArray from p1) (show s.heap.IsTuple b its2.toArray from p2) (by omega) (fun j h1 h2 =>
      he j (by omega) (by omega) pins s σ X.A.in1 _ _ I (by show X.A.units + 1 + 32 < cLine; omega) (item_rel r1 h1 (by omega)) (item_rel r2 h2 (by omega)))
    rw [l1, l2] at main
    exact main _ _ _ _ ⟨.bl (!sameE e xs ys), H, I, rfl, q⟩
  · obtain ⟨its, r1, p1, _⟩ := I.list ha
    obtain ⟨its2, r2, p2, _⟩ := I.list hb
    have l1 : its.toArray.size = xs.length := by rw [List.size_toArray, ← r1.length]
    have l2 : its2.toArray.size = ys.length := by rw [List.size_toArray, ← r2.length]
    by_cases hl : xs.length = ys.length
    · have main := SeqAt.RcNeAt.lists (A := X.A) (s := s) (e := e) p1.isList p2.isList (by omega) (by omega) (fun j h1 h2 =>
        he j (by omega) (by omega) pins s σ X.A.in1 _ _ I (by show X.A.units + 1 + 32 < cLine; omega) (item_rel r1 h1 (by omega)) (item_rel r2 h2 (by omega)))
      have es : (List.range its.toArray.size).all e = sameE e xs ys := by
        unfold sameE
        rw [l1, ← hl, Nat.min_self, beq_self_eq_true, Bool.and_true]
      rw [es] at main
      exact main _ _ _ _ ⟨.bl (!sameE e xs ys), H, I, rfl, q⟩
    · have main := SeqAt.RcNeAt.lists_lengths (A := X.A) (s := s) p1.isList p2.isList (by rw [l1, l2, bne_iff_ne]; exact hl) (by omega)
      rw [if_pos rfl, lists_len hl] at q
      exact main _ _ _ _ ⟨.bl true, H, I, rfl, q⟩
end
end L2
set_option Elab.async false
set_option linter.all false
set_option maxRecDepth 100000
/-! == of ints, truths and left numbers; comprehensions whose items are plain; slices with a step; list(range(..)) -/
namespace L2
open PySem PySem.W PySem.Spec PyProof.Rows
theorem OpR.of {X : Cx} {f : Value → Value → Sem Value} {r r' : R2} (h : OpR X f r) (k : ∀ x y H Q, r' x y H Q → r x y H Q) : OpR X f r' := fun pins s σ H x y v u Q I rx ry q => h pins s σ H x y v u Q I rx ry (k x y H Q q)
/-! ### flat items -/
def eF (xs ys : List V) : Nat → Bool := fun j => eqV (xs.getD j .non) (ys.getD j .non)
theorem getD_lt {xs : List V} {j : Nat} (h : j < xs.length) : xs.getD j .non = xs[j] := by rw [List.getD_eq_getElem?_getD, List.getElem?_eq_getElem h]; rfl
theorem eqs_flat {X : Cx} {k : Nat} {H : Hp} {xs ys : List V} (fx : xs.all flatV = true) (fy : ys.all flatV = true) : ∀ j (h1 : j < xs.length) (h2 : j < ys.length), Eqs X k H xs[j] ys[j] (eF xs ys j) := fun j h1 h2 => by
  unfold eF
  rw [getD_lt h1, getD_lt h2]
  exact Eqs.flat (List.all_eq_true.mp fx _ (List.getElem_mem h1)) (List.all_eq_true.mp fy _ (List.getElem_mem h2))
theorem int_flat (ns : List Int) : (ns.map V.int).all flatV = true := by rw [List.all_eq_true]; intro v hv; obtain ⟨n, _, rfl⟩ := List.mem_map.mp hv; rfl
theorem bl_flat (ns : List Bool) : (ns.map V.bl).all flatV = true := by rw [List.all_eq_true]; intro v hv; obtain ⟨n, _, rfl⟩ := List.mem_map.mp hv; rfl
theorem same_ints (ns ms : List Int) : sameE (eF (ns.map V.int) (ms.map V.int)) (ns.map V.int) (ms.map V.int) = decide (ns = ms) := by
  rw [← ints_same]
  unfold sameE
  rw [List.length_map, List.length_map]
  congr 1
  rw [Bool.eq_iff_iff, List.all_eq_true, List.all_eq_true]
  have key : ∀ j ∈ List.range (min ns.length ms.length), eF (ns.map V.int) (ms.map V.int) j = (ns.getD j 0 == ms.getD j 0) := fun j hj => by
    have h := List.mem_range.mp hj
    have h1 : j < ns.length := by omega
    have h2 : j < ms.length := by omega
    unfold eF
    rw [getD_lt (by rw [List.length_map]; exact h1), getD_lt (by rw [List.length_map]; exact h2), List.getElem_map, List.getElem_map, List.getD_eq_getElem?_getD, List.getD_eq_getElem?_getD, List.getElem?_eq_getElem h1, List.getElem?_eq_getElem h2]
    rfl
  exact ⟨fun h j hj => (key j hj).symm.trans (h j hj), fun h j hj => (key j hj).trans (h j hj)⟩
theorem same_bls (ns ms : List Bool) : sameE (eF (ns.map V.bl) (ms.map V.bl)) (ns.map V.bl) (ms.map V.bl) = decide (ns = ms) := by
  unfold sameE
  rw [List.length_map, List.length_map, Bool.eq_iff_iff, Bool.and_eq_true, List.all_eq_true, beq_iff_eq, decide_eq_true_iff]
  have key : ∀ j (h1 : j < ns.length) (h2 : j < ms.length), eF (ns.map V.bl) (ms.map V.bl) j = (ns[j] == ms[j]) := fun j h1 h2 => by
    unfold eF
    rw [getD_lt (by rw [List.length_map]; exact h1), getD_lt (by rw [List.length_map]; exact h2), List.getElem_map, List.getElem_map]
    rfl
  constructor
  · rintro ⟨h1, h2⟩
    refine List.ext_getElem h2 fun i a b => ?_
    have q := h1 i (List.mem_range.mpr (by omega))
    rw [key i a b] at q
    exact beq_iff_eq.mp q
  · rintro rfl
    refine ⟨fun j hj => ?_, rfl⟩
    have h := List.mem_range.mp hj
    have h1 : j < ns.length := by omega
    rw [key j h1 h1]
    exact beq_self_eq_true _
section
variable {X : Cx}
/-- == of two lists, or of two tuples, of whole numbers -/
def rEqI (K : PySem.W.Frag) (neg : Bool) : R2 := fun x y H Q => ∃ (a b : Addr) (ns ms : List Int), x = .ref a ∧ y = .ref b ∧ ((SqT K H a (ns.map V.int) ∧ SqT K H b (ms.map V.int)) ∨ (SqL K H a (ns.map V.int) ∧ SqL K H b (ms.map V.int))) ∧ Q (.bl (if neg then !decide (ns = ms) else decide (ns = ms))) H
theorem rEqI.d {neg : Bool} {x y : V} {H : Hp} {Q : VK} (h : rEqI X.K neg x y H Q) : rEqD X neg x y H Q := by
  obtain ⟨a, b, ns, ms, rfl, rfl, hab, q⟩ := h
  refine ⟨a, b, _, _, eF (ns.map V.int) (ms.map V.int), rfl, rfl, hab, eqs_flat (int_flat ns) (int_flat ms), ?_⟩
  rw [same_ints]
  exact q
theorem op_eqI (hu : X.A.units + 40 < cLine) : OpR X (compareOp .Eq) (rEqI X.K false) := (op_eqD hu).of fun _ _ _ _ h => h.d
theorem op_neI2 (hu : X.A.units + 40 < cLine) : OpR X (compareOp .NotEq) (rEqI X.K true) := (op_neD hu).of fun _ _ _ _ h => h.d
/-- == of two lists of truths -/
def rEqB (K : PySem.W.Frag) (neg : Bool) : R2 := fun x y H Q => ∃ (a b : Addr) (ns ms : List Bool), x = .ref a ∧ y = .ref b ∧ (SqL K H a (ns.map V.bl) ∧ SqL K H b (ms.map V.bl)) ∧ Q (.bl (if neg then !decide (ns = ms) else decide (ns = ms))) H
theorem rEqB.d {neg : Bool} {x y : V} {H : Hp} {Q : VK} (h : rEqB X.K neg x y H Q) : rEqD X neg x y H Q := by
  obtain ⟨a, b, ns, ms, rfl, rfl, hab, q⟩ := h
  refine ⟨a, b, _, _, eF (ns.map V.bl) (ms.map V.bl), rfl, rfl, .inr hab, eqs_flat (bl_flat ns) (bl_flat ms), ?_⟩
  rw [same_bls]
  exact q
theorem op_eqB (hu : X.A.units + 40 < cLine) : OpR X (compareOp .Eq) (rEqB X.K false) := (op_eqD hu).of fun _ _ _ _ h => h.d
/-! ### left numbers -/
end
theorem Room.u40 {k : Nat} {A : Around} (r : Room k A) : A.units + 40 < cLine := by have := r.un; omega
/-! ### comprehensions with plain items -/
/-- what a walk of n turns over the items it tells -/
structure Plain (J : It) (xs : List V) (Hs : Hp → Prop) : Prop where
  stop : ∀ H, Hs H → J.stop xs.length H
  go : ∀ i H, i < xs.length → Hs H → J.go i H
  yld : ∀ i H x H', i < xs.length → Hs H → J.yld i H x H' → H' = H ∧ xs[i]? = some x
theorem plain_list {K : PySem.W.Frag} {a : Addr} {xs : List V} : Plain (Itl K a) xs (fun H => SqL K H a xs) where
  stop := fun H h => ⟨xs, h, Nat.le_refl _⟩
  go := fun i H hi h => ⟨xs, xs[i], h, List.getElem?_eq_getElem hi⟩
  yld := fun i H x H' _ h y => ⟨y.1, y.2 xs h⟩
theorem plain_range {lo : Int} {n : Nat} : Plain (Itr lo n) ((List.range n).map fun i : Nat => V.int (lo + i)) (fun _ => True) where
  stop := fun H _ => by show n ≤ _; simp
  go := fun i H hi _ => by show i < n; simpa using hi
  yld := fun i H x H' hi _ y => ⟨y.1, by
    have hi : i < n := by simpa using hi
    rw [y.2, List.getElem?_map, List.getElem?_range hi]
    rfl⟩
/-- the list of what comes: f of the items for which c -/
theorem comp_plain {J : It} {xs : List V} {Hs : Hp → Prop} {p : St} {tt : TT} {te : TE} {Q : V → Hp → Prop} {H1 : Hp} {D : Addr} (c : V → Bool) (f : V → V) (P : Plain J xs Hs) (hz : xs.length < sizeLine) (hD : H1 D = none) (hs : ∀ ys, Hs (upd H1 D (.lst ys)))
    (ht : ∀ x ∈ xs, ∀ ys (R : Bool → Hp → Prop), R (c x) (upd H1 D (.lst ys)) → tt (some x :: p) (upd H1 D (.lst ys)) R)
    (he : ∀ x ∈ xs, c x = true → ∀ ys (R : V → Hp → Prop), R (f x) (upd H1 D (.lst ys)) → te (some x :: p) (upd H1 D (.lst ys)) R)
    (q : Q (.ref D) (upd H1 D (.lst ((xs.filter c).map f)))) : CompW J D p tt te Q H1 := by
  refine ⟨fun i m ys H => m = xs.length - i ∧ i ≤ xs.length ∧ ys = ((xs.take i).filter c).map f ∧ H = upd H1 D (.lst ys), ⟨xs.length, by simp, Nat.zero_le _, rfl, rfl⟩, ?_⟩
  rintro i m ys H ⟨rfl, hi, hys, rfl⟩
  refine ⟨upd_same, ?_⟩
  by_cases hlt : i < xs.length
  · refine .inr ⟨P.go i _ hlt (hs ys), fun x H' y => ?_⟩
    obtain ⟨rfl, hx⟩ := P.yld i _ x H' hlt (hs ys) y
    have hm : x ∈ xs := List.mem_of_getElem? hx
    have tk : xs.take (i + 1) = xs.take i ++ [x] := by rw [List.take_succ, hx]; rfl
    have ylen : ys.length ≤ i := by
      rw [hys, List.length_map]
      exact Nat.le_trans (List.length_filter_le _ _) (by rw [List.length_take]; exact Nat.min_le_left _ _)
    refine ht x hm ys _ ?_
    cases hc : c x with
    | false =>
      refine iteF ⟨xs.length - (i + 1), by omega, rfl, hlt, ?_, rfl⟩
      rw [tk, List.filter_append, hys]
      simp [hc]
    | true =>
      refine iteT (he x hm hc ys _ ⟨upd_same, by omega, xs.length - (i + 1), by omega, rfl, hlt, ?_, by rw [upd_upd]⟩)
      rw [tk, List.filter_append, hys]
      simp [hc]
  · have e : i = xs.length := by omega
    subst e
    refine .inl ⟨P.stop _ (hs ys), ?_⟩
    rw [List.take_length] at hys
    rw [hys]
    exact q
/-! ### slices with a step -/
section
variable {X : Cx} {e : Expr} {te : TE} {lo hi : Option Expr} {tlo thi : TO} {st : Expr} {ts : TE} {pos p2 : Pos}
end
end L2
set_option Elab.async false
set_option linter.all false
set_option maxRecDepth 100000
namespace L2
open PySem PyProof.Rows
/-! ### a, b, .. = a list -/
section
variable {prog : Program} {w : World} {A : Around} {E : Value → Shared → Prop}
variable {s : Shared}
end
section
variable {X : Cx} {pos : Pos}
end
end L2
set_option Elab.async false
set_option linter.all false
set_option maxRecDepth 100000
namespace L2
open PySem
/-! ### slices by their ends; figures -/
theorem cut_to {xs : List V} {k : Int} (hk : 0 ≤ k) : cutV xs none (some k) = xs.take k.toNat := by
  obtain ⟨n, rfl⟩ : ∃ n : Nat, k = (n : Int) := ⟨k.toNat, by omega⟩
  unfold cutV
  rw [HT.sIx_none, HT.sIx_nat, List.drop_zero, Int.toNat_natCast, Nat.sub_zero]
  rcases Nat.le_total n xs.length with h | h
  · rw [Nat.min_eq_left h]
  · rw [Nat.min_eq_right h, List.take_length, List.take_of_length_le h]
theorem ix_nat {n k : Nat} (h : k < n) : ixN n (k : Int) = some k := by
  unfold ixN
  rw [if_pos (by omega), if_pos (by omega), Int.toNat_natCast]
/-! ### primes -/
/-! ### what is a left number -/
/-! ### promises about the drawing of input -/
end L2
set_option Elab.async false
set_option linter.all false
set_option maxRecDepth 100000
namespace L2
open PySem
theorem same_upd {H1 H2 : Hp} {b : Addr} {o : HO} (kb : H1 b = none) (g : Same H1 H2) : Same H1 (upd H2 b o) := fun x u e => by
  rw [upd_ne (ne_of_none e kb)]
  exact g x u e
theorem none_of {H H' : Hp} {x : Addr} (g : Same H H') (h : H' x = none) : H x = none := by
  cases z : H x with
  | none => rfl
  | some o =>
    rw [g _ _ z] at h
    cases h
/-! ### numbers by their figures -/
/-- the sum of the figures -/
def un (p : Int) : List Int → Int
  | [] => 0
  | f :: fs => un p fs * p + f
theorem for_revN {K : PySem.W.Frag} {a : Addr} {xs : List V} {g : TG} {tb : TS} {nx : St → Hp → Prop} {rt : VK} {σ : St} {H : Hp} (Pv : Nat → St → Hp → Prop) (h0 : Pv 0 σ H) (hl : ∀ i σ H, i ≤ xs.length → Pv i σ H → SqL K H a xs)
    (hs : ∀ i x σ H, xs[xs.length - 1 - i]? = some x → i < xs.length → Pv i σ H → g x σ H fun σ2 H2 => tb { nx := Pv (i + 1), rt := rt, bk := nx, ct := Pv (i + 1) } σ2 H2) (hd : ∀ σ H, Pv xs.length σ H → nx σ H) :
    ∃ W : Nat → Nat → St → Hp → Prop, (∃ m, W 0 m σ H) ∧ ∀ i m σ H, W i m σ H →
      ((Itv K a xs).stop i H ∧ nx σ H) ∨ ((Itv K a xs).go i H ∧ ∃ N : St → Hp → Prop, (∀ σ' H', N σ' H' → ∃ m', m' < m ∧ W (i + 1) m' σ' H') ∧ ∀ x H', (Itv K a xs).yld i H x H' → g x σ H' fun σ2 H2 => tb { nx := N, rt := rt, bk := nx, ct := N } σ2 H2) :=
  for_rev (D := { nx := nx, rt := rt }) Pv h0 hl hs hd
/-! ### the promises about left numbers -/
end L2
set_option Elab.async false
set_option linter.all false
set_option maxRecDepth 100000
namespace L2
open PySem
/-! ### figures at places -/
def endL (l : Int) (fs : List Int) : Int := l + (fs.length : Int)
/-- the figure at a place below the end -/
def figN (l : Int) (fs : List Int) (n : Int) : Int := if n < l then 0 else fs.getD (n - l).toNat 0
/-- where they part -/
inductive IsPart (l : Int) (fs : List Int) (l' : Int) (fs' : List Int) : Option Int → Prop where
  | none (h : ∀ n, n < endL l fs → n < endL l' fs' → figN l fs n = figN l' fs' n) : IsPart l fs l' fs' none
  | some {x : Int} (h1 : x < endL l fs) (h2 : x < endL l' fs') (ne : figN l fs x ≠ figN l' fs' x) (h : ∀ n, n < x → figN l fs n = figN l' fs' n) : IsPart l fs l' fs' (some x)
/-! ### cut -/
/-! ### promises -/
end L2
set_option Elab.async false
set_option linter.all false
set_option maxRecDepth 100000
namespace L2
open PySem PySem.W PyProof.Rows
/-! ### the cells of a script are layable: each has at most 2 ** 20 bits -/
theorem weight_le {ns : List Int} : ∀ m ∈ ns, WData.weight (.int m) ≤ WData.weightAll (ns.map WData.int) := by
  induction ns with
  | nil => exact fun _ z => nomatch z
  | cons n ns ih =>
    intro m hm
    rw [List.map_cons, WData.weightAll]
    rcases List.mem_cons.mp hm with rfl | hm
    · omega
    · have := ih m hm
      omega
theorem bd_of_layable {ns : List Int} (h : WData.layableAll [.list (ns.map WData.int)] = true) : ∀ m ∈ ns, LN.Bd 1048576 m := fun m hm => by
  have h1 : WData.layable (.list (ns.map WData.int)) = true := by
    unfold WData.layableAll at h
    rw [List.all_cons, List.all_nil, Bool.and_true] at h
    exact h
  unfold WData.layable at h1
  rw [Bool.and_eq_true] at h1
  have h2 : WData.weight (.list (ns.map WData.int)) ≤ 2 ^ 20 := of_decide_eq_true h1.2
  rw [WData.weight] at h2
  have h3 := Nat.le_trans (weight_le m hm) h2
  rw [WData.weight] at h3
  unfold LN.Bd
  by_cases z : m = 0
  · rw [z]
    exact Nat.two_pow_pos _
  · rw [if_neg (by simpa using z)] at h3
    exact Nat.lt_of_lt_of_le (Nat.lt_log2_self (n := m.natAbs)) (Nat.pow_le_pow_right (by decide) h3)
end L2
namespace Att
open PySem PySem.W PySem.Calls PyProof.Rows
/-- as attach_call; the cells are known to be layable -/
theorem attach_callB {l : OpenLaw} {n : Nat} {q : Program} {loose : List Str} {XP : (Str → Option Value) → Heap → Prop} {YP : World → Heap → Prop} {d : DefRec}
    (hn : l.most = some n) (hdf : d.params.defaults = [])
    (call : ∀ (w : World) (s₀ s₁ : Shared) (mg mb : Str → Option Value) (fa : Addr) (o : Obj) (pm cd doc : Value) (a : Addr) (vs : List Value) (ns : List Int), (∀ m ∈ ns, LN.Bd 1048576 m) →
      Ground q loose [] XP w s₀ mg mb s₁.heap → YP w s₁.heap →
      s₁.heap.get? fa = some o → o.data = .func (docDef d.name d.params d.body d.scope pm cd doc) → s₁.heap.CodeRec cd d.name → mg d.name = some (.ref fa) →
      s₁.heap.get? a = some { cls := .type "list", data := .seq vs.toArray } → IntsAre vs ns → ns.length ≤ n → s₁.gens = #[] →
      codeAny (model l.prog w) callerA (.call (.ref fa) ⟨[.ref a], []⟩) (fun r s' => r = .ok (.ret (.bool true)) ∧ OldK s₁.heap s'.heap ∧ s'.os = s₁.os ∧ AllBare s'.gens) s₁) :
    WalkO q loose XP YP l.row.toRowW d [] (fun f vs => PySem.call f vs) := by
  intro w s₀ s₁ mg mb G Y fa o pm cd doc dV kV ho hd hcd hD hmg hg args vals as hpre hlay hrd hwl hlo
  cases (show dV = .none from Dflts.none hD hdf)
  cases (show kV = .none from Dflts.noKw hD)
  obtain ⟨a, vs, ns, rfl, rfl, hobj, hints, hlen⟩ := script_of hn hpre hwl
  have hb := L2.bd_of_layable hlay
  refine enter_call (codeAny_mono (call w s₀ s₁ mg mb fa o pm cd doc a vs ns hb G Y ho (fd_plain hd) hcd hmg hobj hints hlen hg) fun r s' hq => ?_)
  obtain ⟨rfl, h2, h3, h4⟩ := hq
  exact ⟨.inl ⟨.bool true, .bool true, [], rfl, fun _ => rfl, .bool true, post_true l _, fun _ => ⟨List.Pairwise.nil, fun _ hm => (nomatch hm)⟩⟩, h2, h3, h4⟩
end Att
namespace L2
open PySem PySem.Spec PyProof.Rows
theorem walk_ofB {l : PySem.W.OpenLaw} {n k : Nat} {q : Program} {loose : List Str} {XP : (Str → Option Value) → Heap → Prop} {YP : World → Heap → Prop} {d : DefRec} {K : Params → PySem.W.Frag} {CX : World → CXT} {sp : World → Sp} {x : Str}
    (hn : l.most = some n) (hn2 : n ≤ sizeLine) (hdf : d.params.defaults = []) (hr : Room k callerA)
    (hY : ∀ (w : World) (h : Heap), YP w h → (K w.params).In h)
    (F : ∀ (w : World) (mg : Str → Option Value) (fa : Addr) (h : Heap), (K w.params).In h → h.Ns mainGlobals mg → mg d.name = some (.ref fa) →
      ∃ fd : FuncData, (∀ (s : Shared) (u : Value), BindsTo s fd ⟨[u], []⟩ [(x, u)]) ∧
        ∀ base : Heap, (K w.params).In base → base.Ns mainGlobals mg → FnOk l.prog w (K w.params) mg base (CX w) k fa fd [x] (sp w))
    (hsp : ∀ (w : World) (H : Hp) (a : Addr) (ns : List Int), ns.length ≤ n → (∀ m ∈ ns, LN.Bd 1048576 m) → Only H → SqL (K w.params) H a (ns.map V.int) → sp w [.ref a] H (fun v _ => v = .bl true) fun _ _ _ => False)
    (hCX : ∀ (w : World) (H : Hp) (s : Shared) (e : Value) (s' : Shared), CX w [] H s (fun _ _ _ => False) e s' → False) :
    PySem.W.WalkO q loose XP YP l.row.toRowW d [] (fun f vs => PySem.call f vs) := by
  refine Att.attach_callB hn hdf fun w s₀ s₁ mg mb fa o pm cd doc a vs ns hb G Y ho hd hcd hmg hobj hints hlen hg => ?_
  have KX := hY w _ Y
  obtain ⟨fd, hb', hF⟩ := F w mg fa _ KX G.T.g hmg
  exact law_call KX G.T.g G.T.b G.T.builtins G.T.nolimit hg hobj hints (Nat.le_trans hlen hn2) hr hF hb' (fun H hO hS => hsp w H a ns hlen hb hO hS) fun H e s' => hCX w H s₁ e s'
/-- the law, its cells of at most 2 ** 20 bits -/
def spLawB (K : PySem.W.Frag) : Sp := fun vs H Q _ => ∃ (a : Addr) (ns : List Int), vs = [.ref a] ∧ SqL K H a (ns.map V.int) ∧ ns.length ≤ 63 ∧ (∀ k, LN.Bd 1048576 (ns.getD k 0)) ∧ ∀ H', Q (.bl true) H'
theorem bd_getD {ns : List Int} (h : ∀ m ∈ ns, LN.Bd 1048576 m) (k : Nat) : LN.Bd 1048576 (ns.getD k 0) := by
  rw [List.getD_eq_getElem?_getD]
  cases e : ns[k]? with
  | none => exact Nat.two_pow_pos _
  | some m => exact h m (List.mem_of_getElem? e)
end L2
namespace L2
open PySem PySem.Spec PyProof.Rows
section
variable {X : Cx}
/-- * of numbers of up to 60 million bits -/
def CMulX (i j : Int) : Prop := LN.Bd 60000000 i ∧ LN.Bd 60000000 j
theorem CMulX.ok {i j : Int} (h : CMulX i j) : IntMulOk i j := by
  have h1 : Builtin.Int.intBits i ≤ 60000000 := intBits_le_iff.mpr h.1
  have h2 : Builtin.Int.intBits j ≤ 60000000 := intBits_le_iff.mpr h.2
  unfold IntMulOk
  have : Builtin.Int.intTooBig ((Builtin.Int.intBits i : Int) + (Builtin.Int.intBits j : Int)) = false := by
    unfold Builtin.Int.intTooBig bitsLine
    exact decide_eq_false (by omega)
  rw [this, Bool.and_false]
  exact Bool.false_ne_true
theorem op_mulX : OpR X (binaryOp .Mult) (rI CMulX fun i j => .int (i * j)) := opI fun _ _ _ _ _ _ _ hc q => mul_int q hc.ok
end
end L2
set_option Elab.async false
set_option linter.all false
set_option maxRecDepth 100000
namespace L2
namespace RT
open PySem PyProof.Rows
theorem owner_rv : Manifest.owners.lookup (String.ofList ['d', 'e', 's', 'r', 'e', 'v', 'e', 'r'].reverse) = some Manifest.sig_reversed := by kernel_rfl
theorem slot_next : Slot "reversed" "__next__" "reversed.__next__" :=
  .of (owner := "reversed") (n := "__next__") (by rw [typeLookup_type, builtinLookup_eq_fast]; kernel_rfl) (by decide +kernel) (by decide +kernel) (by decide +kernel)
    (by first | exact .inl (by decide +kernel) | exact .inr (by decide +kernel)) (by rw [isSubtype_type]; kernel_rfl)
theorem entry_next : entryFor table "reversed.__next__" = some Builtin.«reversed.__next__» := entryFor_of_tree (by kernel_rfl)
theorem args_next (a : Value) : argsOk "reversed.__next__" ⟨[a], []⟩ := by
  unfold argsOk; rw [signature?_of (id := "reversed.__next__") (n := ['_', '_', 't', 'x', 'e', 'n', '_', '_']) (o := ['d', 'e', 's', 'r', 'e', 'v', 'e', 'r']) (by kernel_rfl) owner_rv]; kernel_rfl
theorem slot_iter : Slot "reversed" "__iter__" "reversed.__iter__" :=
  .of (owner := "reversed") (n := "__iter__") (by rw [typeLookup_type, builtinLookup_eq_fast]; kernel_rfl) (by decide +kernel) (by decide +kernel) (by decide +kernel)
    (by first | exact .inl (by decide +kernel) | exact .inr (by decide +kernel)) (by rw [isSubtype_type]; kernel_rfl)
theorem args_iter (a : Value) : argsOk "reversed.__iter__" ⟨[a], []⟩ := by
  unfold argsOk; rw [signature?_of (id := "reversed.__iter__") (n := ['_', '_', 'r', 'e', 't', 'i', '_', '_']) (o := ['d', 'e', 's', 'r', 'e', 'v', 'e', 'r']) (by kernel_rfl) owner_rv]; kernel_rfl
theorem entry_iter : entryFor table "reversed.__iter__" = some Builtin.«dict_keyiterator.__iter__» :=
  entryFor_alias (id' := "dict_keyiterator.__iter__") (by kernel_rfl) (by first | rfl | decide +kernel | (unfold String.splitOn; simp +decide [String.splitOnAux])) (by decide +kernel) (by kernel_rfl)
def obj (t : Addr) (i : Int) : Obj := { cls := .type "reversed", data := .fields #[.ref t, rawInt i] }
section
variable {prog : Program} {w : World} {A : Around} {E : Value → Shared → Prop} {s : Shared}
end
end RT
open PySem PySem.Spec PyProof.Rows
section
variable {X : Cx} {tg : Expr}
end
end L2
set_option Elab.async false
set_option linter.all false
set_option maxRecDepth 100000
namespace L2
open PySem
/-! ### sums -/
end L2
set_option Elab.async false
set_option linter.all false
set_option maxRecDepth 100000
namespace L2
open PySem
/-! ### longer ones -/
end L2
set_option Elab.async false
set_option linter.all false
set_option maxRecDepth 100000
namespace HT
open PySem PyProof.Rows
open PySem.SeqAt
open PySem.AutoSeq1 (wpAny_loadPart')
open PySem.MeetsSeq PySem.MeetsSeq2 PySem.MeetsSeq3
section
variable {prog : Program} {w : World} {A : Around} {E : Value → Shared → Prop} {s : Shared}
end
end HT
namespace L2
open PySem PySem.Spec PyProof.Rows
section
variable {X : Cx}
end
end L2
set_option Elab.async false
set_option linter.all false
set_option maxRecDepth 100000
namespace L2
open PySem PySem.W PySem.Spec PyProof.Rows
/-! ### try, its body calls under tests -/
section
variable {X : Cx} {i : Nat} {C Dc : Addr} {y n : Str} {pos hpos np : Pos} {b0 : Stmt} {suite : List Stmt} {ts : Addr → TS}
/-- the exception that a call in the body raised is caught -/
theorem caught_as {pins : List (Addr × Obj)} {σ : St} {H1 : Hp} {s1 s' : Shared} {D : Ends} {ev : Value} (hst : X.stack = X.env :: X.outer) (hfr : X.env.frame = some X.env.locals) (hxe : ∀ ev s, X.xe ev s → False)
    (hgy : Gl X y) (hmy : X.mg y = some (.ref Dc)) (qy : PySem.W.excIn X.K Dc bmVE "ValueError.__new__" = true) (hCD : PySem.W.subIn X.K (.ref C) (.ref Dc) = some true)
    (hN : X.N.Nodup) (hi : X.N[i]? = some n) (hloc : X.env.kindOf n = some .local) (hex : X.ex = []) (hs : ∀ ea, QSs (X.marked (.ref ea)) (b0 :: suite) (ts ea)) (hdy : (y == ("__debug__" : Str)) = false)
    (J1 : Inv X pins σ H1 s1) (hq : CX2 X.prog X.w X.stack H1 s1 (fun cls _ H2 => cls = .ref C ∧ ∀ ea, H2 ea = none → ts ea (unb i D) (σ.set i (some (.ref ea))) (upd H2 ea (.ext (ExcX ea C)))) ev s') :
    (fun (e : Value) (s₁ : Shared) => wpAny (model X.prog X.w) X.A (noteFrame e X.env) (fun _ s₂ => wpAny (model X.prog X.w) X.A (setFlight e none) (fun _ s₃ => wpAny (model X.prog X.w) X.A (handleBy e X.env [.ExceptHandler (some (.Name y np)) (some n) (b0 :: suite) hpos]) (SP X pins D) X.xe s₃) X.xe s₂) X.xe s₁) ev s' := by
  have I := J1
  obtain ⟨ea, T, cls, H', rfl, os, bare, un, hok, fl, rfl, q⟩ := hq
  obtain ⟨hh, g, d, tk, os'⟩ := s'
  obtain rfl : os' = s1.os := os
  have I2 : Inv X pins σ H' { s1 with heap := hh, gens := g, drawn := d, toks := tk } := J1.call (h' := hh) (g' := g) (d' := d) (t' := tk) (ch := []) un hok bare (fun b z => nomatch z)
  have noneS : ∀ b ∈ [ea, T], s1.heap.get? b = none := fun b hb => by
    rcases List.mem_cons.mp hb with r | r
    · rw [r]; exact fl.e0
    · rw [List.mem_singleton.mp r]; exact fl.t0
  have noneH : ∀ b ∈ [ea, T], H' b = none := fun b hb => by
    rcases List.mem_cons.mp hb with r | r
    · rw [r]; exact fl.eH
    · rw [List.mem_singleton.mp r]; exact fl.tH
  have go : ∀ h5, Wind [ea, T] (frs X.stack) hh h5 → Inv X pins σ H' { s1 with heap := h5, gens := g, drawn := d, toks := tk } := fun h5 L =>
    J1.call (h' := h5) (g' := g) (d' := d) (t' := tk) (ch := []) (un_wind un L noneS) (L.hok (fun b hb => (I2.frOk b hb).1) noneH hok) bare (fun b z => nomatch z)
  refine note_next (s := { s1 with heap := hh, gens := g, drawn := d, toks := tk }) (L := X.env.locals) (env := X.env) (outer := X.outer) (base := X.base) (by rw [← hst]; exact I.ok.frames) (by rw [← hst]; exact I2.stack) hfr fl.air fun h4 T4 f4 a4 w4 => ?_
  refine set_none2 (s := { s1 with heap := h4, gens := g, drawn := d, toks := tk }) a4 fun h5 a5 w5 => ?_
  rw [← hst] at w4
  have w45 : Wind [T4] (frs X.stack) h4 h5 := ⟨fun b o q n _ => w5.keep b o q n (by simp), w5.slot⟩
  have fresh4 : ∀ b o, hh.get? b = some o → b ∈ [T4] → b ∈ [ea, T] := fun b o y z => by
    obtain rfl := List.mem_singleton.mp z
    rw [show hh.get? b = none from f4] at y
    cases y
  have w05 := w4.trans (cs := [ea, T]) w45 (by simp) fresh4
  have I5 := go h5 w05
  obtain ⟨⟨ob, us5, _, _, hob, hobc, _⟩, _⟩ := id a5
  refine wpAny_handleBy_cons (codeAny_handlers_test (ld_glob (X := X.marked (.ref ea)) I5.marked hgy hmy ?_ hdy)) (by intro q; cases q)
  obtain ⟨tl, N, nm, qn, bs, hdct, sn, sub, ab, col, dd, k0, k1, k2, k3, k5, mN, hC, hN', hni, TL⟩ := (own_cls (h := X.base) I.ok.mod.kin hmy qy).obj
  refine exc_matches2 I5.kIn (I5.bk _ _ hC) (TL.hasType (by decide +kernel)) hob hobc hCD (codeAny_handlers_suite_as ?_)
  refine set_none2 (s := { s1 with heap := h5, gens := g, drawn := d, toks := tk }) a5 fun h6 a6 w6 => ?_
  have w56 : Wind [T4] (frs X.stack) h5 h6 := ⟨fun b o q n _ => w6.keep b o q n (by simp), w6.slot⟩
  have w06 := w05.trans (cs := [ea, T]) w56 (by simp) fresh4
  have I6 := go h6 w06
  -- the exception is told of
  have out1 : ∀ b o, s1.heap.get? b = some o → b ≠ ea := fun b o z y => by rw [y, fl.e0] at z; cases z
  have x6 : ExcX ea C h6 := by
    obtain ⟨⟨o6, v6, _, _, z1, z2, z3, _, z4, _⟩, _⟩ := a6
    exact ⟨o6, v6, z1, z2, z3, z4⟩
  have I7 : Inv X pins σ (upd H' ea (.ext (ExcX ea C))) { s1 with heap := h6, gens := g, drawn := d, toks := tk } := by
    refine I6.track fl.eH ?_ ?_ (fun x c z => ?_) (fun p z => ?_) (excX_ok x6)
    · cases z : X.s₀.heap.get? ea with
      | none => rfl
      | some o =>
        obtain ⟨o', z'⟩ := J1.base.there ea o z (by rw [hex]; simp)
        exact absurd rfl (out1 ea o' z')
    · obtain ⟨m, ⟨o, _, _, ho, _⟩, _⟩ := J1.loc
      exact Ne.symm (out1 _ o ho)
    · obtain ⟨v, o, ho, _⟩ := J1.cell x c z
      exact out1 c o ho
    · obtain ⟨q1, _⟩ := J1.pin p z
      exact out1 p.1 p.2 q1
  refine store_ok (X := X.marked (.ref ea)) (E := _) I7.marked hN hi (.inl hloc) (v := .ref ea) rfl (fun s8 I8 => ?_) (.inr hloc)
  refine wpAny_mono ((hs ea).ok pins s8 _ _ (unb i D) I8 (q ea fl.eH)) (fun f9 s9 q9 => ?_) fun ev s' z => (hxe ev s' z).elim
  have J9 := SP.unmarked I.ok q9
  cases f9 with
  | next => obtain ⟨σ', H9, I9, q9⟩ := J9; exact goes_ok I9 hN hi hloc fun s' I' => ⟨_, _, I', q9⟩
  | brk => obtain ⟨σ', H9, I9, q9⟩ := J9; exact goes_ok I9 hN hi hloc fun s' I' => ⟨_, _, I', q9⟩
  | cont => obtain ⟨σ', H9, I9, q9⟩ := J9; exact goes_ok I9 hN hi hloc fun s' I' => ⟨_, _, I', q9⟩
  | ret u => obtain ⟨v, σ', H9, I9, r9, q9⟩ := J9; exact goes_ok I9 hN hi hloc fun s' I' => ⟨v, _, _, I', r9, q9⟩
/-- statements of a try's body: what they do, and which exceptions leave them -/
structure QX (X : Cx) (sts : List Stmt) (tx : (St → Hp → Prop) → (St → XK) → St → Hp → Prop) : Prop where
  ok : ∀ (pins : List (Addr × Obj)) (s : Shared) (σ : St) (H : Hp) (D : Ends) (E : St → XK) (Eb : Value → Shared → Prop), (∀ σ1 H1 s1 ev s', Inv X pins σ1 H1 s1 → CX2 X.prog X.w X.stack H1 s1 (E σ1) ev s' → Eb ev s') →
    Inv X pins σ H s → tx D.nx E σ H → wpAny (model X.prog X.w) X.A (execs sts X.env) (SP X pins D) Eb s
theorem execs_one {st : Stmt} {pins : List (Addr × Obj)} {D : Ends} {Eb : Value → Shared → Prop} {s : Shared} (h : wpAny (model X.prog X.w) X.A (exec st X.env) (SP X pins D) Eb s) : wpAny (model X.prog X.w) X.A (execs [st] X.env) (SP X pins D) Eb s := by
  refine wpAny_execs_cons (wpAny_mono (Q := SP X pins D) h (fun fl s1 q => ?_) fun _ _ z => z)
  cases fl with
  | next => exact wpAny_execs_nil q
  | ret v => exact q
  | brk => exact q
  | cont => exact q
def xCall (sp : Sp) (dvs : List V) (t : TA) : (St → Hp → Prop) → (St → XK) → St → Hp → Prop := fun nx E σ H => t σ H fun vs H1 => sp (vs ++ dvs) H1 (fun _ H2 => nx σ H2) (E σ)
theorem qx_call {k : Nat} {f : Addr} {fd : FuncData} {ps : List Str} {sp : Sp} {dvs : List V} {ds : List Value} {x : Str} {p cpos epos : Pos} {e : Expr} {es : List Expr} {t : TA} (F : FnOk X.prog X.w X.K X.mg X.base (CX2 X.prog X.w) k f fd ps sp) (hr : Room k X.A) (hg : Gl X x) (hm : X.mg x = some (.ref f)) (hk : PySem.W.keepIn X.K (.ref f) = true) (hb : Binds X.K fd ps ds) (hd : Vals dvs ds)
    (ha : ∀ Eb, QA (X.wish Eb) (e :: es) t)
    (he : starEach (e :: es) X.env = (false, eval e X.env) :: starEach es X.env := by rfl) (hpl : (backTo cpos (starEach es X.env)).any (·.1) = false := by rfl) (hdb : (x == ("__debug__" : Str)) = false := by decide)
    (hsw : swapsWith (.Call (.Name x p) (e :: es) [] cpos) none epos.line X.env = pure false := by rfl) :
    QX X [.Expr (.Call (.Name x p) (e :: es) [] cpos) epos] (xCall sp dvs t) := ⟨by
  intro pins s σ H D E Eb hE I h
  have I0 := I.wish Eb
  refine execs_one (wpAny_Expr_any (Q := SP X pins D) ?_ I.quiet hsw)
  refine wpAny_Call_Name_kw (ld_glob I hg hm ?_ hdb)
  refine PySem.W.callWith_K (h₀ := X.base) I.ok.mod.kin hk (thn ((ha Eb).ok cpos pins s σ H _ I0 h) fun us s1 ⟨vs, H1, I1, r, q⟩ => ⟨I1.kIn, ?_⟩) he hpl
  have r2 : Vals (vs ++ dvs) (us ++ ds) := r.append hd
  have hl : (us ++ ds).length = ps.length := by rw [← r2.length]; exact F.len _ _ _ _ q
  have J1 : Inv X pins σ H1 s1 := I1.unwish
  refine wpAny_call (codeAny_mono (F.run X.A X.stack s1 H1 ⟨us, []⟩ (us ++ ds) (vs ++ dvs) _ _ hr J1.env0 (hb s1 us J1.kIn hl) r2 q) fun r s' hq => ?_)
  cases r with
  | ok fl =>
    cases fl with
    | ret u =>
      obtain ⟨v, H2, I2, _, q2⟩ := J1.after hq
      exact ⟨σ, H2, I2, q2⟩
    | next => exact False.elim hq
    | brk => exact False.elim hq
    | cont => exact False.elim hq
  | error ev => exact hE σ H1 s1 ev s' J1 hq⟩
def xIf (tc : TT) (ta tb : (St → Hp → Prop) → (St → XK) → St → Hp → Prop) : (St → Hp → Prop) → (St → XK) → St → Hp → Prop := fun nx E σ H => tc σ H fun d H1 => if d = true then ta nx E σ H1 else tb nx E σ H1
theorem qx_if {c : Expr} {a b : List Stmt} {tc : TT} {ta tb : (St → Hp → Prop) → (St → XK) → St → Hp → Prop} (hc : ∀ Eb, QT (X.wish Eb) c tc) (ha : QX X a ta) (hb : QX X b tb) : QX X [.If c a b pos] (xIf tc ta tb) := ⟨by
  intro pins s σ H D E Eb hE I h
  refine execs_one (wpAny_If (thn ((hc Eb).ok pins s σ H _ (I.wish Eb) h) fun d s1 ⟨H1, I1, q1⟩ => ?_))
  have J1 : Inv X pins σ H1 s1 := I1.unwish
  cases d with
  | true => exact ha.ok pins s1 σ H1 D E Eb hE J1 q1
  | false => exact hb.ok pins s1 σ H1 D E Eb hE J1 q1⟩
def tTryX (tx : (St → Hp → Prop) → (St → XK) → St → Hp → Prop) (C : Addr) (i : Nat) (ts : Addr → TS) : TS := fun D σ H => tx D.nx (fun σ1 cls _ H2 => cls = .ref C ∧ ∀ ea, H2 ea = none → ts ea (unb i D) (σ1.set i (some (.ref ea))) (upd H2 ea (.ext (ExcX ea C)))) σ H
theorem qps_tryX {body : List Stmt} {tx : (St → Hp → Prop) → (St → XK) → St → Hp → Prop} (hx : QX X body tx) (hst : X.stack = X.env :: X.outer) (hfr : X.env.frame = some X.env.locals) (hxe : ∀ ev s, X.xe ev s → False)
    (hgy : Gl X y) (hmy : X.mg y = some (.ref Dc)) (qy : PySem.W.excIn X.K Dc bmVE "ValueError.__new__" = true) (hCD : PySem.W.subIn X.K (.ref C) (.ref Dc) = some true)
    (hN : X.N.Nodup) (hi : X.N[i]? = some n) (hloc : X.env.kindOf n = some .local) (hex : X.ex = []) (hs : ∀ ea, QSs (X.marked (.ref ea)) (b0 :: suite) (ts ea)) (hdy : (y == ("__debug__" : Str)) = false := by decide) :
    QS X (.Try body [.ExceptHandler (some (.Name y np)) (some n) (b0 :: suite) hpos] [] [] pos) (tTryX tx C i ts) := ⟨by
  intro pins s σ H D I h
  refine wpAny_Try_except ?_
  refine wpAny_mono (Q := SP X pins D) (hx.ok pins s σ H D _ _ (fun σ1 H1 s1 ev s' J1 hq => caught_as hst hfr hxe hgy hmy qy hCD hN hi hloc hex hs hdy J1 hq) I h) (fun fl s1 q => ?_) fun _ _ z => z
  cases fl with
  | next => exact wpAny_execs_nil q
  | ret v => exact q
  | brk => exact q
  | cont => exact q⟩
end
end L2
set_option Elab.async false
set_option linter.all false
set_option maxRecDepth 100000
/-! A LIST OR A TUPLE: isinstance(x, (list, tuple)), a walk, a slice. -/
namespace L2
open PySem PySem.Spec PyProof.Rows
section
variable {X : Cx}
end
end L2
set_option Elab.async false
set_option linter.all false
set_option maxRecDepth 100000
/-! ZIP OF TWO LISTS OR TUPLES, and enumerate of it: the steps. -/
namespace ZP
open PySem PySem.Builtin PyProof.Rows
section
variable {prog : Program} {w : World} {A : Around} {E : Value → Shared → Prop} {s : Shared}
def nm (tu : Bool) : String := if tu = true then "tuple_iterator" else "list_iterator"
/-! ### zip -/
/-! ### zip is made -/
end
end ZP
set_option Elab.async false
set_option linter.all false
set_option maxRecDepth 100000
/-! FOR OVER zip(a, b) and enumerate(zip(a, b)) -/
namespace ZP
open PySem PySem.Builtin PyProof.Rows
section
variable {prog : Program} {w : World} {A : Around} {E : Value → Shared → Prop} {s : Shared}
end
end ZP
namespace L2
open PySem PySem.Spec PyProof.Rows
section
variable {X : Cx} {pins : List (Addr × Obj)} {σ : St} {H : Hp} {s : Shared} {h' : Heap}
/-- untracked records of ours have turned -/
theorem Inv.turnedL {t' : Nat} {ch : List Addr} (I : Inv X pins σ H s) (k : ∀ b o, b ∉ ch → s.heap.get? b = some o → h'.get? b = some o) (hf : ∀ b ∈ ch, FpOk X pins H b) : Inv X pins σ H { s with heap := h', toks := t' } := by
  have nit : ∀ b u, H b = some u → b ∉ ch := fun b u e z => by rw [(hf b z).1] at e; cases e
  refine I.step (g' := s.gens) (d' := s.drawn) (ch := ch) (fun b hb => ?_) (fun b o _ _ hc e _ => k b o hc e) (fun b o _ _ hc e _ => ⟨o.slots, k b o hc e⟩) (fun _ _ _ _ n => n)
    (fun b o hc e => ⟨o, k b o hc e⟩) (fun _ _ e => e) (fun _ _ _ e => e) (fun b ps e => ⟨#[], by rw [e]; simp⟩) (fun m hm => ?_) (fun b u e => ?_) I.bare
  · obtain ⟨_, f1, _, f3, f4, f5⟩ := hf b hb
    exact ⟨f3, f1, f4, f5⟩
  · obtain ⟨o, es, ep, ho, r⟩ := hm
    exact ⟨o, es, ep, k _ o (fun z => (hf _ z).2.1 rfl) ho, r⟩
  · refine (I.hok b u e).stay (fun c v hc q => k c v ?_ q) (fun _ q => q) fun _ _ q => q
    rcases hc with z | z
    · rw [z]; exact nit b u e
    · exact nit c _ z
end
section
variable {X : Cx}
end
end L2
set_option Elab.async false
set_option linter.all false
set_option maxRecDepth 100000
namespace ZP
open PySem PySem.Builtin PyProof.Rows
section
variable {prog : Program} {w : World} {A : Around} {E : Value → Shared → Prop} {s : Shared}
end
end ZP
namespace L2
open PySem PySem.Spec PyProof.Rows
section
variable {X : Cx}
end
end L2
set_option Elab.async false
set_option linter.all false
set_option maxRecDepth 100000
namespace L2
open PySem PySem.Spec PyProof.Rows
/-! ### loops over zip, enumerate(zip) -/
/-! ### tuples put together -/
section
variable {X : Cx}
end
/-! ### where two part -/
/-! ### sums by figures -/
/-! ### opposites -/
end L2
set_option Elab.async false
set_option linter.all false
set_option maxRecDepth 100000
namespace L2
open PySem
/-! ### the doubt of a sum -/
end L2
set_option Elab.async false
set_option linter.all false
set_option maxRecDepth 100000
namespace L2
/-! ### primes divide a product only where they divide a factor -/
end L2
set_option Elab.async false
set_option linter.all false
set_option maxRecDepth 100000
/-! RANGES OF GREAT NUMBERS: a walk, and a list of them. -/
namespace L2
namespace LR
open PySem PyProof.Rows
set_option maxRecDepth 100000
theorem owner_lr : Manifest.owners.lookup (String.ofList ['r', 'o', 't', 'a', 'r', 'e', 't', 'i', '_', 'e', 'g', 'n', 'a', 'r', 'g', 'n', 'o', 'l'].reverse) = some Manifest.sig_longrange_iterator := by kernel_rfl
theorem slot_next : Slot "longrange_iterator" "__next__" "longrange_iterator.__next__" :=
  .of (owner := "longrange_iterator") (n := "__next__") (by rw [typeLookup_type, builtinLookup_eq_fast]; kernel_rfl) (by decide +kernel) (by decide +kernel) (by decide +kernel)
    (by first | exact .inl (by decide +kernel) | exact .inr (by decide +kernel)) (by rw [isSubtype_type]; kernel_rfl)
theorem entry_next : entryFor table "longrange_iterator.__next__" = some Builtin.«longrange_iterator.__next__» := entryFor_of_tree (by kernel_rfl)
theorem args_next (a : Value) : argsOk "longrange_iterator.__next__" ⟨[a], []⟩ := by
  unfold argsOk; rw [signature?_of (id := "longrange_iterator.__next__") (n := ['_', '_', 't', 'x', 'e', 'n', '_', '_']) (o := ['r', 'o', 't', 'a', 'r', 'e', 't', 'i', '_', 'e', 'g', 'n', 'a', 'r', 'g', 'n', 'o', 'l']) (by kernel_rfl) owner_lr]; kernel_rfl
theorem slot_iter : Slot "longrange_iterator" "__iter__" "longrange_iterator.__iter__" :=
  .of (owner := "longrange_iterator") (n := "__iter__") (by rw [typeLookup_type, builtinLookup_eq_fast]; kernel_rfl) (by decide +kernel) (by decide +kernel) (by decide +kernel)
    (by first | exact .inl (by decide +kernel) | exact .inr (by decide +kernel)) (by rw [isSubtype_type]; kernel_rfl)
theorem args_iter (a : Value) : argsOk "longrange_iterator.__iter__" ⟨[a], []⟩ := by
  unfold argsOk; rw [signature?_of (id := "longrange_iterator.__iter__") (n := ['_', '_', 'r', 'e', 't', 'i', '_', '_']) (o := ['r', 'o', 't', 'a', 'r', 'e', 't', 'i', '_', 'e', 'g', 'n', 'a', 'r', 'g', 'n', 'o', 'l']) (by kernel_rfl) owner_lr]; kernel_rfl
theorem entry_iter : entryFor table "longrange_iterator.__iter__" = some Builtin.«dict_keyiterator.__iter__» :=
  entryFor_alias (id' := "dict_keyiterator.__iter__") (by kernel_rfl) (by first | rfl | decide +kernel | (unfold String.splitOn; simp +decide [String.splitOnAux])) (by decide +kernel) (by kernel_rfl)
/-- an iterator over a range, a short or a long one -/
abbrev rn (lg : Bool) : String := if lg = true then "longrange_iterator" else "range_iterator"
def IsR (lg : Bool) (h : Heap) (it : Addr) (x left : Int) : Prop := h.get? it = some { cls := .type (rn lg), dict := none, data := .fields #[rawInt x, rawInt left, rawInt 1], slots := #[] }
section
variable {prog : Program} {w : World} {A : Around} {E : Value → Shared → Prop} {s : Shared}
theorem int_field {M : Model} {it : Addr} {x left step y : Int} {k : Nat} {id : String} {Q : Int → Shared → Prop} (hit : s.heap.get? it = some { cls := .type "longrange_iterator", dict := none, data := .fields #[rawInt x, rawInt left, rawInt step], slots := #[] })
    (hk : (#[rawInt x, rawInt left, rawInt step] : Array Value)[k]? = some (rawInt y)) (h : Q y s) : wpAny M A (Builtin.Iterators_pickling.intField id (.ref it) k) Q E s := by
  unfold Builtin.Iterators_pickling.intField
  refine wpAny_bind (wpAny_field hit rfl (x := rawInt y) hk ?_)
  exact wpAny_pure h
theorem next_long {it : Addr} {x left step : Int} {Q : Option Value → Shared → Prop} (hit : s.heap.get? it = some { cls := .type "longrange_iterator", dict := none, data := .fields #[rawInt x, rawInt left, rawInt step], slots := #[] }) (hleft : 0 < left)
    (hQ : ∀ h', h'.get? it = some { cls := .type "longrange_iterator", dict := none, data := .fields #[rawInt (x + step), rawInt (left - 1), rawInt step], slots := #[] } → Heap.SameBut it s.heap h' → Q (some (.int x s.toks)) { s with heap := h', toks := s.toks + 1 }) :
    wpAny (model prog w) A (pyNext (.ref it)) Q E s := by
  have hT : s.TypeIs (.ref it) "longrange_iterator" := ⟨_, hit, rfl⟩
  unfold pyNext
  refine wpAny_bind (wpAny_attempt (wpAny_callSpecial?_slot (name := Str.ofString "__next__") hT slot_next (wpAny_call_entry slot_next hT entry_next ?_ (args_next _))))
  unfold Builtin.«longrange_iterator.__next__»
  refine wpAny_bind (wpAny_of_eq (a := #[some (Value.ref it)]) (by first | rfl | kernel_rfl) ?_)
  show wpAny _ _ (Builtin.Iterators_pickling.intField _ (.ref it) 0 >>= _) _ _ _
  refine wpAny_bind (int_field hit (y := x) rfl ?_)
  refine wpAny_bind (int_field hit (y := left) rfl ?_)
  refine wpAny_bind (int_field hit (y := step) rfl ?_)
  dsimp only
  rw [if_neg (by omega)]
  refine wpAny_bind (wpAny_setField_rec hit (by simp) fun h₁ h1 s1 => ?_)
  replace h1 : h₁.get? it = some { cls := .type "longrange_iterator", dict := none, data := .fields #[rawInt (x + step), rawInt left, rawInt step], slots := #[] } := h1
  refine wpAny_bind (wpAny_setField_rec h1 (by simp) fun h₂ h2 s2 => ?_)
  replace h2 : h₂.get? it = some { cls := .type "longrange_iterator", dict := none, data := .fields #[rawInt (x + step), rawInt (left - 1), rawInt step], slots := #[] } := h2
  unfold retInt
  refine wpAny_bind (wpAny_mkInt ?_)
  exact wpAny_pure ⟨_, rfl, wpAny_pure (hQ h₂ h2 (s1.trans s2))⟩
theorem end_long {it : Addr} {x left step : Int} {Q : Option Value → Shared → Prop} (hh : A.handled = none) (hit : s.heap.get? it = some { cls := .type "longrange_iterator", dict := none, data := .fields #[rawInt x, rawInt left, rawInt step], slots := #[] }) (hleft : left ≤ 0)
    (hQ : ∀ h', Heap.ExtBut it s.heap h' → Q none { s with heap := h' }) : wpAny (model prog w) A (pyNext (.ref it)) Q E s := by
  have hT : s.TypeIs (.ref it) "longrange_iterator" := ⟨_, hit, rfl⟩
  unfold pyNext
  refine wpAny_bind (wpAny_attempt (wpAny_callSpecial?_slot (name := Str.ofString "__next__") hT slot_next (wpAny_call_entry slot_next hT entry_next ?_ (args_next _))))
  unfold Builtin.«longrange_iterator.__next__»
  refine wpAny_bind (wpAny_of_eq (a := #[some (Value.ref it)]) (by first | rfl | kernel_rfl) ?_)
  show wpAny _ _ (Builtin.Iterators_pickling.intField _ (.ref it) 0 >>= _) _ _ _
  refine wpAny_bind (int_field hit (y := x) rfl ?_)
  refine wpAny_bind (int_field hit (y := left) rfl ?_)
  refine wpAny_bind (int_field hit (y := step) rfl ?_)
  dsimp only
  rw [if_pos hleft]
  refine wpAny_bind (wpAny_rule ?_)
  show wpAny _ _ (newExc (.type "StopIteration") [] >>= _) _ _ _
  refine wpAny_bind ?_
  simp only [newExc, newTuple]
  refine wpAny_bind (wpAny_newObj_type ?_ (by size_fits))
  refine wpAny_bind (m := firstArgMember _ _) (wpAny_of_eq (a := Value.none) (by first | rfl | (simp only [firstArgMember]; rfl)) ?_)
  refine wpAny_newObj_type ?_ (by size_fits)
  simp only [raiseNew]
  refine wpAny_bind ?_
  refine wpAny_bind (wpAny_handled ?_)
  first | rw [show A.in1.handled = none from hh] | rw [hh]
  refine wpAny_bind (wpAny_pure (wpAny_throw ?_))
  refine wpAny_bind (wpAny_isInstance (T := "StopIteration") (b := true) ⟨_, Heap.get?_push_size _ rfl, rfl⟩ isSubtype_stop ?_)
  exact wpAny_pure (hQ _ (((Heap.SameBut.refl ..).extBut.push _).push _))
theorem next_any {lg : Bool} {it : Addr} {x left : Int} {Q : Option Value → Shared → Prop} (hit : IsR lg s.heap it x left) (hleft : 0 < left)
    (hQ : ∀ h', IsR lg h' it (x + 1) (left - 1) → Heap.SameBut it s.heap h' → Q (some (.int x s.toks)) { s with heap := h', toks := s.toks + 1 }) : wpAny (model prog w) A (pyNext (.ref it)) Q E s := by
  cases lg with
  | false => exact wpAny_pyNext_range_item hit hleft hQ
  | true => exact next_long hit hleft hQ
theorem end_any {lg : Bool} {it : Addr} {x left : Int} {Q : Option Value → Shared → Prop} (hh : A.handled = none) (hit : IsR lg s.heap it x left) (hleft : left ≤ 0)
    (hQ : ∀ h', Heap.ExtBut it s.heap h' → Q none { s with heap := h' }) : wpAny (model prog w) A (pyNext (.ref it)) Q E s := by
  cases lg with
  | false => exact wpAny_pyNext_range_end hh hit hleft hQ
  | true => exact end_long hh hit hleft hQ
theorem self_any {lg : Bool} {it : Addr} {x left : Int} {Q : Value → Shared → Prop} (hit : IsR lg s.heap it x left) (h : Q (.ref it) s) : wpAny (model prog w) A (pyIter (.ref it)) Q E s := by
  cases lg with
  | false => exact wpAny_pyIter_rangeiter hit h
  | true =>
    have hT : s.TypeIs (.ref it) "longrange_iterator" := ⟨_, hit, rfl⟩
    refine wpAny_pyIter_slot hT slot_iter (wpAny_call_entry slot_iter hT entry_iter ?_ (args_iter _))
    show wpAny _ _ (ret (.ref it)) _ _ s
    exact wpAny_pure ⟨_, rfl, "longrange_iterator", _, hT, slot_next.lookup, h⟩
end
end LR
open PySem PySem.Spec PyProof.Rows
section
variable {X : Cx} {tg : Expr}
/-! ### list(range(a, b)) -/
namespace LR
theorem walks (lg : Bool) {prog : Program} {w : World} {A : Around} (hh : A.handled = none) (I : Addr) (a : Int) (n : Nat) :
    Walks prog w A I [I] [I] n (fun i v => ∃ t, v = .int (a + (i : Int)) t) (fun i h => IsR lg h I (a + (i : Int)) ((n : Int) - (i : Int))) where
  sub := fun _ hb => hb
  frame := fun _ _ _ st hk => hk I (by simp) _ st
  item := fun i s Q E hi st hQ => by
    refine next_any st (by omega) fun h' hit' hs' => ?_
    refine hQ _ h' _ ⟨_, rfl⟩ ?_ fun b o hb e => hs'.extBut b o (fun h => hb (by simp [h])) e
    have e1 : a + ((i + 1 : Nat) : Int) = a + (i : Int) + 1 := by omega
    have e2 : (n : Int) - ((i + 1 : Nat) : Int) = (n : Int) - (i : Int) - 1 := by omega
    rw [e1, e2]
    exact hit'
  done := fun s Q E st hQ => end_any hh st (by omega) fun h' he' => hQ h' s.toks fun b o hb e => he' b o (fun h => hb (by simp [h])) e
  self := fun _ _ _ _ st hQ => self_any st hQ
section
variable {prog : Program} {w : World} {A : Around} {E : Value → Shared → Prop} {s : Shared}
end
end LR
end
end L2
set_option Elab.async false
set_option linter.all false
set_option maxRecDepth 100000
namespace L2
open PySem
/-! ### what a left number amounts to -/
/-! ### near, by division -/
/-! ### figures and multiples -/
end L2
namespace L2
end L2
set_option Elab.async false
set_option linter.all false
set_option maxRecDepth 100000
namespace L2
open PySem
/-! ### the worth of a left number, over a great power of the prime -/
def vl (p l : Int) (fs : List Int) : Int := un p fs * p ^ (l + 200).toNat
/-! ### congruences -/
/-! ### what begins_fraction and alike tell -/
end L2
set_option Elab.async false
set_option linter.all false
set_option maxRecDepth 100000
namespace L2
open PySem PySem.Spec PyProof.Rows
/-! ### the signs of a text, walked -/
section
variable {X : Cx} {tg : Expr}
end
section
variable {X : Cx}
/-! ### methods of a text -/
end
end L2
namespace L2
open PySem PySem.Spec PyProof.Rows
section
variable {X : Cx}
end
end L2
namespace L2
open PySem PySem.Spec PyProof.Rows
section
variable {X : Cx}
end
end L2
set_option Elab.async false
set_option linter.all false
set_option maxRecDepth 100000
namespace L2
open PySem PySem.Spec PyProof.Rows PySem.NumText
/-! ### words -/
/-! ### the text of a number -/
def tx (i : Int) : Str := Str.ofString (toString i)
/-! ### words joined, and parted again -/
/-! ### a left number read -/
end L2
namespace L2
open PySem PySem.Spec PyProof.Rows PySem.NumText
end L2
namespace L2
open PySem
end L2
namespace L2
open PySem
end L2
namespace L2
open PySem PySem.Spec PyProof.Rows PySem.NumText
end L2
set_option Elab.async false
set_option linter.all false
set_option maxRecDepth 100000
namespace L2
open PySem PySem.Spec PyProof.Rows PySem.NumText
end L2
set_option Elab.async false
set_option linter.all false
set_option maxRecDepth 100000
namespace L2
open PySem
/-! ### products -/
/-- where a product ends -/
def lastP (l : Int) (fs : List Int) (l' : Int) (fs' : List Int) : Int := l + l' + ((min fs.length fs'.length : Nat) : Int)
end L2
set_option Elab.async false
set_option linter.all false
set_option maxRecDepth 100000
namespace L2
open PySem PySem.Spec PyProof.Rows
section
variable {X : Cx}
/-- isinstance(e, (C, D, ..)), e an exception of none of these classes -/
def rInstXT (K : PySem.W.Frag) : List V → Hp → VK → Prop := fun xs H Q => ∃ (e C tp : Addr) (ds : List Addr), xs = [.ref e, .ref tp] ∧ H tp = some (.tup (ds.map V.ref)) ∧ ExH H e C ∧ XCls K C ∧ (∀ d ∈ ds, PySem.W.kitOne K (.ref C) (.ref d) = some false) ∧ Q (.bl false) H
theorem kit_none {K : PySem.W.Frag} {C : Addr} : ∀ {ds : List Addr}, (∀ d ∈ ds, PySem.W.kitOne K (.ref C) (.ref d) = some false) → PySem.W.kitAny K (.ref C) (ds.map Value.ref) = some false
  | [], _ => rfl
  | d :: ds, h => by
    have h1 := h d List.mem_cons_self
    have h2 := kit_none (ds := ds) fun d hd => h d (List.mem_cons_of_mem _ hd)
    simp only [List.map_cons, PySem.W.kitAny, h1, h2]
theorem vals_refs : ∀ {ds : List Addr} {us : List Value}, Vals (ds.map V.ref) us → us = ds.map Value.ref
  | [], _, .nil => rfl
  | d :: ds, _, .cons r rr => by
    rw [vals_refs rr, show _ = Value.ref d from r]
    rfl
theorem call_instXT : CallR X (.builtin "isinstance") (rInstXT X.K) := by
  intro pins s σ H xs us Q I r h
  obtain ⟨e, C, tp, ds, rfl, htp, ex, Z, k, q⟩ := h
  obtain ⟨u, c, rfl, ru, rc⟩ := vals2 r
  cases (show u = Value.ref e from ru)
  cases (show c = Value.ref tp from rc)
  obtain ⟨its, rv, ⟨o, ho, hc, n, hd⟩, _⟩ := I.tuple (SqT.of htp)
  cases vals_refs rv
  obtain ⟨oc, od, oD, osl⟩ := o
  cases hc
  cases hd
  obtain ⟨⟨o', vs, h1, h2, _⟩, _⟩ := (show ObjOk X.prog X.w H s.heap e (.ext (ExcX e C)) from I.hok e _ ex)
  exact PySem.W.kia_tup (kitx_exc Z) I.kIn ⟨o', h1, h2⟩ ho (kit_none k) (fun z => nomatch z) fun tk => ⟨.bl false, H, I.tok _, rfl, q⟩
end
end L2
set_option Elab.async false
set_option linter.all false
set_option maxRecDepth 100000
/-! a comprehension over a range while an exception is handled -/
namespace L2
open PySem PySem.W PySem.Spec PyProof.Rows
section
variable {prog : Program} {w : World} {A : Around} {E : Value → Shared → Prop} {s : Shared}
end
section
variable {X : Cx} {tg : Expr}
end
section
variable {ea : Addr} {X : Cx} {sc : Scope} {cl : List (Str × Addr)} {x : Str} {caps : List Str} {idx : List Nat} {wi : TI} {tt : TT} {te : TE} {elt iter : Expr} {ifs : List Expr} {pos px : Pos}
end
end L2
set_option Elab.async false
set_option linter.all false
set_option maxRecDepth 100000
namespace L2
open PySem PySem.Spec PyProof.Rows
section
variable {X : Cx}
end
end L2
set_option Elab.async false
set_option linter.all false
set_option maxRecDepth 100000
namespace L2
open PySem
/-! ### quotients -/
end L2
set_option Elab.async false
set_option linter.all false
set_option maxRecDepth 100000
namespace L2
open PySem
/-! ### powers -/
/-! ### by squares -/
/-! ### the doubt of a power -/
end L2
set_option Elab.async false
set_option linter.all false
set_option maxRecDepth 100000
namespace L2
open PySem
/-! ### scaled by a fraction -/
end L2
set_option Elab.async false
set_option linter.all false
set_option maxRecDepth 100000
namespace L2
open PySem
/-! ### fractions seen -/
end L2
set_option Elab.async false
set_option linter.all false
set_option maxRecDepth 100000
namespace L2
open PySem
/-! ### the algebra of quotients and powers -/
/-! ### handing in good ones -/
section
variable {K : PySem.W.Frag} {H : Hp} {a b U N : Addr} {p l l' : Int} {fs fs' : List Int} {Q : VK} {E : XK}
end
end L2
set_option Elab.async false
set_option linter.all false
set_option maxRecDepth 100000
namespace L2
open PySem
/-! ### what left numbers count from a place on -/
end L2
set_option Elab.async false
set_option linter.all false
set_option maxRecDepth 100000
namespace L2
open PySem
/-! ### powers part just there -/
end L2
set_option Elab.async false
set_option linter.all false
set_option maxRecDepth 100000
namespace L2
open PySem PySem.Spec PyProof.Rows
section
variable {X : Cx}
end
/-! ### numbers that the prime does not divide -/
end L2
set_option Elab.async false
set_option linter.all false
set_option maxRecDepth 100000
namespace L2
open PySem
/-! ### long division by a number that the prime does not divide -/
end L2
set_option Elab.async false
set_option linter.all false
set_option maxRecDepth 100000
namespace L2
open PySem
/-! ### the doubts of products, quotients and powers -/
/-! ### powers -/
end L2
set_option Elab.async false
set_option linter.all false
set_option maxRecDepth 100000
namespace L2
open PySem
/-! ### fractions found again -/
/-! ### the rows of Euclid's way -/
structure Rows (W u S r s v w : Int) : Prop where
  dr : W ∣ r - u * s
  dv : W ∣ v - u * w
  det : r * w - v * s = W ∨ r * w - v * s = -W
  sw : s * w ≤ 0
  big : S < r
  v0 : 0 ≤ v
  lt : v < r
end L2
set_option Elab.async false
set_option linter.all false
set_option maxRecDepth 100000
namespace L2
open PySem PySem.Spec PyProof.Rows
/-! ### == of things that are alike all the way down: tuples in tuples, numbers, texts -/
section
variable {X : Cx}
end
/-! ### what is told of a fraction sought -/
end L2
set_option Elab.async false
set_option linter.all false
set_option maxRecDepth 100000
namespace L2
open PySem
/-! ### found_again as this program does it: the rows of Euclid's way down to the size -/
end L2
set_option Elab.async false
set_option linter.all false
set_option maxRecDepth 100000
namespace L2
open PySem
/-! ### what found_again's answers are worth, for the laws that look at them -/
end L2
set_option Elab.async false
set_option linter.all false
set_option maxRecDepth 100000
namespace L2
open PySem
/-! ### a fraction, by its numbers without the prime -/
end L2
set_option Elab.async false
set_option linter.all false
set_option maxRecDepth 100000
namespace L2
open PySem PySem.Spec PyProof.Rows
/-! ### min(a list of whole numbers) -/
section
variable {X : Cx}
end
end L2
set_option Elab.async false
set_option linter.all false
set_option maxRecDepth 100000
namespace L2
open PySem
/-! ### polynomials: worths, and what comes where w + y is put for x -/
def ev : List Int → Int → Int
  | [], _ => 0
  | c :: L, x => c + x * ev L x
end L2
set_option Elab.async false
set_option linter.all false
set_option maxRecDepth 100000
namespace L2
open PySem
/-! ### how great the numbers of a shifted polynomial grow -/
/-- every number of a list is of at most so many bits -/
def bdL (N : Nat) (L : List Int) : Prop := ∀ c ∈ L, LN.Bd N c
end L2
namespace L2
open PySem
end L2
set_option Elab.async false
set_option linter.all false
set_option maxRecDepth 100000
namespace L2
open PySem
/-! ### a polynomial seen from a stem -/
end L2
namespace L2
open PySem
end L2
namespace L2
open PySem
end L2
set_option Elab.async false
set_option linter.all false
set_option maxRecDepth 100000
namespace L2
open PySem
/-! ### polynomials, of anything -/
theorem kind_list {K : PySem.W.Frag} {t : String} {i b u : Bool} (k : Kind t i b u) : PySem.W.kitOne K (.type t) (.type "list") = some (t == "list") := by
  cases k <;> rfl
def lastNot (zs : List V) : Bool := match zs.getLast? with | some (.int k) => !(k == 0) | _ => true
def polyB (zs : List V) : Bool := (decide (2 ≤ zs.length) && decide (zs.length ≤ 9)) && (zs.all isI && lastNot zs)
/-- b: whether the thing is a polynomial -/
def PolyB (K : PySem.W.Frag) (H : Hp) (v : V) (b : Bool) : Prop :=
  (b = false ∧ ∃ (t : String) (i b' u : Bool), Kind t i b' u ∧ TyOf K H v (.type t) ∧ (t == "list") = false) ∨ (∃ (a : Addr) (zs : List V), v = .ref a ∧ H a = some (.lst zs) ∧ zs.length ≤ 100 ∧ (∀ z ∈ zs, Thing K H z) ∧ b = polyB zs)
theorem polyB_good {L : List Int} {n : Nat} (h : L.length = n + 1) (n1 : 1 ≤ n) (n8 : n ≤ 8) (last : L.getLast? ≠ some 0) : polyB (L.map V.int) = true := by
  unfold polyB
  have e1 : (L.map V.int).all isI = true := List.all_eq_true.mpr fun v hv => by
    obtain ⟨i, _, rfl⟩ := List.mem_map.mp hv
    rfl
  have e2 : lastNot (L.map V.int) = true := by
    unfold lastNot
    rw [List.getLast?_map]
    cases e : L.getLast? with
    | none => rfl
    | some z =>
      rw [e] at last
      have : z ≠ 0 := fun h => last (by rw [h])
      show (!(z == 0)) = true
      simp [this]
  rw [e1, e2, List.length_map, decide_eq_true (by omega), decide_eq_true (by omega)]
  rfl
theorem PolyB.good {K : PySem.W.Frag} {H : Hp} {a : Addr} {L : List Int} {n : Nat} (ha : H a = some (.lst (L.map V.int))) (h : L.length = n + 1) (n1 : 1 ≤ n) (n8 : n ≤ 8) (last : L.getLast? ≠ some 0) : PolyB K H (.ref a) true :=
  .inr ⟨a, _, rfl, ha, by rw [List.length_map]; omega, (fun z hz => by obtain ⟨i, _, rfl⟩ := List.mem_map.mp hz; exact Thing.int _), (polyB_good h n1 n8 last).symm⟩
def spIsPoly (K : PySem.W.Frag) : Sp := fun vs H Q _ => ∃ (v : V) (b : Bool), vs = [v] ∧ PolyB K H v b ∧ ∀ H', Same H H' → Q (.bl b) H'
def spRefPoly (K : PySem.W.Frag) (C : Addr) : Sp := fun vs H Q E => ∃ (v : V) (b : Bool), vs = [v] ∧ PolyB K H v b ∧ (b = false → ∀ H', Same H H' → E (.ref C) none H') ∧ (b = true → ∀ H', Same H H' → Q .non H')
/-- the numbers of the slope -/
def slopeL (L : List Int) : List Int := (List.range (L.length - 1)).map fun i : Nat => ((i : Int) + 1) * L.getD (i + 1) 0
def spSlope (K : PySem.W.Frag) (C : Addr) : Sp := fun vs H Q E => ∃ (v : V) (b : Bool), vs = [v] ∧ PolyB K H v b ∧ (b = false → ∀ H', Same H H' → E (.ref C) none H') ∧
  (b = true → ∃ (a : Addr) (L : List Int), v = .ref a ∧ H a = some (.lst (L.map V.int)) ∧ bdL 100000 L ∧ ∀ (c : Addr) (H' : Hp), Same H H' → H c = none → H' c = some (.lst ((slopeL L).map V.int)) → Q (.ref c) H')
end L2
namespace L2
open PySem
/-- fraction(top, bottom) of whole numbers, the top of any size -/
def spFracI : Sp := fun vs H Q _ => ∃ t b : Int, vs = [.int t, .int b] ∧ b ≠ 0 ∧ LN.Bd 4000 b ∧ ∀ (a : Addr) (x y : Int) (H' : Hp), Same H H' → FrAt H' a x y → LN.Low t b x y → Q (.ref a) H'
/-- the worth at x / y, times the power of y -/
def homL : List Int → Int → Int → Int
  | [], _, _ => 0
  | [c], _, _ => c
  | c :: d :: L, x, y => homL (d :: L) x y * x + c * y ^ (L.length + 1)
theorem homL_one (x : Int) : ∀ L : List Int, homL L x 1 = ev L x
  | [] => rfl
  | [c] => by show c = c + x * 0; omega
  | c :: d :: L => by
    show homL (d :: L) x 1 * x + c * 1 ^ (L.length + 1) = c + x * ev (d :: L) x
    rw [homL_one x (d :: L), Int.one_pow, Int.mul_one, Int.mul_comm x]
    omega
def spWorthAt : Sp := fun vs H Q _ => ∃ (a t : Addr) (L : List Int) (x y : Int), vs = [.ref a, .ref t] ∧ H a = some (.lst (L.map V.int)) ∧ 1 ≤ L.length ∧ L.length ≤ 20 ∧ bdL 10000 L ∧ H t = some (.tup [.int x, .int y]) ∧ y ≠ 0 ∧ LN.Bd 200 x ∧ LN.Bd 200 y ∧
  ∀ (c : Addr) (X Y : Int) (H' : Hp), Same H H' → FrAt H' c X Y → LN.Low (homL L x y) (y ^ (L.length - 1)) X Y → Q (.ref c) H'
theorem slope_len (M : List Int) : (slopeL M).length = M.length - 1 := by unfold slopeL; rw [List.length_map, List.length_range]
end L2
set_option Elab.async false
set_option linter.all false
set_option maxRecDepth 100000
namespace L2
open PySem
/-! ### how many stems of a tree go on: roots by the prime, with how often each is one -/
end L2
set_option Elab.async false
set_option linter.all false
set_option maxRecDepth 100000
namespace L2
open PySem
/-! ### the tree -/
end L2
set_option Elab.async false
set_option linter.all false
set_option maxRecDepth 100000
namespace L2
open PySem
end L2
set_option Elab.async false
set_option linter.all false
set_option maxRecDepth 100000
namespace L2
open PySem
end L2
namespace L2
open PySem
end L2
set_option Elab.async false
set_option linter.all false
set_option maxRecDepth 100000
namespace L2
open PySem
/-! ### what the words of a tree's rows say -/
/-- the slope's worth, number by number -/
def evk (k : Int) : List Int → Int → Int
  | [], _ => 0
  | c :: L, x => k * c + x * evk (k + 1) L x
def dv (c : Int) : List Int → Int
  | [] => 0
  | _ :: L => evk 1 L c
end L2
namespace L2
open PySem
end L2
set_option Elab.async false
set_option linter.all false
set_option maxRecDepth 100000
namespace L2
open PySem PySem.Spec PyProof.Rows
section
variable {X : Cx} {tg : Expr}
end
section
variable {X : Cx} {tg a b c : Expr} {t : TA} {p pos : Pos}
end
end L2
set_option Elab.async false
set_option linter.all false
set_option maxRecDepth 100000
namespace L2
open PySem
/-! ### a root carried on: both it and what brings the slope back to 1 are right to twice as many figures -/
end L2
namespace L2
open PySem
end L2
set_option Elab.async false
set_option linter.all false
set_option maxRecDepth 100000
namespace L2
open PySem
/-! ### the words on the way to a stem -/
end L2
namespace L2
open PySem
end L2
set_option Elab.async false
set_option linter.all false
set_option maxRecDepth 100000
namespace L2
open PySem
end L2
set_option Elab.async false
set_option linter.all false
set_option maxRecDepth 100000
namespace L2
open PySem
end L2
namespace L2
open PySem
end L2
namespace L2
open PySem
end L2
set_option Elab.async false
set_option linter.all false
set_option maxRecDepth 100000
namespace L2
open PySem
theorem last_getD {fs : List Int} (f1 : 1 ≤ fs.length) : fs = fs.dropLast ++ [fs.getD (fs.length - 1) 0] := by
  have ne : fs ≠ [] := fun z => by rw [z] at f1; exact absurd f1 (by decide)
  have eg : fs.getLast ne = fs.getD (fs.length - 1) 0 := by
    have := List.getLast?_eq_getElem? (l := fs)
    rw [List.getElem?_eq_getElem (by omega), List.getLast?_eq_some_getLast ne] at this
    rw [List.getD_eq_getElem?_getD, List.getElem?_eq_getElem (by omega)]
    exact Option.some.inj this
  rw [← eg]
  exact (List.dropLast_concat_getLast ne).symm
end L2
namespace L2
open PySem
end L2
set_option Elab.async false
set_option linter.all false
set_option maxRecDepth 100000
namespace L2
open PySem
end L2
namespace L2
open PySem
end L2
set_option Elab.async false
set_option linter.all false
set_option maxRecDepth 100000
namespace L2
open PySem
/-- the worth of a list of numbers in two, to a degree -/
def wH : Nat → List Int → Int → Int → Int
  | _, [], _, _ => 0
  | N, c :: L, x, y => c * y ^ N + x * wH (N - 1) L x y
theorem homL_w (x y : Int) : ∀ L : List Int, homL L x y = wH (L.length - 1) L x y
  | [] => rfl
  | [c] => by show c = c * y ^ 0 + x * 0; rw [Int.pow_zero]; omega
  | c :: d :: L => by
    show homL (d :: L) x y * x + c * y ^ (L.length + 1) = c * y ^ (L.length + 1) + x * wH (L.length + 1 - 1) (d :: L) x y
    rw [homL_w x y (d :: L), Int.mul_comm x, Int.add_comm]
    rfl
theorem wH_zero (x y : Int) : ∀ k N : Nat, wH N (List.replicate k 0) x y = 0
  | 0, _ => rfl
  | k + 1, N => by
    show 0 * y ^ N + x * wH (N - 1) (List.replicate k 0) x y = 0
    rw [wH_zero x y k, Int.zero_mul, Int.mul_zero]
    rfl
theorem wH_set {x y u v : Int} : ∀ {L : List Int} {i N : Nat}, L[i]? = some u → wH N (L.set i (u + v)) x y = wH N L x y + v * x ^ i * y ^ (N - i)
  | [], _, _, h => by cases h
  | c :: L, 0, N, h => by
    have h : some c = some u := h; cases h
    show (u + v) * y ^ N + x * wH (N - 1) L x y = u * y ^ N + x * wH (N - 1) L x y + v * x ^ 0 * y ^ (N - 0)
    rw [Int.pow_zero, Nat.sub_zero]
    grind
  | c :: L, i + 1, N, h => by
    show c * y ^ N + x * wH (N - 1) (L.set i (u + v)) x y = c * y ^ N + x * wH (N - 1) L x y + v * x ^ (i + 1) * y ^ (N - (i + 1))
    rw [wH_set (L := L) (i := i) h, Int.pow_succ, show N - 1 - i = N - (i + 1) by omega]
    grind
theorem wH_take {x y u : Int} : ∀ {L : List Int} {j N : Nat}, L[j]? = some u → wH N (L.take (j + 1)) x y = wH N (L.take j) x y + u * x ^ j * y ^ (N - j)
  | [], _, _, h => by cases h
  | c :: L, 0, N, h => by
    have h : some c = some u := h; cases h
    show u * y ^ N + x * 0 = 0 + u * x ^ 0 * y ^ (N - 0)
    rw [Int.pow_zero, Nat.sub_zero]
    grind
  | c :: L, j + 1, N, h => by
    show c * y ^ N + x * wH (N - 1) (L.take (j + 1)) x y = c * y ^ N + x * wH (N - 1) (L.take j) x y + u * x ^ (j + 1) * y ^ (N - (j + 1))
    rw [wH_take (L := L) (j := j) h, Int.pow_succ, show N - 1 - j = N - (j + 1) by omega]
    grind
end L2
set_option Elab.async false
set_option linter.all false
set_option maxRecDepth 100000
namespace L2
open PySem
theorem PolyB.same {K : PySem.W.Frag} {H H' : Hp} {v : V} {b : Bool} (h : PolyB K H v b) (g : Same H H') : PolyB K H' v b := by
  rcases h with ⟨e, t, i, b', u, kd, ty, nl⟩ | ⟨a, zs, e, ha, l, th, eb⟩
  · exact .inl ⟨e, t, i, b', u, kd, ty.same g, nl⟩
  · exact .inr ⟨a, zs, e, g _ _ ha, l, fun z hz => (th z hz).same g, eb⟩
section
variable {K : PySem.W.Frag} {C1 C2 C3 C4 : Addr} {H : Hp} {pv v dv sv lv : V} {b : Bool} {p : Int}
end
end L2
set_option Elab.async false
set_option linter.all false
set_option maxRecDepth 100000
namespace HT
open PySem PySem.Builtin PyProof.Rows
end HT
namespace L2
open PySem PySem.Spec PyProof.Rows
end L2
set_option Elab.async false
set_option linter.all false
set_option maxRecDepth 100000
namespace L2
open PySem
end L2
namespace L2
open PySem
section
variable {K : PySem.W.Frag} {H : Hp} {D : Addr} {xs ys : List V} {v : V}
end
end L2
namespace L2
open PySem
end L2
set_option Elab.async false
set_option linter.all false
set_option maxRecDepth 100000
namespace L2
open PySem PySem.Spec PyProof.Rows
/-- the items of a list, each with its number -/
def Iel (K : PySem.W.Frag) (a : Addr) (xs : List V) : It :=
  ⟨fun i H => SqL K H a xs ∧ i < xs.length, fun i H x H' => ∃ (T : Addr) (v : V), x = .ref T ∧ H T = none ∧ xs[i]? = some v ∧ H' = upd H T (.tup [.int (i : Int), v]), fun i H => SqL K H a xs ∧ xs.length ≤ i⟩
theorem turn_enumL {P : Program} {w : World} {K : PySem.W.Frag} {elts : List Expr} {k0 : Nat} {pt : Pos} (a e it : Addr) (xs : List V) (ne : e ≠ it) : Turn P w K (.Tuple elts k0 pt) (Iel K a xs) [e, it] e (fun i h => h.IsListIter it a i ∧ ∃ old, IsEnum h e it i old) where
  mem := by simp
  obj := fun i h st b hb => by
    obtain ⟨⟨o, eo, c, d⟩, old, he⟩ := st
    rcases List.mem_cons.mp hb with rfl | hb
    · exact ⟨_, he, fun v z => nomatch z⟩
    · obtain rfl := List.mem_singleton.mp hb
      exact ⟨o, eo, fun v z => by rw [d] at z; cases z⟩
  keep := fun i h h' st k => by
    obtain ⟨st, old, he⟩ := st
    exact ⟨st.at fun o e' => k it (by simp) o e', old, k e (by simp) _ he⟩
  item := by
    intro X hP hw hK hc i pins s σ H E I hf st hg
    subst hP hw hK
    obtain ⟨st, old, he⟩ := st
    obtain ⟨q1, hi⟩ := hg
    obtain ⟨its, rv, p1, _⟩ := I.list q1
    obtain ⟨u, hu, ru⟩ := rv.get (List.getElem?_eq_getElem hi)
    refine wpAny_pyNext_enum_item he st p1.isList (x := u) (by simpa using hu) ne fun h' ho st' hp hsz hk => ?_
    have fr : H s.heap.objs.size = none := I.hok.fresh (Nat.le_refl _)
    have lt : ∀ c ∈ [e, it], c < s.heap.objs.size := fun c hc => by
      rcases List.mem_cons.mp hc with rfl | hc
      · exact Heap.lt_size he
      · obtain rfl := List.mem_singleton.mp hc
        obtain ⟨o, eo, _⟩ := st
        exact Heap.lt_size eo
    have I1 := I.laid (a := s.heap.objs.size) (o := .tup [.int (i : Int), xs[i]]) (h' := s.heap.push { cls := .type "tuple", data := .seq #[.int i s.toks, u] }) (t' := s.toks) (fun _ _ e => Heap.get?_push_of_some _ e) (Nat.le_refl _)
      ⟨small (by show 2 ≤ 1000; decide), [.int i s.toks, u], .cons ⟨_, rfl⟩ (.cons ru .nil), ⟨_, Heap.get?_push_size _ rfl, rfl, _, rfl⟩⟩
    have hnone : ∀ c ∈ [e, it], upd H s.heap.objs.size (.tup [.int (i : Int), xs[i]]) c = none := fun c hc => by
      rw [upd_ne (Nat.ne_of_lt (lt c hc))]
      exact (hf c hc).1
    have I3 : ∀ h'' : Heap, (∀ c o, c ≠ e → h'.get? c = some o → h''.get? c = some o) → Inv X pins σ (upd H s.heap.objs.size (.tup [.int (i : Int), xs[i]])) { s with heap := h'', toks := s.toks + 1 } := by
      intro h'' kk
      have J := I1.turnedL (ch := [e, it]) (h' := h'') (t' := s.toks + 1) (fun c o hc e' => by
        simp only [List.mem_cons, List.not_mem_nil, or_false, not_or] at hc
        refine kk c o hc.1 ?_
        rcases Heap.get?_push_cases e' with ⟨rfl, rfl⟩ | e'
        · exact hp
        · exact hk c o hc.1 hc.2 e') (fun c hc => ⟨hnone c hc, (hf c hc).2⟩)
      exact J
    refine ⟨_, rfl, wpAny_letOwnedTupleGo_enum (s := { s with heap := h', toks := s.toks + 1 }) ho fun h'' he'' hs'' => ?_⟩
    replace hs'' : Heap.SameBut e h' h'' := hs''
    exact ⟨.ref s.heap.objs.size, _, I3 h'' (fun c o nc e' => hs''.extBut _ _ nc e'), rfl, ⟨_, _, rfl, fr, List.getElem?_eq_getElem hi, rfl⟩, ⟨st'.at fun o e' => hs''.extBut _ _ ne.symm e', _, he''⟩, hnone⟩
  done := by
    intro X hP hw hK hc i pins s σ H E I hf st hg
    subst hP hw hK
    obtain ⟨st, old, he⟩ := st
    obtain ⟨q1, hi⟩ := hg
    obtain ⟨its, rv, p1, _⟩ := I.list q1
    have e1 := rv.length
    refine wpAny_pyNext_enum_end (I.ok.hd hc) he st p1.isList (by simp; omega) fun h' eb => ⟨rfl, ?_⟩
    exact I.turnedL (ch := [e, it]) (t' := s.toks) (fun c o hc e' => by
      simp only [List.mem_cons, List.not_mem_nil, or_false, not_or] at hc
      exact eb c o hc.2 e') hf
  self := fun _ _ _ _ _ st h => by
    obtain ⟨_, old, he⟩ := st
    exact wpAny_pyIter_enum he h
section
variable {X : Cx}
def iEnumL (K : PySem.W.Frag) (ta : TA) : TI := fun σ H R => ta σ H fun vs H1 => ∃ (a : Addr) (xs : List V), vs = [.ref a] ∧ SqL K H1 a xs ∧ R (Iel K a xs) H1
theorem qpi_enumL {elts : List Expr} {k0 : Nat} {pt : Pos} {a : Expr} {ta : TA} {p2 pos2 : Pos} (hg2 : Gl X "enumerate") (hm2 : X.mg "enumerate" = none) (ha : QA X [a] ta)
    (hs3 : starEach [a] X.env = [(false, eval a X.env)] := by rfl) :
    QI X (.Tuple elts k0 pt) (.Call (.Name "enumerate" p2) [a] [] pos2) (iEnumL X.K ta) := ⟨by
  intro pins s σ H R I h
  refine Call_ (ld_blt I hg2 hm2 boot_enumerate (PyProof.Rows.callWith_type1 (thn (ha.ok pos2 pins s σ H _ I h) fun us s1 ⟨vs, H1, I1, r1, q1⟩ => ?_) hs3 rfl))
  obtain ⟨l, xs, e, q1, q⟩ := q1
  subst e
  obtain ⟨u, rfl, r2⟩ := vals1 r1
  cases (show u = Value.ref l from r2)
  obtain ⟨its, rv, p1, _⟩ := I1.list q1
  refine call_enumerate_list p1.isList fun h' he st hsz hk => ?_
  refine wpAny_pyIter_enum he ?_
  refine ⟨_, _, _, _, H1, rfl, I1.kept (t' := s1.toks) hk, turn_enumL l (s1.heap.objs.size + 1) s1.heap.objs.size xs (Nat.succ_ne_self _), ⟨st, _, he⟩, fun c hc => ?_, q⟩
  have hle : s1.heap.objs.size ≤ c := by
    simp only [List.mem_cons, List.not_mem_nil, or_false] at hc
    rcases hc with rfl | rfl
    · exact Nat.le_succ _
    · exact Nat.le_refl _
  exact I1.fpOk hle (I1.hok.fresh hle)⟩
theorem for_enumL {K : PySem.W.Frag} {a : Addr} {xs : List V} {g : TG} {tb : TS} {nx : St → Hp → Prop} {rt : VK} {σ : St} {H : Hp} (Pv : Nat → St → Hp → Prop) (h0 : Pv 0 σ H) (hl : ∀ i σ H, Pv i σ H → SqL K H a xs)
    (hs : ∀ i T v σ H, xs[i]? = some v → H T = none → Pv i σ H → g (.ref T) σ (upd H T (.tup [.int (i : Int), v])) fun σ2 H2 => tb { nx := Pv (i + 1), rt := rt, bk := nx, ct := Pv (i + 1) } σ2 H2) (hd : ∀ σ H, Pv xs.length σ H → nx σ H) :
    ∃ W : Nat → Nat → St → Hp → Prop, (∃ m, W 0 m σ H) ∧ ∀ i m σ H, W i m σ H →
      ((Iel K a xs).stop i H ∧ nx σ H) ∨ ((Iel K a xs).go i H ∧ ∃ N : St → Hp → Prop, (∀ σ' H', N σ' H' → ∃ m', m' < m ∧ W (i + 1) m' σ' H') ∧ ∀ x H', (Iel K a xs).yld i H x H' → g x σ H' fun σ2 H2 => tb { nx := N, rt := rt, bk := nx, ct := N } σ2 H2) := by
  refine ⟨fun i m σ H => m = xs.length - i ∧ i ≤ xs.length ∧ Pv i σ H, ⟨_, rfl, Nat.zero_le _, h0⟩, ?_⟩
  rintro i m σ H ⟨rfl, hi, p⟩
  have q := hl i σ H p
  by_cases hlt : i < xs.length
  · refine .inr ⟨⟨q, hlt⟩, Pv (i + 1), fun σ' H' p' => ⟨xs.length - (i + 1), by omega, rfl, hlt, p'⟩, fun x H' y => ?_⟩
    obtain ⟨T, v, rfl, hT, h1, rfl⟩ := y
    exact hs i T v σ H h1 hT p
  · have e : i = xs.length := by omega
    subst e
    exact .inl ⟨⟨q, Nat.le_refl _⟩, hd σ H p⟩
end
end L2
set_option Elab.async false
set_option linter.all false
set_option maxRecDepth 100000
namespace L2
open PySem PySem.Spec PyProof.Rows
section
variable {X : Cx}
/-- two lists of the same numbers -/
theorem Eqs.lstI {H : Hp} {a b : Addr} {ns : List Int} {k : Nat} (ha : SqL X.K H a (ns.map V.int)) (hb : SqL X.K H b (ns.map V.int)) : Eqs X (k + 1) H (.ref a) (.ref b) true := fun pins s σ A u v I hu rx ry => by
  cases (show u = Value.ref a from rx)
  cases (show v = Value.ref b from ry)
  by_cases hab : a = b
  · subst hab
    exact SeqAt.EqAt.same _
  · obtain ⟨its, r1, p1, _⟩ := I.list ha
    obtain ⟨its2, r2, p2, _⟩ := I.list hb
    have l1 : its.toArray.size = (ns.map V.int).length := by rw [List.size_toArray, ← r1.length]
    have l2 : its2.toArray.size = (ns.map V.int).length := by rw [List.size_toArray, ← r2.length]
    have main := SeqAt.RcAt.lists (A := A) (s := s) (e := fun _ => true) p1.isList p2.isList (by omega) (by omega) (fun j h1 h2 => by
      have hx : j < (ns.map V.int).length := by omega
      have e1 := item_rel r1 h1 hx
      have e2 := item_rel r2 h2 hx
      rw [List.getElem_map] at e1 e2
      have := eqAt_V (A := A.in1) (s := s) e1 e2 rfl rfl
      rwa [show eqV (V.int (ns[j]'(by rw [List.length_map] at hx; exact hx))) (V.int (ns[j]'(by rw [List.length_map] at hx; exact hx))) = true from beq_self_eq_true _] at this)
    rw [show (List.range its.toArray.size).all (fun _ => true) = true from List.all_eq_true.mpr fun _ _ => rfl] at main
    exact SeqAt.EqAt.of_refs hab main
/-- is not, of two truths -/
theorem op_isnotB : OpR X (compareOp .IsNot) (fun x y H Q => ∃ a b : Bool, x = .bl a ∧ y = .bl b ∧ Q (.bl (!decide (a = b))) H) := by
  intro pins s σ H x y v u Q I rx ry h
  obtain ⟨a, b, rfl, rfl, q⟩ := h
  cases (show v = Value.bool a from rx)
  cases (show u = Value.bool b from ry)
  refine wpAny_isNot_plain (by cases a <;> cases b <;> rfl) (fin_bl I q ?_)
  cases a <;> cases b <;> rfl
end
theorem evz_inj : ∀ {L M : List Int}, L.length = M.length → (∀ x : Int, x ≠ 0 → ev L x = ev M x) → L = M
  | [], [], _, _ => rfl
  | [], _ :: _, h, _ => absurd h (by simp)
  | _ :: _, [], h, _ => absurd h (by simp)
  | c :: L, d :: M, hl, h => by
    have h : ∀ x : Int, x ≠ 0 → c + x * ev L x = d + x * ev M x := h
    have e : c = d := by
      have h1 := h (((c - d).natAbs : Int) + 1) (by omega)
      have dv : (((c - d).natAbs : Int) + 1) ∣ c - d := ⟨ev M (((c - d).natAbs : Int) + 1) - ev L (((c - d).natAbs : Int) + 1), by rw [Int.mul_sub]; omega⟩
      by_cases z : c - d = 0
      · omega
      · have h2 := Int.natAbs_dvd_natAbs.mpr dv
        have h3 := Nat.le_of_dvd (by omega) h2
        omega
    subst e
    rw [evz_inj (L := L) (M := M) (Nat.succ.inj hl) fun x hx => Int.eq_of_mul_eq_mul_left hx (by have := h x hx; omega)]
end L2
namespace L2
open PySem PySem.Spec PyProof.Rows
/-- a statement from which no exception leaves, in a def that may raise -/
theorem qps_calm {X : Cx} {st : Stmt} {t : TS} (h : QS (X.wish fun _ _ => False) st t) : QS X st t := ⟨by
  intro pins s σ H D I q
  refine wpAny_mono (h.ok pins s σ H D (I.wish _) q) (fun fl s1 z => ?_) (fun _ _ z => z.elim)
  cases fl with
  | next => obtain ⟨σ', H', I', q'⟩ := z; exact ⟨σ', H', I'.unwish, q'⟩
  | brk => obtain ⟨σ', H', I', q'⟩ := z; exact ⟨σ', H', I'.unwish, q'⟩
  | cont => obtain ⟨σ', H', I', q'⟩ := z; exact ⟨σ', H', I'.unwish, q'⟩
  | ret u => obtain ⟨v, σ', H', I', r', q'⟩ := z; exact ⟨v, σ', H', I'.unwish, r', q'⟩⟩
end L2
set_option Elab.async false
set_option linter.all false
set_option maxRecDepth 100000
set_option maxHeartbeats 8000000
namespace K61
open PySem L2
def top (i : Nat) : Stmt := PySem.Challenge.pw_leftnumbers_k61_worths_slopes_products.main.body.getD i (.Pass ⟨0, 0, 0, 0⟩)
abbrev s_is_whole : Stmt := top 17
abbrev s_common_divisor : Stmt := top 19
abbrev s_fraction : Stmt := top 20
abbrev s_is_poly : Stmt := top 24
abbrev s_refuse_poly : Stmt := top 25
abbrev s_worth_at : Stmt := top 26
abbrev s_slope_of : Stmt := top 27
abbrev s_product_of : Stmt := top 28
abbrev s_l_cell_at : Stmt := top 30
abbrev s_l_whole : Stmt := top 31
abbrev s_l_number : Stmt := top 32
abbrev s_l_list : Stmt := top 33
abbrev s_l_divisor : Stmt := top 34
abbrev s_l_part : Stmt := top 35
abbrev s_l_worth_right : Stmt := top 36
abbrev s_l_row_right : Stmt := top 37
abbrev s_l_product : Stmt := top 38
abbrev s_l_odd : Stmt := top 39
abbrev s_l_refused : Stmt := top 40
abbrev s_law : Stmt := top 41
theorem sc_is_whole : FnScope ["thing"] ["thing"] (defScope s_is_whole) := ⟨rfl, rfl, rfl, by decide +kernel, rfl, by decide +kernel, by decide +kernel⟩
theorem sc_common_divisor : FnScope ["one", "other", "rest"] ["one", "other"] (defScope s_common_divisor) := ⟨rfl, rfl, rfl, by decide +kernel, rfl, by decide +kernel, by decide +kernel⟩
theorem sc_fraction : FnScope ["top", "bottom", "common"] ["top", "bottom"] (defScope s_fraction) := ⟨rfl, rfl, rfl, by decide +kernel, rfl, by decide +kernel, by decide +kernel⟩
theorem sc_is_poly : FnScope ["thing"] ["thing"] (defScope s_is_poly) := ⟨rfl, rfl, rfl, by decide +kernel, rfl, by decide +kernel, by decide +kernel⟩
theorem sc_refuse_poly : FnScope ["thing"] ["thing"] (defScope s_refuse_poly) := ⟨rfl, rfl, rfl, by decide +kernel, rfl, by decide +kernel, by decide +kernel⟩
theorem sc_worth_at : FnScope ["poly", "part", "top", "bottom", "number"] ["poly", "part"] (defScope s_worth_at) := ⟨rfl, rfl, rfl, by decide +kernel, rfl, by decide +kernel, by decide +kernel⟩
theorem sc_slope_of : FnScope ["poly"] ["poly"] (defScope s_slope_of) := ⟨rfl, rfl, rfl, by decide +kernel, rfl, by decide +kernel, by decide +kernel⟩
theorem sc_product_of : FnScope ["poly", "other", "numbers", "far", "number", "farther", "factor"] ["poly", "other"] (defScope s_product_of) := ⟨rfl, rfl, rfl, by decide +kernel, rfl, by decide +kernel, by decide +kernel⟩
theorem sc_l_cell_at : FnScope ["_law_script", "_law_k"] ["_law_script", "_law_k"] (defScope s_l_cell_at) := ⟨rfl, rfl, rfl, by decide +kernel, rfl, by decide +kernel, by decide +kernel⟩
theorem sc_l_whole : FnScope ["_law_found"] ["_law_found"] (defScope s_l_whole) := ⟨rfl, rfl, rfl, by decide +kernel, rfl, by decide +kernel, by decide +kernel⟩
theorem sc_l_number : FnScope ["_law_cell", "_law_rest"] ["_law_cell"] (defScope s_l_number) := ⟨rfl, rfl, rfl, by decide +kernel, rfl, by decide +kernel, by decide +kernel⟩
theorem sc_l_list : FnScope ["_law_cells", "_law_numbers"] ["_law_cells"] (defScope s_l_list) := ⟨rfl, rfl, rfl, by decide +kernel, rfl, by decide +kernel, by decide +kernel⟩
theorem sc_l_divisor : FnScope ["_law_one", "_law_other"] ["_law_one", "_law_other"] (defScope s_l_divisor) := ⟨rfl, rfl, rfl, by decide +kernel, rfl, by decide +kernel, by decide +kernel⟩
theorem sc_l_part : FnScope ["_law_top", "_law_bottom", "_law_share"] ["_law_top", "_law_bottom"] (defScope s_l_part) := ⟨rfl, rfl, rfl, by decide +kernel, rfl, by decide +kernel, by decide +kernel⟩
theorem sc_l_worth_right : FnScope ["_law_poly", "_law_part_here", "_law_top", "_law_bottom", "_law_due", "_law_by", "_law_number_here", "_law_found"] ["_law_poly", "_law_part_here"] (defScope s_l_worth_right) := ⟨rfl, rfl, rfl, by decide +kernel, rfl, by decide +kernel, by decide +kernel⟩
theorem sc_l_row_right : FnScope ["_law_found", "_law_due"] ["_law_found", "_law_due"] (defScope s_l_row_right) := ⟨rfl, rfl, rfl, by decide +kernel, rfl, by decide +kernel, by decide +kernel⟩
theorem sc_l_product : FnScope ["_law_one", "_law_other", "_law_due", "_law_k", "_law_m"] ["_law_one", "_law_other"] (defScope s_l_product) := ⟨rfl, rfl, rfl, by decide +kernel, rfl, by decide +kernel, by decide +kernel⟩
theorem sc_l_odd : FnScope ["_law_cell", "_law_far", "_law_some"] ["_law_cell"] (defScope s_l_odd) := ⟨rfl, rfl, rfl, by decide +kernel, rfl, by decide +kernel, by decide +kernel⟩
theorem sc_l_refused : FnScope ["_law_way", "_law_thing", "_law_poly", "_law_told", "e"] ["_law_way", "_law_thing", "_law_poly"] (defScope s_l_refused) := ⟨rfl, rfl, rfl, by decide +kernel, rfl, by decide +kernel, by decide +kernel⟩
theorem sc_law : FnScope ["_law_script", "_law_poly", "_law_k", "_law_part_here", "_law_truth", "_law_one", "_law_other", "_law_kept", "_law_slope", "_law_due", "_law_made", "_law_cell", "_law_thing"] ["_law_script"] (defScope s_law) := ⟨rfl, rfl, rfl, by decide +kernel, rfl, by decide +kernel, by decide +kernel⟩
set_option genInjectivity false
set_option genSizeOfSpec false
structure Txt (K : PySem.W.Frag) (mg : Str → Option Value) where
  f_is_whole : Addr
  d_is_whole : FuncData
  F_is_whole : Fun K "is_whole" "is_whole" s_is_whole f_is_whole d_is_whole
  b_is_whole : Binds K d_is_whole ["thing"] []
  m_is_whole : mg "is_whole" = some (.ref f_is_whole)
  k_is_whole : PySem.W.keepIn K (.ref f_is_whole) = true
  f_common_divisor : Addr
  d_common_divisor : FuncData
  F_common_divisor : Fun K "common_divisor" "common_divisor" s_common_divisor f_common_divisor d_common_divisor
  b_common_divisor : Binds K d_common_divisor ["one", "other"] []
  m_common_divisor : mg "common_divisor" = some (.ref f_common_divisor)
  k_common_divisor : PySem.W.keepIn K (.ref f_common_divisor) = true
  f_fraction : Addr
  d_fraction : FuncData
  F_fraction : FunD K "fraction" "fraction" s_fraction f_fraction d_fraction
  b_fraction : Binds K d_fraction ["top", "bottom"] []
  m_fraction : mg "fraction" = some (.ref f_fraction)
  k_fraction : PySem.W.keepIn K (.ref f_fraction) = true
  bd_fraction : ∃ us : List Value, Vals [.int 1] us ∧ Binds K d_fraction ["top", "bottom"] us
  f_is_poly : Addr
  d_is_poly : FuncData
  F_is_poly : Fun K "is_poly" "is_poly" s_is_poly f_is_poly d_is_poly
  b_is_poly : Binds K d_is_poly ["thing"] []
  m_is_poly : mg "is_poly" = some (.ref f_is_poly)
  k_is_poly : PySem.W.keepIn K (.ref f_is_poly) = true
  f_refuse_poly : Addr
  d_refuse_poly : FuncData
  F_refuse_poly : Fun K "refuse_poly" "refuse_poly" s_refuse_poly f_refuse_poly d_refuse_poly
  b_refuse_poly : Binds K d_refuse_poly ["thing"] []
  m_refuse_poly : mg "refuse_poly" = some (.ref f_refuse_poly)
  k_refuse_poly : PySem.W.keepIn K (.ref f_refuse_poly) = true
  f_worth_at : Addr
  d_worth_at : FuncData
  F_worth_at : Fun K "worth_at" "worth_at" s_worth_at f_worth_at d_worth_at
  b_worth_at : Binds K d_worth_at ["poly", "part"] []
  m_worth_at : mg "worth_at" = some (.ref f_worth_at)
  k_worth_at : PySem.W.keepIn K (.ref f_worth_at) = true
  f_slope_of : Addr
  d_slope_of : FuncData
  F_slope_of : Fun K "slope_of" "slope_of" s_slope_of f_slope_of d_slope_of
  b_slope_of : Binds K d_slope_of ["poly"] []
  m_slope_of : mg "slope_of" = some (.ref f_slope_of)
  k_slope_of : PySem.W.keepIn K (.ref f_slope_of) = true
  f_product_of : Addr
  d_product_of : FuncData
  F_product_of : Fun K "product_of" "product_of" s_product_of f_product_of d_product_of
  b_product_of : Binds K d_product_of ["poly", "other"] []
  m_product_of : mg "product_of" = some (.ref f_product_of)
  k_product_of : PySem.W.keepIn K (.ref f_product_of) = true
  f_l_cell_at : Addr
  d_l_cell_at : FuncData
  F_l_cell_at : Fun K "_law_cell_at" "_law_cell_at" s_l_cell_at f_l_cell_at d_l_cell_at
  b_l_cell_at : Binds K d_l_cell_at ["_law_script", "_law_k"] []
  m_l_cell_at : mg "_law_cell_at" = some (.ref f_l_cell_at)
  k_l_cell_at : PySem.W.keepIn K (.ref f_l_cell_at) = true
  f_l_whole : Addr
  d_l_whole : FuncData
  F_l_whole : Fun K "_law_whole" "_law_whole" s_l_whole f_l_whole d_l_whole
  b_l_whole : Binds K d_l_whole ["_law_found"] []
  m_l_whole : mg "_law_whole" = some (.ref f_l_whole)
  k_l_whole : PySem.W.keepIn K (.ref f_l_whole) = true
  f_l_number : Addr
  d_l_number : FuncData
  F_l_number : Fun K "_law_number" "_law_number" s_l_number f_l_number d_l_number
  b_l_number : Binds K d_l_number ["_law_cell"] []
  m_l_number : mg "_law_number" = some (.ref f_l_number)
  k_l_number : PySem.W.keepIn K (.ref f_l_number) = true
  f_l_list : Addr
  d_l_list : FuncData
  F_l_list : Fun K "_law_list" "_law_list" s_l_list f_l_list d_l_list
  b_l_list : Binds K d_l_list ["_law_cells"] []
  m_l_list : mg "_law_list" = some (.ref f_l_list)
  k_l_list : PySem.W.keepIn K (.ref f_l_list) = true
  f_l_divisor : Addr
  d_l_divisor : FuncData
  F_l_divisor : Fun K "_law_divisor" "_law_divisor" s_l_divisor f_l_divisor d_l_divisor
  b_l_divisor : Binds K d_l_divisor ["_law_one", "_law_other"] []
  m_l_divisor : mg "_law_divisor" = some (.ref f_l_divisor)
  k_l_divisor : PySem.W.keepIn K (.ref f_l_divisor) = true
  f_l_part : Addr
  d_l_part : FuncData
  F_l_part : Fun K "_law_part" "_law_part" s_l_part f_l_part d_l_part
  b_l_part : Binds K d_l_part ["_law_top", "_law_bottom"] []
  m_l_part : mg "_law_part" = some (.ref f_l_part)
  k_l_part : PySem.W.keepIn K (.ref f_l_part) = true
  f_l_worth_right : Addr
  d_l_worth_right : FuncData
  F_l_worth_right : Fun K "_law_worth_right" "_law_worth_right" s_l_worth_right f_l_worth_right d_l_worth_right
  b_l_worth_right : Binds K d_l_worth_right ["_law_poly", "_law_part_here"] []
  m_l_worth_right : mg "_law_worth_right" = some (.ref f_l_worth_right)
  k_l_worth_right : PySem.W.keepIn K (.ref f_l_worth_right) = true
  f_l_row_right : Addr
  d_l_row_right : FuncData
  F_l_row_right : Fun K "_law_row_right" "_law_row_right" s_l_row_right f_l_row_right d_l_row_right
  b_l_row_right : Binds K d_l_row_right ["_law_found", "_law_due"] []
  m_l_row_right : mg "_law_row_right" = some (.ref f_l_row_right)
  k_l_row_right : PySem.W.keepIn K (.ref f_l_row_right) = true
  f_l_product : Addr
  d_l_product : FuncData
  F_l_product : Fun K "_law_product" "_law_product" s_l_product f_l_product d_l_product
  b_l_product : Binds K d_l_product ["_law_one", "_law_other"] []
  m_l_product : mg "_law_product" = some (.ref f_l_product)
  k_l_product : PySem.W.keepIn K (.ref f_l_product) = true
  f_l_odd : Addr
  d_l_odd : FuncData
  F_l_odd : Fun K "_law_odd" "_law_odd" s_l_odd f_l_odd d_l_odd
  b_l_odd : Binds K d_l_odd ["_law_cell"] []
  m_l_odd : mg "_law_odd" = some (.ref f_l_odd)
  k_l_odd : PySem.W.keepIn K (.ref f_l_odd) = true
  f_l_refused : Addr
  d_l_refused : FuncData
  F_l_refused : Fun K "_law_refused" "_law_refused" s_l_refused f_l_refused d_l_refused
  b_l_refused : Binds K d_l_refused ["_law_way", "_law_thing", "_law_poly"] []
  m_l_refused : mg "_law_refused" = some (.ref f_l_refused)
  k_l_refused : PySem.W.keepIn K (.ref f_l_refused) = true
  t_FEWEST_NUMBERS : Tok
  m_FEWEST_NUMBERS : mg "FEWEST_NUMBERS" = some (.int 2 t_FEWEST_NUMBERS)
  t_MOST_NUMBERS : Tok
  m_MOST_NUMBERS : mg "MOST_NUMBERS" = some (.int 9 t_MOST_NUMBERS)
  a_LeftError : Addr
  m_LeftError : mg "LeftError" = some (.ref a_LeftError)
  a_NoPrime : Addr
  m_NoPrime : mg "NoPrime" = some (.ref a_NoPrime)
  a_NoFraction : Addr
  m_NoFraction : mg "NoFraction" = some (.ref a_NoFraction)
  a_NoPlace : Addr
  m_NoPlace : mg "NoPlace" = some (.ref a_NoPlace)
  a_NoFigures : Addr
  m_NoFigures : mg "NoFigures" = some (.ref a_NoFigures)
  a_NoText : Addr
  m_NoText : mg "NoText" = some (.ref a_NoText)
  a_Unlike : Addr
  m_Unlike : mg "Unlike" = some (.ref a_Unlike)
  a_NoQuotient : Addr
  m_NoQuotient : mg "NoQuotient" = some (.ref a_NoQuotient)
  a_NoPower : Addr
  m_NoPower : mg "NoPower" = some (.ref a_NoPower)
  a_TooFew : Addr
  m_TooFew : mg "TooFew" = some (.ref a_TooFew)
  a_NoSize : Addr
  m_NoSize : mg "NoSize" = some (.ref a_NoSize)
  a_NoPolynomial : Addr
  m_NoPolynomial : mg "NoPolynomial" = some (.ref a_NoPolynomial)
  a_NoDepth : Addr
  m_NoDepth : mg "NoDepth" = some (.ref a_NoDepth)
  a_NoRoot : Addr
  m_NoRoot : mg "NoRoot" = some (.ref a_NoRoot)
  a_NotNear : Addr
  m_NotNear : mg "NotNear" = some (.ref a_NotNear)
  x_NoFraction : PySem.W.excIn K a_NoFraction bmVE "ValueError.__new__" = true
  x_NoPolynomial : PySem.W.excIn K a_NoPolynomial bmVE "ValueError.__new__" = true
  x_LeftError : PySem.W.excIn K a_LeftError bmVE "ValueError.__new__" = true
  xc_NoPolynomial : XCls K a_NoPolynomial
  kt_NoPolynomial_NoPolynomial : PySem.W.kitOne K (.ref a_NoPolynomial) (.ref a_NoPolynomial) = some true
  kt_NoPolynomial_ValueError : PySem.W.kitOne K (.ref a_NoPolynomial) (.type "ValueError") = some true
  kt_NoPolynomial_NoPrime : PySem.W.kitOne K (.ref a_NoPolynomial) (.ref a_NoPrime) = some false
  kt_NoPolynomial_NoFraction : PySem.W.kitOne K (.ref a_NoPolynomial) (.ref a_NoFraction) = some false
  kt_NoPolynomial_NoPlace : PySem.W.kitOne K (.ref a_NoPolynomial) (.ref a_NoPlace) = some false
  kt_NoPolynomial_NoFigures : PySem.W.kitOne K (.ref a_NoPolynomial) (.ref a_NoFigures) = some false
  kt_NoPolynomial_NoText : PySem.W.kitOne K (.ref a_NoPolynomial) (.ref a_NoText) = some false
  kt_NoPolynomial_Unlike : PySem.W.kitOne K (.ref a_NoPolynomial) (.ref a_Unlike) = some false
  kt_NoPolynomial_NoQuotient : PySem.W.kitOne K (.ref a_NoPolynomial) (.ref a_NoQuotient) = some false
  kt_NoPolynomial_NoPower : PySem.W.kitOne K (.ref a_NoPolynomial) (.ref a_NoPower) = some false
  kt_NoPolynomial_TooFew : PySem.W.kitOne K (.ref a_NoPolynomial) (.ref a_TooFew) = some false
  kt_NoPolynomial_NoSize : PySem.W.kitOne K (.ref a_NoPolynomial) (.ref a_NoSize) = some false
  kt_NoPolynomial_NoDepth : PySem.W.kitOne K (.ref a_NoPolynomial) (.ref a_NoDepth) = some false
  kt_NoPolynomial_NoRoot : PySem.W.kitOne K (.ref a_NoPolynomial) (.ref a_NoRoot) = some false
  kt_NoPolynomial_NotNear : PySem.W.kitOne K (.ref a_NoPolynomial) (.ref a_NotNear) = some false
  sb_NoPolynomial : PySem.W.subIn K (.ref a_NoPolynomial) (.ref a_LeftError) = some true
  z_ValueError : mg "ValueError" = none
  z_abs : mg "abs" = none
  z_all : mg "all" = none
  z_bool : mg "bool" = none
  z_enumerate : mg "enumerate" = none
  z_int : mg "int" = none
  z_isinstance : mg "isinstance" = none
  z_len : mg "len" = none
  z_list : mg "list" = none
  z_max : mg "max" = none
  z_min : mg "min" = none
  z_range : mg "range" = none
  z_reversed : mg "reversed" = none
  z_tuple : mg "tuple" = none
theorem bd_small {n : Nat} {i : Int} (hn : 64 ≤ n) (h1 : -(2 ^ 63) ≤ i) (h2 : i ≤ 2 ^ 63) : LN.Bd n i :=
  LN.Bd.mono (m := 64) (LN.Bd.of_abs (b := 2 ^ 63) (by omega) (by omega) (by decide)) hn
theorem dsm {i j : Int} (h : 0 < j) (h2 : j ≤ 1000) : CDivB i j := ⟨h, bd_small (by decide) (by omega) (by omega)⟩
theorem e29 : (10 : Int) ^ (29 : Int).toNat = 100000000000000000000000000000 := by decide +kernel
theorem div_bd {N : Nat} {i j : Int} (h : LN.Bd N i) (hj : 0 < j) : LN.Bd N (i / j) := by
  refine h.of_le ?_
  have h1 := Int.natAbs_ediv_le_natAbs i j
  exact h1
def spProd67 : Sp := fun vs H Q _ => ∃ (a b : Addr) (xs ys : List Int) (N M : Nat), vs = [.ref a, .ref b] ∧ H a = some (.lst (xs.map V.int)) ∧ H b = some (.lst (ys.map V.int)) ∧ 1 ≤ xs.length ∧ xs.length ≤ 20 ∧ 1 ≤ ys.length ∧ ys.length ≤ 20 ∧ bdL N xs ∧ bdL M ys ∧ N ≤ 2000 ∧ M ≤ 2000 ∧ xs.getLast? ≠ some 0 ∧ ys.getLast? ≠ some 0 ∧
  ∀ (c : Addr) (zs : List Int) (H' : Hp), Same H H' → H c = none → H' c = some (.lst (zs.map V.int)) → zs.length = xs.length + ys.length - 1 → bdL (N + M + xs.length * ys.length) zs → zs.getLast? ≠ some 0 → (∀ X Y : Int, homL zs X Y = homL xs X Y * homL ys X Y) → Q (.ref c) H'
def spDiv67 : Sp := fun vs H Q _ => ∃ x y : Int, vs = [.int x, .int y] ∧ Q (.int ((Nat.gcd x.natAbs y.natAbs : Nat) : Int)) H
/-- product_of, of anything -/
def spProdOf (K : PySem.W.Frag) (C : Addr) : Sp := fun vs H Q E => ∃ (v1 v2 : V) (b1 b2 : Bool), vs = [v1, v2] ∧ PolyB K H v1 b1 ∧ PolyB K H v2 b2 ∧ (b1 = false → ∀ H', Same H H' → E (.ref C) none H') ∧ (b1 = true → b2 = false → ∀ H', Same H H' → E (.ref C) none H') ∧
  (b1 = true → b2 = true → ∃ (a b : Addr) (xs ys : List Int), v1 = .ref a ∧ v2 = .ref b ∧ H a = some (.lst (xs.map V.int)) ∧ H b = some (.lst (ys.map V.int)) ∧ 1 ≤ xs.length ∧ xs.length ≤ 20 ∧ 1 ≤ ys.length ∧ ys.length ≤ 20 ∧ bdL 2000 xs ∧ bdL 2000 ys ∧
    ∀ (c : Addr) (zs : List Int) (H' : Hp), Same H H' → H c = none → H' c = some (.lst (zs.map V.int)) → zs.length = xs.length + ys.length - 1 → (∀ X Y : Int, homL zs X Y = homL xs X Y * homL ys X Y) → Q (.ref c) H')
/-- a number by its cell -/
def numF (c : Int) : Int := if c % 4 = 1 then c / 4 * 982451653 % (2 * (10 : Int) ^ (12 : Int).toNat + 1) - (10 : Int) ^ (12 : Int).toNat else if c % 4 = 3 then c / 4 * 48271 % (2 * (10 : Int) ^ (59 : Int).toNat + 1) - (10 : Int) ^ (59 : Int).toNat else c / 4 % 19 - 9
theorem e12 : (10 : Int) ^ (12 : Int).toNat = 1000000000000 := by decide +kernel
theorem e59 : (10 : Int) ^ (59 : Int).toNat = 100000000000000000000000000000000000000000000000000000000000 := by decide +kernel
theorem numF_bd (c : Int) : LN.Bd 200 (numF c) := by
  unfold numF
  have h1 := Int.emod_nonneg (c / 4 * 982451653) (show 2 * (10 : Int) ^ (12 : Int).toNat + 1 ≠ 0 by rw [e12]; decide)
  have h2 := Int.emod_lt_of_pos (c / 4 * 982451653) (show (0 : Int) < 2 * (10 : Int) ^ (12 : Int).toNat + 1 by rw [e12]; decide)
  have h3 := Int.emod_nonneg (c / 4 * 48271) (show 2 * (10 : Int) ^ (59 : Int).toNat + 1 ≠ 0 by rw [e59]; decide)
  have h4 := Int.emod_lt_of_pos (c / 4 * 48271) (show (0 : Int) < 2 * (10 : Int) ^ (59 : Int).toNat + 1 by rw [e59]; decide)
  rw [e12] at h1 h2 ⊢
  rw [e59] at h3 h4 ⊢
  split
  · exact LN.Bd.of_abs (b := 1000000000000) (by omega) (by omega) (by decide +kernel)
  · split
    · exact LN.Bd.of_abs (b := 100000000000000000000000000000000000000000000000000000000000) (by omega) (by omega) (by decide +kernel)
    · exact LN.Bd.of_abs (b := 20) (by omega) (by omega) (by decide +kernel)
def spNum61 : Sp := fun vs H Q _ => ∃ c : Int, vs = [.int c] ∧ LN.Bd 1048576 c ∧ Q (.int (numF c)) H
def spList61 : Sp := fun vs H Q _ => ∃ (a : Addr) (cs : List Int), vs = [.ref a] ∧ H a = some (.lst (cs.map V.int)) ∧ 1 ≤ cs.length ∧ cs.length ≤ 9 ∧ (∀ c ∈ cs, LN.Bd 1048576 c) ∧
  ∀ (D : Addr) (xs : List Int) (H' : Hp), Same H H' → H D = none → H' D = some (.lst (xs.map V.int)) → xs.length = cs.length → bdL 200 xs → xs.getLast? ≠ some 0 → Q (.ref D) H'
def spPart61 : Sp := fun vs H Q _ => ∃ x y : Int, vs = [.int x, .int y] ∧ ∀ (t : Addr) (u b : Int) (H' : Hp), Same H H' → H' t = some (.tup [.int u, .int b]) → 1 ≤ b → LN.Bd 110 u → LN.Bd 110 b → Q (.ref t) H'
def spWorthR61 : Sp := fun vs H Q _ => ∃ (a t : Addr) (L : List Int) (x y : Int), vs = [.ref a, .ref t] ∧ H a = some (.lst (L.map V.int)) ∧ 1 ≤ L.length ∧ L.length ≤ 20 ∧ bdL 1000 L ∧ H t = some (.tup [.int x, .int y]) ∧ 1 ≤ y ∧ LN.Bd 110 x ∧ LN.Bd 110 y ∧ ∀ H', Same H H' → Q (.bl true) H'
def spRowR61 : Sp := fun vs H Q _ => ∃ (a b : Addr) (xs : List Int), vs = [.ref a, .ref b] ∧ H a = some (.lst (xs.map V.int)) ∧ H b = some (.lst (xs.map V.int)) ∧ xs.length ≤ 100 ∧ ∀ H', Same H H' → Q (.bl true) H'
def spOdd61 (K : PySem.W.Frag) : Sp := fun vs H Q _ => ∃ c : Int, vs = [.int c] ∧ ∀ v H', Same H H' → PolyB K H' v false → Q v H'
def spRef61 (K : PySem.W.Frag) : Sp := fun vs H Q _ => ∃ (y : Int) (v : V) (b : Addr) (ys : List Int) (n : Nat), vs = [.int y, v, .ref b] ∧ 0 ≤ y ∧ y ≤ 2 ∧ PolyB K H v false ∧ H b = some (.lst (ys.map V.int)) ∧ ys.length = n + 1 ∧ 1 ≤ n ∧ n ≤ 8 ∧ ys.getLast? ≠ some 0 ∧ ∀ H', Same H H' → Q (.bl true) H'
section
variable {P : Program} {w : World} {K : PySem.W.Frag} {mg : Str → Option Value} {base : Heap}
theorem ok_is_whole (T : Txt K mg) : FnOk P w K mg base CX0 1 T.f_is_whole T.d_is_whole ["thing"] (spWhole K) := by
  refine T.F_is_whole.okq sc_is_whole (fun vs H Q E h => ?_) (fun cdv A outer s H vs Q E hr h => ?_)
  · obtain ⟨v, rfl, _⟩ := h
    rfl
  obtain ⟨v, rfl, ⟨t, i, b, u, kd, ty, ei⟩, q⟩ := h
  refine ⟨_, (qpss_one (qps_ret (qpe_and (qpe_callB call_inst rfl T.z_isinstance bt_isinstance (qpa_cons (hs := star_Name) (qpv 0) (qpa_cons (hs := star_Name) (qpe_bltn (v := .ty "int") rfl T.z_int bt_int rfl) qpa_nil))) (qpe_one (qpe_not (qpe_callB call_inst rfl T.z_isinstance bt_isinstance (qpa_cons (hs := star_Name) (qpv 0) (qpa_cons (hs := star_Name) (qpe_bltn (v := .ty "bool") rfl T.z_bool bt_bool rfl) qpa_nil)))))))), ?_⟩
  refine ⟨_, rfl, _, _, _, i, rfl, ty, kd.kit_int, _, rfl, ?_⟩
  rw [← ei] at q
  cases i with
  | false => exact iteF q
  | true => exact iteT ⟨_, rfl, _, _, _, b, rfl, ty, kd.kit_bool, _, rfl, q⟩
theorem ok_common_divisor (T : Txt K mg) : FnOk P w K mg base CX0 1 T.f_common_divisor T.d_common_divisor ["one", "other"] spGcd := by
  refine T.F_common_divisor.okq sc_common_divisor (fun vs H Q E h => ?_) (fun cdv A outer s H vs Q E hr h => ?_)
  · obtain ⟨x, y, rfl, _⟩ := h
    rfl
  obtain ⟨x, y, rfl, hx, hy, q⟩ := h
  refine ⟨_, (qpss_cons (qps_while PassesOwn.never (qpt_cmpR op_ne (qpv 1) qpe_int (nomark _)) (qpss_cons (qps_set (i := 2) sc_common_divisor.nd rfl (Or.inl rfl) (qpe_op op_mod (qpv 0) (qpv 1)))
    (qpss_cons (qps_set (i := 0) sc_common_divisor.nd rfl (Or.inl rfl) (qpv 1))
    (qpss_one (qps_set (i := 1) sc_common_divisor.nd rfl (Or.inl rfl) (qpv 2))))))
    (qpss_one (qps_ret (qpv 0)))), ?_⟩
  generalize eg : Nat.gcd x.natAbs y.natAbs = g at q
  refine ⟨fun m σ H2 => ∃ (x y : Int) (r : Option V), σ = [some (.int x), some (.int y), r] ∧ H2 = H ∧ 0 ≤ x ∧ 0 ≤ y ∧ Nat.gcd x.natAbs y.natAbs = g ∧ m = y.natAbs, ⟨_, x, y, none, rfl, rfl, hx, hy, eg, rfl⟩, ?_⟩
  clear hx hy eg x y
  rintro m σ H2 ⟨x, y, r, rfl, rfl, hx, hy, eg, rfl⟩
  refine ⟨_, rfl, rfl, _, rfl, iteN (fun hn => ?_) (fun h0 => ?_)⟩
  · have hp : 0 < y := by omega
    refine ⟨_, fun σ' H' h => h, ?_⟩
    refine ⟨_, rfl, _, rfl, _, _, rfl, rfl, hp, _, rfl, _, rfl, _, LN.mod_lt (x := x) hp, y, x % y, _, rfl, rfl, hy, Int.emod_nonneg _ hn, (LN.gcd_turnI hx hp).trans eg, rfl⟩
  · refine ⟨_, rfl, ?_⟩
    subst h0
    rw [← eg, LN.gcd_zero hx] at q
    exact q
theorem ok_fraction_int (T : Txt K mg) : FnOk P w K mg base (CX2 P w) 2 T.f_fraction T.d_fraction ["top", "bottom"] spFracI := by
  have G_is_whole := ok_is_whole (P := P) (w := w) (base := base) T
  have G_common_divisor := ok_common_divisor (P := P) (w := w) (base := base) T
  refine T.F_fraction.ok2 sc_fraction (fun vs H Q E h => ?_) (fun cdv A outer s H vs Q E hr h => ?_)
  · obtain ⟨t, b, rfl, _⟩ := h
    rfl
  obtain ⟨t, b, rfl, hb, b2, q⟩ := h
  refine ⟨_, (qpss_cons (qps_if (QW.pt (qpw_or (qpt_not (qpt_val (qpe_call G_is_whole hr rfl T.m_is_whole T.k_is_whole T.b_is_whole .nil pass0 (qpa_cons (hs := star_Name) (qpv 0) qpa_nil)))) (qpw_or (qpt_not (qpt_val (qpe_call G_is_whole hr rfl T.m_is_whole T.k_is_whole T.b_is_whole .nil pass0 (qpa_cons (hs := star_Name) (qpv 1) qpa_nil)))) (qpw_or1 (qpt_cmpR op_eq (qpv 1) qpe_int (nomark _)))))) (qpss_one (qps_raise throws_new2 rfl T.m_NoFraction T.x_NoFraction rfl (qpa_cons (hs := star_Constant) qpe_str qpa_nil))) qpss_nil)
    (qpss_cons (qps_set (i := 2) sc_fraction.nd rfl (Or.inl rfl) (qpe_call G_common_divisor hr rfl T.m_common_divisor T.k_common_divisor T.b_common_divisor .nil pass0 (qpa_cons (hs := star_Call) (qpe_callB call_abs rfl T.z_abs bt_abs (qpa_cons (hs := star_Name) (qpv 0) qpa_nil)) (qpa_cons (hs := star_Call) (qpe_callB call_abs rfl T.z_abs bt_abs (qpa_cons (hs := star_Name) (qpv 1) qpa_nil)) qpa_nil))))
    (qpss_cons (qps_if (qpt_cmpR op_lt (qpv 1) qpe_int (nomark _)) (qpss_one (qps_set (i := 2) sc_fraction.nd rfl (Or.inl rfl) (qpe_un un_neg (qpv 2)))) qpss_nil)
    (qpss_one (qps_ret (qpe_tup (qpa_cons (hs := star_BinOp) (qpe_op op_fdivN2 (qpv 0) (qpv 2)) (qpa_cons (hs := star_BinOp) (qpe_op op_fdivN2 (qpv 1) (qpv 2)) qpa_nil)))))))), ?_⟩
  refine ⟨_, rfl, .int t, rfl, Thing.int t, _, rfl, iteF ⟨_, rfl, .int b, rfl, Thing.int b, _, rfl, iteF ⟨_, rfl, rfl, _, rfl, iteI (fun e => absurd e hb) (fun hb => ?_)⟩⟩⟩
  refine ⟨_, rfl, t, rfl, _, rfl, b, rfl, _, _, rfl, LN.abs_nn t, LN.abs_nn b, ?_⟩
  rw [LN.abs_abs, LN.abs_abs]
  have c0 := LN.gcd_ne (t := t) hb
  have cb := (LN.gcd_bd (t := t) hb b2).mono (n := 8000) (by decide)
  refine ⟨_, rfl, _, _, rfl, rfl, _, rfl, iteL (fun hn => ?_) (fun hn => ?_)⟩
  · refine ⟨_, rfl, _, rfl, ?_⟩
    refine ⟨_, rfl, _, rfl, _, _, rfl, rfl, ⟨by omega, cb.neg⟩, _, rfl, _, rfl, _, _, rfl, rfl, ⟨by omega, cb.neg⟩, small (by show 2 ≤ 1000; decide), fun p hp => ?_⟩
    exact q p _ _ _ (same_new hp _) upd_same (LN.Low.of rfl hb (by omega) (by omega) (by omega))
  · refine ⟨_, rfl, _, rfl, _, _, rfl, rfl, ⟨c0, cb⟩, _, rfl, _, rfl, _, _, rfl, rfl, ⟨c0, cb⟩, small (by show 2 ≤ 1000; decide), fun p hp => ?_⟩
    exact q p _ _ _ (same_new hp _) upd_same (LN.Low.of rfl hb (by omega) (by omega) (by omega))
theorem at_lastB {xs : List V} (h : xs ≠ []) : ∃ x ∈ xs, atI xs (-1) = some x ∧ xs.getLast? = some x := by
  refine ⟨xs.getLast h, List.getLast_mem h, ?_, List.getLast?_eq_some_getLast h⟩
  have := atI_last xs.dropLast (xs.getLast h)
  rw [List.dropLast_concat_getLast h] at this
  exact this
theorem ok_is_poly (T : Txt K mg) : FnOk P w K mg base CX0 2 T.f_is_poly T.d_is_poly ["thing"] (spIsPoly K) := by
  have G_is_whole := ok_is_whole (P := P) (w := w) (base := base) T
  refine T.F_is_poly.okq sc_is_poly (fun vs H Q E h => ?_) (fun cdv A outer s H vs Q E hr h => ?_)
  · obtain ⟨v, b, rfl, _⟩ := h
    rfl
  obtain ⟨v, b, rfl, hv, q⟩ := h
  refine ⟨_, (qpss_cons (qps_if (QW.pt (qpw_or (qpt_not (qpt_val (qpe_callB call_inst rfl T.z_isinstance bt_isinstance (qpa_cons (hs := star_Name) (qpv 0) (qpa_cons (hs := star_Name) (qpe_bltn (v := .ty "list") rfl T.z_list bt_list rfl) qpa_nil))))) (qpw_or1 (qpt_not (qpt_chain op_le op_le (qpe_glob (v := .int 2) rfl T.m_FEWEST_NUMBERS ⟨_, rfl⟩) (qpe_callB call_len_seq rfl T.z_len bt_len (qpa_cons (hs := star_Name) (qpv 0) qpa_nil)) (qpe_glob (v := .int 9) rfl T.m_MOST_NUMBERS ⟨_, rfl⟩)))))) (qpss_one (qps_ret qpe_bl)) qpss_nil)
    (qpss_one (qps_ret (qpe_and (qpe_callB (call_allL rfl) rfl T.z_all bt_all (qpa_cons (hs := star_ListComp) (qpe_comp (caps := []) (idx := []) rfl ⟨rfl, by decide +kernel, rfl, by decide +kernel, rfl, by decide +kernel, rfl, trivial, by decide +kernel, rfl, by decide +kernel⟩ (qpi_list (qpv 0)) (fun _ _ _ _ => qif_none) (fun _ _ _ _ => (qpe_call G_is_whole hr rfl T.m_is_whole T.k_is_whole T.b_is_whole .nil pass0 (qpa_cons (hs := star_Name) (qpv 0) qpa_nil)))) qpa_nil)) (qpe_one (qpe_cmpR op_ne (qpe_ix ix_list (qpv 0) (qpe_un un_neg qpe_int) (fun _ _ => rfl)) qpe_int (nomark _))))))), ?_⟩
  rcases hv with ⟨rfl, t, i, b', u, kd, ty, nl⟩ | ⟨a, zs, rfl, ha, l100, th, rfl⟩
  · have kl := kind_list (K := K) kd
    rw [nl] at kl
    exact ⟨_, rfl, _, _, _, false, rfl, ty, kl, _, rfl, iteT (iteT (q _ (Same.refl _)))⟩
  refine ⟨_, rfl, _, _, _, true, rfl, TyOf.lst ha, rfl, _, rfl, iteF ⟨_, rfl, a, _, rfl, .inl (SqL.of ha), _, _, rfl, rfl, _, rfl, ?_⟩⟩
  by_cases c1 : (2 : Int) ≤ (zs.length : Int)
  · rw [if_pos (decide_eq_true c1)]
    refine ⟨_, _, rfl, rfl, _, rfl, ?_⟩
    by_cases c2 : (zs.length : Int) ≤ 9
    · rw [decide_eq_true c2]
      refine iteF ⟨_, rfl, a, rfl, ⟨_, SqL.of ha⟩, fun D kD => ?_⟩
      refine comp_plain (xs := zs) (c := fun _ => true) (f := fun v => .bl (isI v)) plain_list (Nat.lt_of_le_of_lt (show zs.length ≤ 100 by omega) (by decide)) kD (fun ys => SqL.of (same_new kD _ _ _ ha)) (fun x _ ys R r => r) (fun x hx _ ys R r => ⟨_, rfl, x, rfl, (th x hx).same (same_new kD _), r⟩) ?_
      have e1 : ((zs.filter fun _ => true).map fun v => V.bl (isI v)) = (zs.map isI).map V.bl := by
        rw [List.filter_eq_self.mpr (fun _ _ => rfl), List.map_map]
        rfl
      rw [e1]
      have gD := same_new kD (.lst ((zs.map isI).map V.bl))
      have ea : (zs.map isI).all id = zs.all isI := by rw [List.all_map]; rfl
      refine ⟨D, _, rfl, SqL.of upd_same, _, rfl, ?_⟩
      rw [ea]
      have pb : polyB zs = (zs.all isI && lastNot zs) := by
        unfold polyB
        rw [decide_eq_true (by omega), decide_eq_true (by omega)]
        rfl
      rw [pb] at q
      cases h : zs.all isI with
      | false =>
        rw [h] at q
        exact iteF (q _ gD)
      | true =>
        rw [h] at q
        obtain ⟨x, mx, ax, lx⟩ := at_lastB (xs := zs) (fun z => by rw [z] at c1; exact absurd c1 (by decide))
        obtain ⟨k, rfl⟩ := isI_int (List.all_eq_true.mp h x mx)
        refine iteT ⟨_, rfl, _, rfl, a, _, _, _, rfl, rfl, SqL.of (gD _ _ ha), ax, rfl, ?_⟩
        have ln : lastNot zs = !(k == 0) := by unfold lastNot; rw [lx]
        show Q (V.bl (!decide (V.int k = V.int 0))) _
        rw [dec_int, ← ln]
        exact q _ gD
    · rw [decide_eq_false c2]
      have pb : polyB zs = false := by
        unfold polyB
        rw [decide_eq_false (show ¬ zs.length ≤ 9 by omega), Bool.and_false, Bool.false_and]
      rw [pb] at q
      exact iteT (q _ (Same.refl _))
  · rw [if_neg (by rw [decide_eq_false c1]; decide)]
    have pb : polyB zs = false := by
      unfold polyB
      rw [decide_eq_false (show ¬ 2 ≤ zs.length by omega), Bool.false_and, Bool.false_and]
    rw [pb] at q
    exact ⟨_, rfl, iteT (q _ (Same.refl _))⟩
theorem ok_refuse_poly (T : Txt K mg) : FnOk P w K mg base (CX2 P w) 3 T.f_refuse_poly T.d_refuse_poly ["thing"] (spRefPoly K T.a_NoPolynomial) := by
  have G_is_poly := ok_is_poly (P := P) (w := w) (base := base) T
  refine T.F_refuse_poly.toD.ok2 sc_refuse_poly (fun vs H Q E h => ?_) (fun cdv A outer s H vs Q E hr h => ?_)
  · obtain ⟨v, b, rfl, _⟩ := h
    rfl
  obtain ⟨v, b, rfl, hv, hE, q⟩ := h
  refine ⟨_, (qpss_one (qps_if (qpt_not (qpt_val (qpe_call G_is_poly hr rfl T.m_is_poly T.k_is_poly T.b_is_poly .nil pass0 (qpa_cons (hs := star_Name) (qpv 0) qpa_nil)))) (qpss_one (qps_raise throws_new2 rfl T.m_NoPolynomial T.x_NoPolynomial rfl (qpa_cons (hs := star_Constant) qpe_str qpa_nil))) qpss_nil)), ?_⟩
  refine ⟨_, rfl, v, b, rfl, hv, fun H1 g1 => ⟨_, rfl, ?_⟩⟩
  cases b with
  | false => exact iteT ⟨small (by show 1 ≤ 1000; decide), hE rfl _ g1⟩
  | true => exact iteF (q rfl _ g1)
theorem ok_slope_of (T : Txt K mg) : FnOk P w K mg base (CX2 P w) 4 T.f_slope_of T.d_slope_of ["poly"] (spSlope K T.a_NoPolynomial) := by
  have G_refuse_poly := ok_refuse_poly (P := P) (w := w) (base := base) T
  refine T.F_slope_of.toD.ok2 sc_slope_of (fun vs H Q E h => ?_) (fun cdv A outer s H vs Q E hr h => ?_)
  · obtain ⟨v, b, rfl, _⟩ := h
    rfl
  obtain ⟨v, b, rfl, hv, hE, q⟩ := h
  refine ⟨_, (qpss_cons (qps_expr (qpe_call G_refuse_poly hr rfl T.m_refuse_poly T.k_refuse_poly T.b_refuse_poly .nil leave_on2 (qpa_cons (hs := star_Name) (qpv 0) qpa_nil)))
    (qpss_one (qps_ret (qpe_comp (caps := ["poly"]) (idx := [0]) rfl ⟨rfl, by decide +kernel, rfl, by decide +kernel, rfl, by decide +kernel, rfl, ⟨⟨rfl, rfl⟩, trivial⟩, by decide +kernel, rfl, by decide +kernel⟩ (qpi_range2 rfl T.z_range (qpa_cons (hs := star_Constant) qpe_int (qpa_cons (hs := star_Call) (qpe_callB call_len_seq rfl T.z_len bt_len (qpa_cons (hs := star_Name) (qpv 0) qpa_nil)) qpa_nil))) (fun _ _ _ _ => qif_none) (fun _ _ _ _ => (qpe_op op_mulB (qpv 0) (qpe_ix (show IxR _ (rIxL K) from ix_list) (qpv 1) (qpv 0) (fun _ _ => rfl)))))))), ?_⟩
  refine ⟨_, rfl, v, b, rfl, hv, (fun e => hE e), fun e H1 g1 => ?_⟩
  obtain ⟨a, L, rfl, ha, bL, q⟩ := q e
  have hlen : 1 ≤ L.length ∧ L.length ≤ 100 := by
    rcases hv with ⟨z, _⟩ | ⟨a', zs, ea, ha', _, _, eb⟩
    · rw [e] at z; cases z
    · cases ea
      rw [ha] at ha'
      cases ha'
      rw [e] at eb
      unfold polyB at eb
      have := (Bool.and_eq_true_iff.mp eb.symm).1
      have h2 := of_decide_eq_true (Bool.and_eq_true_iff.mp this).1
      have h9 := of_decide_eq_true (Bool.and_eq_true_iff.mp this).2
      rw [List.length_map] at h2 h9
      omega
  have ha1 := g1 _ _ ha
  refine ⟨_, rfl, a, _, rfl, .inl (SqL.of ha1), 1, (L.length : Int), congrArg (fun z : Nat => [V.int 1, V.int (z : Int)]) (by rw [List.length_map] : (L.map V.int).length = L.length), ⟨by omega, by omega, by omega, by omega⟩, fun D kD => ?_⟩
  rw [show ((L.length : Int) - 1).toNat = L.length - 1 by omega]
  refine comp_plain (c := fun _ => true) (f := fun v => match v with | .int k => .int (k * L.getD k.toNat 0) | v => v) plain_range (by rw [List.length_map, List.length_range]; exact Nat.lt_of_le_of_lt (show L.length - 1 ≤ 100 by omega) (by decide)) kD (fun _ => trivial) (fun x _ ys R r => r) (fun x hx _ ys R r => ?_) ?_
  · obtain ⟨i, hi, rfl⟩ := List.mem_map.mp hx
    have hi := List.mem_range.mp hi
    have r : R (.int ((1 + (i : Int)) * L.getD (1 + (i : Int)).toNat 0)) _ := r
    have ei : (1 + (i : Int)).toNat = 1 + i := by omega
    rw [ei] at r
    have li : 1 + i < L.length := by omega
    have hg : L[1 + i]? = some (L.getD (1 + i) 0) := by rw [List.getD_eq_getElem?_getD, List.getElem?_eq_getElem li]; rfl
    have ax : atI (L.map V.int) (1 + (i : Int)) = some (.int (L.getD (1 + i) 0)) := by
      rw [show 1 + (i : Int) = ((1 + i : Nat) : Int) by omega]
      exact atI_nat (by rw [List.getElem?_map, hg]; rfl)
    exact ⟨_, rfl, _, rfl, _, rfl, a, _, _, _, rfl, rfl, SqL.of (same_new kD _ _ _ ha1), ax, _, _, rfl, rfl, ⟨(bd_small (n := 64) (by decide) (by omega) (by omega)).mono (by decide), (bL _ (List.mem_of_getElem? hg)).mono (by decide)⟩, r⟩
  have e1 : ((((List.range (L.length - 1)).map fun i : Nat => V.int (1 + (i : Int))).filter fun _ => true).map fun v => match v with | .int k => V.int (k * L.getD k.toNat 0) | v => v) = (slopeL L).map V.int := by
    unfold slopeL
    rw [List.filter_eq_self.mpr (fun _ _ => rfl), List.map_map, List.map_map]
    refine List.map_congr_left fun i _ => ?_
    show V.int ((1 + (i : Int)) * L.getD (1 + (i : Int)).toNat 0) = V.int (((i : Int) + 1) * L.getD (i + 1) 0)
    rw [show (1 + (i : Int)).toNat = i + 1 by omega, Int.add_comm]
  rw [e1]
  exact q D _ (g1.trans (same_new kD _)) (none_of g1 kD) upd_same
theorem cut_lastB {xs : List V} (h : xs ≠ []) : cutV xs none (some (-1)) = xs.dropLast := by
  have e : HT.sIx xs.length xs.length (some (-1)) = xs.length - 1 := by
    have := HT.clip_eq (-1) xs.length xs.length
    rw [if_pos (by decide)] at this
    have := List.length_pos_iff.mpr h
    omega
  unfold cutV
  rw [HT.sIx_none, e, List.drop_zero, Nat.sub_zero, List.dropLast_eq_take]
theorem hom_drop {L : List Int} {i : Nat} {c x y : Int} (h : L[i]? = some c) (hi : i + 1 < L.length) : homL (L.drop i) x y = homL (L.drop (i + 1)) x y * x + c * y ^ (L.length - 1 - i) := by
  have li : i < L.length := by omega
  have e1 := List.drop_eq_getElem_cons li
  have e2 := List.drop_eq_getElem_cons hi
  rw [List.getElem?_eq_getElem li] at h
  cases h
  rw [e1, e2]
  show homL _ x y * x + L[i] * y ^ ((L.drop (i + 1 + 1)).length + 1) = _
  rw [List.length_drop, show L.length - (i + 1 + 1) + 1 = L.length - 1 - i by omega]
theorem ok_worth_at (T : Txt K mg) : FnOk P w K mg base CX0 3 T.f_worth_at T.d_worth_at ["poly", "part"] spWorthAt := by
  have G_fraction := ok_fraction_int (P := P) (w := w) (base := base) T
  refine T.F_worth_at.okq sc_worth_at (fun vs H Q E h => ?_) (fun cdv A outer s H vs Q E hr h => ?_)
  · obtain ⟨a, t, L, x, y, rfl, _⟩ := h
    rfl
  obtain ⟨a, t, L, x, y, rfl, ha, l1, l20, bL, ht, y0, bx, by', q⟩ := h
  have i0 : ∀ {x y : V}, atI [x, y] 0 = some x := fun {x y} => atI_nat (j := 0) rfl
  have i1 : ∀ {x y : V}, atI [x, y] 1 = some y := fun {x y} => atI_nat (j := 1) rfl
  have ne : L ≠ [] := fun z => by rw [z] at l1; exact absurd l1 (by decide)
  obtain ⟨ds, z, ez⟩ : ∃ ds z, L = ds ++ [z] := ⟨L.dropLast, L.getLast ne, (List.dropLast_concat_getLast ne).symm⟩
  have lds : L.length = ds.length + 1 := by rw [ez, List.length_append]; rfl
  have hl : atI (L.map V.int) (-1) = some (.int z) := by
    rw [ez, List.map_append]
    exact atI_last _ _
  have cl : cutV (L.map V.int) none (some (-1)) = ds.map V.int := by
    rw [cut_lastB (fun e => ne (List.map_eq_nil_iff.mp e)), ez, List.map_append]
    exact List.dropLast_concat
  refine ⟨_, (qpss_cons (qps_set (i := 2) sc_worth_at.nd rfl (Or.inl rfl) (qpe_ix ix_list (qpv 0) (qpe_un un_neg qpe_int) (fun _ _ => rfl)))
    (qpss_cons (qps_set (i := 3) sc_worth_at.nd rfl (Or.inl rfl) qpe_int)
    (qpss_cons (qps_for PassesOwn.never rfl (qpi_rev rfl T.z_reversed (qpa_cons (hs := star_Subscript) (qpe_slice sl_list (qpv 0) qpo_none (qpo_some (qpe_un un_neg qpe_int))) qpa_nil)) (qpg_name (i := 4) sc_worth_at.nd rfl (Or.inl rfl)) (qpss_cons (qps_set (i := 3) sc_worth_at.nd rfl (Or.inl rfl) (qpe_op op_mulB (qpv 3) (qpe_ix ix_tup (qpv 1) qpe_int (fun _ _ => rfl))))
    (qpss_one (qps_set (i := 2) sc_worth_at.nd rfl (Or.inl rfl) (qpe_op op_add (qpe_op op_mulB (qpv 2) (qpe_ix ix_tup (qpv 1) qpe_int (fun _ _ => rfl))) (qpe_op op_mulB (qpv 4) (qpv 3)))))))
    (qpss_one (qps_ret (qpe_call G_fraction hr rfl T.m_fraction T.k_fraction T.b_fraction .nil pass2 (qpa_cons (hs := star_Name) (qpv 2) (qpa_cons (hs := star_Name) (qpv 3) qpa_nil)))))))), ?_⟩
  refine ⟨_, rfl, _, rfl, a, _, _, _, rfl, rfl, SqL.of ha, hl, ?_⟩
  refine ⟨_, rfl, _, rfl, _, rfl, a, _, rfl, SqL.of ha, fun u ku => ?_⟩
  rw [cl]
  have gu := same_new ku (.lst (ds.map V.int))
  have hu : upd H u (.lst (ds.map V.int)) u = some (.lst (ds.map V.int)) := upd_same
  have ht := gu _ _ ht
  generalize upd H u (.lst (ds.map V.int)) = H1 at gu hu ht ⊢
  have lastD : L.drop ds.length = [z] := by rw [ez, List.drop_left]
  refine ⟨u, _, rfl, SqL.of hu, ?_⟩
  refine for_revN (fun i σ H' => H' = H1 ∧ LN.Bd (10000 + 5000 * i) (homL (L.drop (ds.length - i)) x y) ∧ ∃ v : Option V, σ = [some (.ref a), some (.ref t), some (.int (homL (L.drop (ds.length - i)) x y)), some (.int (y ^ i)), v]) ⟨rfl, ?_, none, ?_⟩ (fun i σ H' _ z => by rw [z.1]; exact SqL.of hu) ?_ ?_
  · rw [Nat.sub_zero, lastD]
    exact bL z (by rw [ez]; exact List.mem_append_right _ List.mem_cons_self)
  · rw [Nat.sub_zero, lastD, Int.pow_zero]
    rfl
  · rintro i v σ H' hv hi ⟨rfl, bi, o, rfl⟩
    rw [List.length_map] at hv hi
    rw [List.getElem?_map] at hv
    cases hf : ds[ds.length - 1 - i]? with
    | none => rw [hf] at hv; cases hv
    | some c =>
      rw [hf] at hv
      cases hv
      have hL : L[ds.length - 1 - i]? = some c := by rw [ez, List.getElem?_append_left (by omega)]; exact hf
      have e := hom_drop (x := x) (y := y) hL (by omega)
      rw [show ds.length - 1 - i + 1 = ds.length - i by omega, show ds.length - 1 - i = ds.length - (i + 1) by omega, show L.length - 1 - (ds.length - (i + 1)) = i + 1 by omega] at e
      have byi : LN.Bd 4100 (y ^ i) := (by'.pow i).mono (by omega)
      have byi1 : LN.Bd 4300 (y ^ (i + 1)) := (by'.pow (i + 1)).mono (by omega)
      have bc := bL c (List.mem_of_getElem? hL)
      refine ⟨_, rfl, _, rfl, t, _, _, _, rfl, rfl, SqT.of ht, i1, _, _, rfl, rfl, ⟨byi.mono (by decide), by'.mono (by decide)⟩, ?_⟩
      dsimp only [gName]
      rw [← Int.pow_succ]
      refine ⟨_, rfl, _, rfl, t, _, _, _, rfl, rfl, SqT.of ht, i0, _, _, rfl, rfl, ⟨bi.mono (by omega), bx.mono (by decide)⟩, _, rfl, _, rfl, _, _, rfl, rfl, ⟨bc.mono (by decide), byi1.mono (by decide)⟩, _, _, rfl, rfl, rfl, ?_, some (.int c), ?_⟩
      · rw [e]
        exact (LN.Bd.add (n := 10000 + 5000 * i + 4500) ((bi.mul bx).mono (by omega)) ((bc.mul byi1).mono (by omega))).mono (by omega)
      · rw [e]
        rfl
  rintro σ H' ⟨rfl, _, o, rfl⟩
  rw [List.length_map, Nat.sub_self, List.drop_zero]
  have by0 : LN.Bd 4000 (y ^ ds.length) := (by'.pow ds.length).mono (by omega)
  refine ⟨_, rfl, _, rfl, homL L x y, y ^ ds.length, rfl, ?_, by0, fun c X Y H2 g2 hc low => q c X Y H2 (gu.trans g2) hc ?_⟩
  · exact Int.pow_ne_zero y0
  · rw [show L.length - 1 = ds.length by omega]
    exact low
theorem map_set_int : ∀ (zs : List Int) (k : Nat) (v : Int), (zs.map V.int).set k (.int v) = (zs.set k v).map V.int
  | [], _, _ => rfl
  | _ :: _, 0, _ => rfl
  | z :: zs, k + 1, v => by
    show V.int z :: (zs.map V.int).set k (.int v) = _
    rw [map_set_int zs k v]
    rfl
theorem bdL.set {N : Nat} {zs : List Int} {k : Nat} {v : Int} (h : bdL N zs) (hv : LN.Bd N v) : bdL N (zs.set k v) := fun c hc => by
  rcases List.mem_or_eq_of_mem_set hc with z | rfl
  · exact h c z
  · exact hv
theorem bdL.mono {N M : Nat} {zs : List Int} (h : bdL N zs) (e : N ≤ M) : bdL M zs := fun c hc => (h c hc).mono e
theorem getD_mem' {zs : List Int} {k : Nat} (h : k < zs.length) : ∃ v, zs[k]? = some v ∧ v ∈ zs ∧ zs.getD k 0 = v := ⟨zs[k], List.getElem?_eq_getElem h, List.getElem_mem h, by rw [List.getD_eq_getElem?_getD, List.getElem?_eq_getElem h]; rfl⟩
theorem last_getD {zs : List Int} (h : 1 ≤ zs.length) : zs.getLast? = some (zs.getD (zs.length - 1) 0) := by
  rw [List.getLast?_eq_getElem?, List.getD_eq_getElem?_getD, List.getElem?_eq_getElem (by omega)]
  rfl
theorem ok_l_product (T : Txt K mg) : FnOk P w K mg base CX0 1 T.f_l_product T.d_l_product ["_law_one", "_law_other"] spProd67 := by
  refine T.F_l_product.okq sc_l_product (fun vs H Q E h => ?_) (fun cdv A outer s H vs Q E hr h => ?_)
  · obtain ⟨a, b, xs, ys, N, M, rfl, _⟩ := h
    rfl
  obtain ⟨a, b, xs, ys, N, M, rfl, ha, hb, x1, x20, y1, y20, bx, by', N2, M2, lx, ly, q⟩ := h
  refine ⟨_, (qpss_cons (qps_comp (i := 2) (caps := []) (idx := []) rfl sc_l_product.nd rfl rfl ⟨rfl, by decide +kernel, rfl, by decide +kernel, rfl, by decide +kernel, rfl, trivial, by decide +kernel, rfl, by decide +kernel⟩ (qpi_range1 rfl T.z_range (qpa_cons (hs := star_BinOp) (qpe_op op_sub (qpe_op op_add (qpe_callB call_len_seq rfl T.z_len bt_len (qpa_cons (hs := star_Name) (qpv 0) qpa_nil)) (qpe_callB call_len_seq rfl T.z_len bt_len (qpa_cons (hs := star_Name) (qpv 1) qpa_nil))) qpe_int) qpa_nil)) (fun _ _ _ _ => qif_none) (fun _ _ _ _ => qpe_int))
    (qpss_cons (qps_for PassesOwn.never rfl (qpi_range1 rfl T.z_range (qpa_cons (hs := star_Call) (qpe_callB call_len_seq rfl T.z_len bt_len (qpa_cons (hs := star_Name) (qpv 0) qpa_nil)) qpa_nil)) (qpg_name (i := 3) sc_l_product.nd rfl (Or.inl rfl)) (qpss_one (qps_for PassesOwn.never rfl (qpi_range1 rfl T.z_range (qpa_cons (hs := star_Call) (qpe_callB call_len_seq rfl T.z_len bt_len (qpa_cons (hs := star_Name) (qpv 1) qpa_nil)) qpa_nil)) (qpg_name (i := 4) sc_l_product.nd rfl (Or.inl rfl)) (qpss_one (qps_asg (qpe_op op_add (qpe_ix ix_list (qpv 2) (qpe_op op_add (qpv 3) (qpv 4)) (fun _ _ => rfl)) (qpe_op op_mulB (qpe_ix ix_list (qpv 0) (qpv 3) (fun _ _ => rfl)) (qpe_ix ix_list (qpv 1) (qpv 4) (fun _ _ => rfl)))) (qpg_sub (qpv 2) (qpe_op op_add (qpv 3) (qpv 4)) set_list))))))
    (qpss_one (qps_ret (qpv 2))))), ?_⟩
  obtain ⟨T', eT⟩ : ∃ T' : Nat, T' = xs.length + ys.length - 1 := ⟨_, rfl⟩
  rw [← eT] at q
  have eN : ((xs.map V.int).length : Int) + ((ys.map V.int).length : Int) - 1 = (T' : Int) := by rw [List.length_map, List.length_map]; omega
  refine ⟨_, rfl, a, _, rfl, .inl (SqL.of ha), _, rfl, b, _, rfl, .inl (SqL.of hb), _, _, rfl, rfl, _, _, rfl, rfl, (T' : Int), congrArg (fun z => [V.int z]) eN, by omega, by omega, fun D kD => ?_⟩
  refine comp_plain (c := fun _ => true) (f := fun _ => .int 0) plain_range (by rw [List.length_map, List.length_range]; exact Nat.lt_of_le_of_lt (show (T' : Int).toNat ≤ 97 by omega) (by decide)) kD (fun _ => trivial) (fun x _ ys R r => r) (fun x hx _ ys R r => r) ?_
  have eZ : ((((List.range (T' : Int).toNat).map fun i : Nat => V.int (0 + (i : Int))).filter fun _ => true).map fun _ => V.int 0) = (List.replicate T' (0 : Int)).map V.int := by
    rw [List.filter_eq_self.mpr (fun _ _ => rfl), List.map_map, Int.toNat_natCast, List.map_replicate]
    exact List.map_const' .. |>.trans (by rw [List.length_range])
  rw [eZ]
  have gD := same_new kD (.lst ((List.replicate T' (0 : Int)).map V.int))
  dsimp only [gName]
  refine ⟨_, rfl, a, _, rfl, .inl (SqL.of (gD _ _ ha)), (xs.length : Int), congrArg (fun z : Nat => [V.int (z : Int)]) (by rw [List.length_map] : (xs.map V.int).length = xs.length), by omega, by omega, ?_⟩
  have T1 : T' - 1 < T' := by omega
  refine for_rangeN (lo := 0) (n := xs.length) (fun i σ H' => ∃ (zs : List Int) (v1 v2 : Option V), σ = [some (.ref a), some (.ref b), some (.ref D), v1, v2] ∧ Same H H' ∧ H' D = some (.lst (zs.map V.int)) ∧ zs.length = T' ∧ bdL (N + M + i * ys.length) zs ∧ (i < xs.length → zs.getD (T' - 1) 0 = 0) ∧ (i = xs.length → zs.getD (T' - 1) 0 ≠ 0) ∧ (∀ X Y : Int, wH (T' - 1) zs X Y = wH (xs.length - 1) (xs.take i) X Y * wH (ys.length - 1) ys X Y)) ⟨_, none, none, rfl, gD, upd_same, List.length_replicate, fun c hc => ?_, fun _ => ?_, fun z => absurd z (by omega), fun X Y => by rw [wH_zero, List.take_zero]; show 0 = 0 * _; rw [Int.zero_mul]⟩ ?_ ?_
  · rw [(List.mem_replicate.mp hc).2]
    exact Nat.two_pow_pos _
  · rw [List.getD_eq_getElem?_getD, List.getElem?_replicate, if_pos T1]
    rfl
  · rintro i σ H1 hi ⟨zs, v1, v2, rfl, g, hD, lz, bz, z0, _, hz⟩
    have hb1 := g _ _ hb
    refine ⟨_, rfl, b, _, rfl, .inl (SqL.of hb1), (ys.length : Int), congrArg (fun z : Nat => [V.int (z : Int)]) (by rw [List.length_map] : (ys.map V.int).length = ys.length), by omega, by omega, ?_⟩
    refine for_rangeN (lo := 0) (n := ys.length) (fun j σ H' => ∃ (zs : List Int) (v2 : Option V), σ = [some (.ref a), some (.ref b), some (.ref D), some (.int (0 + (i : Int))), v2] ∧ Same H H' ∧ H' D = some (.lst (zs.map V.int)) ∧ zs.length = T' ∧ bdL (N + M + i * ys.length + j) zs ∧ ((i + 1 < xs.length ∨ j < ys.length) → zs.getD (T' - 1) 0 = 0) ∧ (i + 1 = xs.length → j = ys.length → zs.getD (T' - 1) 0 ≠ 0) ∧ (∀ X Y : Int, wH (T' - 1) zs X Y = wH (xs.length - 1) (xs.take i) X Y * wH (ys.length - 1) ys X Y + xs.getD i 0 * X ^ i * Y ^ (xs.length - 1 - i) * wH (ys.length - 1) (ys.take j) X Y)) ⟨zs, v2, rfl, g, hD, lz, bz, fun _ => z0 hi, fun _ z => absurd z (by omega), fun X Y => by rw [hz X Y, List.take_zero]; show _ = _ + _ * 0; rw [Int.mul_zero, Int.add_zero]⟩ ?_ ?_
    · clear bz lz hD z0 hb1 hz
      rintro j σ H2 hj ⟨zs, v3, rfl, g2, hD, lz, bz, z0, _, hz⟩
      have ha2 := g2 _ _ ha
      have hb2 := g2 _ _ hb
      obtain ⟨x, hx, mx, ex⟩ := getD_mem' hi
      obtain ⟨y, hy, my, ey⟩ := getD_mem' hj
      have lk : i + j < zs.length := by omega
      obtain ⟨u, hu, mu, eu⟩ := getD_mem' lk
      have ax : atI (xs.map V.int) (0 + (i : Int)) = some (.int x) := by rw [Int.zero_add]; exact atI_nat (by rw [List.getElem?_map, hx]; rfl)
      have ay : atI (ys.map V.int) (0 + (j : Int)) = some (.int y) := by rw [Int.zero_add]; exact atI_nat (by rw [List.getElem?_map, hy]; rfl)
      have ek : (0 + (i : Int)) + (0 + (j : Int)) = ((i + j : Nat) : Int) := by omega
      have au : atI (zs.map V.int) ((0 + (i : Int)) + (0 + (j : Int))) = some (.int u) := by rw [ek]; exact atI_nat (by rw [List.getElem?_map, hu]; rfl)
      have bX := bx x mx
      have bY := by' y my
      have ij : i * ys.length ≤ 400 := Nat.le_trans (Nat.mul_le_mul (show i ≤ 20 by omega) y20) (by decide)
      have bU := bz u mu
      refine ⟨_, rfl, _, rfl, _, rfl, _, _, rfl, rfl, D, _, _, _, rfl, rfl, SqL.of hD, au, _, rfl, _, rfl, a, _, _, _, rfl, rfl, SqL.of ha2, ax, _, rfl, _, rfl, b, _, _, _, rfl, rfl, SqL.of hb2, ay, _, _, rfl, rfl, ⟨bX.mono (by omega), bY.mono (by omega)⟩, _, _, rfl, rfl, ?_⟩
      refine ⟨_, rfl, _, rfl, _, rfl, _, _, rfl, rfl, D, _, _, i + j, rfl, rfl, hD, ?_, zs.set (i + j) (u + x * y), _, rfl, same_upd kD g2, ?_, by rw [List.length_set]; exact lz, ?_, ?_, ?_, ?_⟩
      · show ixN (zs.map V.int).length ((0 + (i : Int)) + (0 + (j : Int))) = _
        rw [ek]
        exact ix_nat (by rw [List.length_map]; exact lk)
      · rw [upd_same]
        show some (HO.lst ((zs.map V.int).set (i + j) (.int (u + x * y)))) = _
        rw [map_set_int]
      · have bXY := bX.mul bY
        refine bdL.set (bdL.mono (M := N + M + i * ys.length + (j + 1)) bz (by omega)) ?_
        exact (LN.Bd.add bU (bXY.mono (by omega))).mono (by omega)
      · intro h
        have : ¬ (i + j = T' - 1) := by omega
        rw [List.getD_eq_getElem?_getD, List.getElem?_set_ne (by omega), ← List.getD_eq_getElem?_getD]
        exact z0 (by omega)
      · intro h1 h2
        have e : i + j = T' - 1 := by omega
        have eu0 := z0 (by omega)
        rw [← e, eu] at eu0
        rw [← e, List.getD_eq_getElem?_getD, List.getElem?_set_self (by omega)]
        show u + x * y ≠ 0
        have x0 : x ≠ 0 := fun z => lx (by rw [last_getD x1, show xs.length - 1 = i by omega, ex, z])
        have y0 : y ≠ 0 := fun z => ly (by rw [last_getD y1, show ys.length - 1 = j by omega, ey, z])
        have := Int.mul_ne_zero x0 y0
        omega
      · intro X Y
        rw [wH_set hu, hz X Y, wH_take hy, ex, Int.pow_add, show T' - 1 - (i + j) = (xs.length - 1 - i) + (ys.length - 1 - j) by omega, Int.pow_add]
        grind
    · rintro σ H2 ⟨zs', v3, rfl, g2, hD2, lz2, bz2, y0, y1', hz2⟩
      obtain ⟨x, hx, mx, ex⟩ := getD_mem' hi
      exact ⟨zs', _, _, rfl, g2, hD2, lz2, bdL.mono bz2 (by rw [Nat.succ_mul]; omega), fun h => y0 (.inl h), fun h => y1' h rfl, fun X Y => by rw [hz2 X Y, wH_take hx, ex, List.take_length]; grind⟩
  rintro σ H1 ⟨zs, v1, v2, rfl, g, hD, lz, bz, _, zn, hz⟩
  refine ⟨_, rfl, q D zs H1 g kD hD lz bz ?_ (fun X Y => by rw [homL_w, homL_w, homL_w, lz, hz X Y, List.take_length])⟩
  rw [last_getD (by omega), lz]
  exact fun z => zn rfl (Option.some.inj z)
theorem abs_int (i : Int) : (if i < 0 then -i else i) = (i.natAbs : Int) := by split <;> omega
theorem ok_l_divisor (T : Txt K mg) : FnOk P w K mg base CX0 1 T.f_l_divisor T.d_l_divisor ["_law_one", "_law_other"] spDiv67 := by
  refine T.F_l_divisor.okq sc_l_divisor (fun vs H Q E h => ?_) (fun cdv A outer s H vs Q E hr h => ?_)
  · obtain ⟨x, y, rfl, _⟩ := h
    rfl
  obtain ⟨x, y, rfl, q⟩ := h
  refine ⟨_, (qpss_cons (qps_set (i := 0) sc_l_divisor.nd rfl (Or.inl rfl) (qpe_callB call_abs rfl T.z_abs bt_abs (qpa_cons (hs := star_Name) (qpv 0) qpa_nil)))
    (qpss_cons (qps_set (i := 1) sc_l_divisor.nd rfl (Or.inl rfl) (qpe_callB call_abs rfl T.z_abs bt_abs (qpa_cons (hs := star_Name) (qpv 1) qpa_nil)))
    (qpss_cons (qps_while PassesOwn.never (qpt_cmpR op_gt (qpv 1) qpe_int (nomark _)) (qpss_one (qps_par (i := 0) (j := 1) rfl sc_l_divisor.nd rfl rfl (by decide) rfl rfl (qpa_cons (hs := star_Name) (qpv 1) (qpa_cons (hs := star_BinOp) (qpe_op op_mod (qpv 0) (qpv 1)) qpa_nil)) (by rfl))))
    (qpss_one (qps_ret (qpv 0)))))), ?_⟩
  refine ⟨_, rfl, _, rfl, ?_⟩
  dsimp only [gName]
  refine ⟨_, rfl, _, rfl, ?_⟩
  dsimp only [gName]
  rw [abs_int, abs_int]
  generalize eg : Nat.gcd x.natAbs y.natAbs = g at q
  change tSeq (tWhile _ _) _ _ _ _
  refine ⟨fun m σ H2 => ∃ (x y : Int), σ = [some (.int x), some (.int y)] ∧ H2 = H ∧ 0 ≤ x ∧ 0 ≤ y ∧ Nat.gcd x.natAbs y.natAbs = g ∧ m = y.natAbs, ⟨_, (x.natAbs : Int), (y.natAbs : Int), rfl, rfl, by omega, by omega, by rw [Int.natAbs_natCast, Int.natAbs_natCast]; exact eg, rfl⟩, ?_⟩
  clear eg x y
  rintro m σ H2 ⟨x, y, rfl, rfl, hx, hy, eg, rfl⟩
  refine ⟨_, rfl, _, _, rfl, rfl, _, rfl, iteP (fun hn => ?_) (fun h0 => ?_)⟩
  · have hp : 0 < y := by omega
    refine ⟨_, fun σ' H' h => h, ?_⟩
    refine ⟨_, rfl, _, rfl, _, rfl, _, _, rfl, rfl, hp, _, _, rfl, _, LN.mod_lt (x := x) hp, y, x % y, rfl, rfl, hy, Int.emod_nonneg _ (by omega), (LN.gcd_turnI hx hp).trans eg, rfl⟩
  · refine ⟨_, rfl, ?_⟩
    have h0 : y = 0 := by omega
    subst h0
    rw [← eg, LN.gcd_zero hx] at q
    exact q
theorem ok_l_cell_at (T : Txt K mg) : FnOk P w K mg base CX0 1 T.f_l_cell_at T.d_l_cell_at ["_law_script", "_law_k"] (spCell K) := by
  refine T.F_l_cell_at.okq sc_l_cell_at (fun vs H Q E h => ?_) (fun cdv A outer s H vs Q E hr h => ?_)
  · obtain ⟨a, ns, k, rfl, _⟩ := h
    rfl
  obtain ⟨a, ns, k, rfl, hS, q⟩ := h
  refine ⟨_, (qpss_cons (qps_if (qpt_cmpR op_lt (qpv 1) (qpe_callB call_len_seq rfl T.z_len bt_len (qpa_cons (hs := star_Name) (qpv 0) qpa_nil)) (nomark _)) (qpss_one (qps_ret (qpe_ix ix_list (qpv 0) (qpv 1) (fun _ _ => rfl)))) qpss_nil)
    (qpss_one (qps_ret qpe_int))), ?_⟩
  refine ⟨_, rfl, _, rfl, a, _, rfl, .inl hS, _, _, rfl, rfl, _, rfl, ?_⟩
  have hl : (ns.map V.int).length = ns.length := List.length_map _
  refine iteL (fun c => ?_) (fun c => ?_)
  · rw [hl] at c
    exact ⟨_, rfl, _, rfl, a, _, _, _, rfl, rfl, hS, cell_there (by omega), q⟩
  · rw [hl] at c
    rw [cell_none (by omega)] at q
    exact q
theorem ok_l_whole (T : Txt K mg) : FnOk P w K mg base CX0 1 T.f_l_whole T.d_l_whole ["_law_found"] (spWhole K) := by
  refine T.F_l_whole.okq sc_l_whole (fun vs H Q E h => ?_) (fun cdv A outer s H vs Q E hr h => ?_)
  · obtain ⟨v, rfl, _⟩ := h
    rfl
  obtain ⟨v, rfl, ⟨t, i, b, u, kd, ty, ei⟩, q⟩ := h
  refine ⟨_, (qpss_one (qps_ret (qpe_and (qpe_callB call_inst rfl T.z_isinstance bt_isinstance (qpa_cons (hs := star_Name) (qpv 0) (qpa_cons (hs := star_Name) (qpe_bltn (v := .ty "int") rfl T.z_int bt_int rfl) qpa_nil))) (qpe_one (qpe_not (qpe_callB call_inst rfl T.z_isinstance bt_isinstance (qpa_cons (hs := star_Name) (qpv 0) (qpa_cons (hs := star_Name) (qpe_bltn (v := .ty "bool") rfl T.z_bool bt_bool rfl) qpa_nil)))))))), ?_⟩
  refine ⟨_, rfl, _, _, _, i, rfl, ty, kd.kit_int, _, rfl, ?_⟩
  rw [← ei] at q
  cases i with
  | false => exact iteF q
  | true => exact iteT ⟨_, rfl, _, _, _, b, rfl, ty, kd.kit_bool, _, rfl, q⟩
theorem ok_product_of (T : Txt K mg) : FnOk P w K mg base (CX2 P w) 4 T.f_product_of T.d_product_of ["poly", "other"] (spProdOf K T.a_NoPolynomial) := by
  have G_refuse_poly := (ok_refuse_poly (P := P) (w := w) (base := base) T).mono (k := 3) (by decide)
  refine T.F_product_of.toD.ok2 sc_product_of (fun vs H Q E h => ?_) (fun cdv A outer s0 H vs Q E hr h => ?_)
  · obtain ⟨v1, v2, b1, b2, rfl, _⟩ := h
    rfl
  obtain ⟨v1, v2, b1, b2, rfl, t1, t2, e1, e2, q⟩ := h
  refine ⟨_, (qpss_cons (qps_expr (qpe_call G_refuse_poly hr rfl T.m_refuse_poly T.k_refuse_poly T.b_refuse_poly .nil leave_on2 (qpa_cons (hs := star_Name) (qpv 0) qpa_nil)))
    (qpss_cons (qps_expr (qpe_call G_refuse_poly hr rfl T.m_refuse_poly T.k_refuse_poly T.b_refuse_poly .nil leave_on2 (qpa_cons (hs := star_Name) (qpv 1) qpa_nil)))
    (qpss_cons (qps_set (i := 2) sc_product_of.nd rfl (Or.inl rfl) (qpe_op op_rep (qpe_lst (qpa_cons (hs := star_Constant) qpe_int qpa_nil)) (qpe_op op_sub (qpe_op op_add (qpe_callB call_len_seq rfl T.z_len bt_len (qpa_cons (hs := star_Name) (qpv 0) qpa_nil)) (qpe_callB call_len_seq rfl T.z_len bt_len (qpa_cons (hs := star_Name) (qpv 1) qpa_nil))) qpe_int)))
    (qpss_cons (qps_calm (qps_for PassesOwn.never rfl (qpi_enumL rfl T.z_enumerate (qpa_cons (hs := star_Name) (qpv 0) qpa_nil)) (qpg_tup rfl (qpgs_cons (qpg_name (i := 3) sc_product_of.nd rfl (Or.inl rfl)) (qpgs_cons (qpg_name (i := 4) sc_product_of.nd rfl (Or.inl rfl)) qpgs_nil))) (qpss_one (qps_for PassesOwn.never rfl (qpi_enumL rfl T.z_enumerate (qpa_cons (hs := star_Name) (qpv 1) qpa_nil)) (qpg_tup rfl (qpgs_cons (qpg_name (i := 5) sc_product_of.nd rfl (Or.inl rfl)) (qpgs_cons (qpg_name (i := 6) sc_product_of.nd rfl (Or.inl rfl)) qpgs_nil))) (qpss_one (qps_asg (qpe_op op_add (qpe_ix ix_list (qpv 2) (qpe_op op_add (qpv 3) (qpv 5)) (fun _ _ => rfl)) (qpe_op op_mulB (qpv 4) (qpv 6))) (qpg_sub (qpv 2) (qpe_op op_add (qpv 3) (qpv 5)) set_list)))))))
    (qpss_one (qps_ret (qpv 2))))))), ?_⟩
  refine ⟨_, rfl, v1, b1, rfl, t1, e1, fun ib1 H1 g1 => ?_⟩
  refine ⟨_, rfl, v2, b2, rfl, t2.same g1, fun z H' g => e2 ib1 z H' (g1.trans g), fun ib2 H2 g2 => ?_⟩
  obtain ⟨a, b, xs, ys, rfl, rfl, ha, hb, x1, x20, y1, y20, bx, by', q⟩ := q ib1 ib2
  have g0 := g1.trans g2
  have ha2 := g0 _ _ ha
  have hb2 := g0 _ _ hb
  obtain ⟨T', eT⟩ : ∃ T' : Nat, T' = xs.length + ys.length - 1 := ⟨_, rfl⟩
  rw [← eT] at q
  have eN : ((xs.map V.int).length : Int) + ((ys.map V.int).length : Int) - 1 = (T' : Int) := by rw [List.length_map, List.length_map]; omega
  refine ⟨small (by show 1 ≤ 1000; decide), fun u ku => ?_⟩
  have gu := same_new ku (.lst [.int 0])
  refine ⟨_, rfl, a, _, rfl, .inl (SqL.of (gu _ _ ha2)), _, rfl, b, _, rfl, .inl (SqL.of (gu _ _ hb2)), _, _, rfl, rfl, _, _, rfl, rfl, u, _, _, rfl, rfl, upd_same, by omega, by omega, small (by rw [eN]; show 1 * _ ≤ 1000; omega), fun D kD => ?_⟩
  have er : (List.replicate (((xs.map V.int).length : Int) + ((ys.map V.int).length : Int) - 1).toNat [V.int 0]).flatten = (List.replicate T' (0 : Int)).map V.int := by
    rw [eN, Int.toNat_natCast, List.map_replicate]
    generalize T' = j
    induction j with
    | zero => rfl
    | succ j ih => rw [List.replicate_succ, List.replicate_succ, List.flatten_cons, ih]; rfl
  rw [er]
  have gD := g0.trans (gu.trans (same_new kD (.lst ((List.replicate T' (0 : Int)).map V.int))))
  have kD : H D = none := none_of (g0.trans gu) kD
  have hD0 : upd (upd H2 u (.lst [.int 0])) D (.lst ((List.replicate T' (0 : Int)).map V.int)) D = some (.lst ((List.replicate T' (0 : Int)).map V.int)) := upd_same
  dsimp only [gName]
  generalize upd (upd H2 u (.lst [.int 0])) D (.lst ((List.replicate T' (0 : Int)).map V.int)) = H3 at gD hD0 ⊢
  refine ⟨_, rfl, a, _, rfl, SqL.of (gD _ _ ha), ?_⟩
  refine for_enumL (xs := xs.map V.int) (fun i σ H' => ∃ (zs : List Int) (v3 v4 v5 v6 : Option V), σ = [some (.ref a), some (.ref b), some (.ref D), v3, v4, v5, v6] ∧ Same H H' ∧ H' D = some (.lst (zs.map V.int)) ∧ zs.length = T' ∧ bdL (4000 + i * ys.length) zs ∧ (∀ X Y : Int, wH (T' - 1) zs X Y = wH (xs.length - 1) (xs.take i) X Y * wH (ys.length - 1) ys X Y)) ⟨_, none, none, none, none, rfl, gD, hD0, List.length_replicate, fun c hc => ?_, fun X Y => by rw [wH_zero, List.take_zero]; show 0 = 0 * _; rw [Int.zero_mul]⟩ (fun i σ H' z => by obtain ⟨_, _, _, _, _, _, g, _⟩ := z; exact SqL.of (g _ _ ha)) ?_ ?_
  · rw [(List.mem_replicate.mp hc).2]
    exact Nat.two_pow_pos _
  · rintro i t v σ H4 hv ht ⟨zs, v3, v4, v5, v6, rfl, g, hD, lz, bz, hz⟩
    rw [List.getElem?_map] at hv
    cases hf : xs[i]? with
    | none => rw [hf] at hv; cases hv
    | some x =>
      rw [hf] at hv
      cases hv
      have hi : i < xs.length := (List.getElem?_eq_some_iff.mp hf).1
      have ex : xs.getD i 0 = x := by rw [List.getD_eq_getElem?_getD, hf]; rfl
      refine ⟨t, _, rfl, SqT.of upd_same, rfl, _, _, rfl, _, _, rfl, rfl, ?_⟩
      have gt := same_new ht (.tup [.int (i : Int), .int x])
      have g := g.trans gt
      have hD := gt _ _ hD
      generalize upd H4 t (.tup [.int (i : Int), .int x]) = H5 at g hD ⊢
      refine ⟨_, rfl, b, _, rfl, SqL.of (g _ _ hb), ?_⟩
      refine for_enumL (xs := ys.map V.int) (fun j σ H' => ∃ (zs : List Int) (v5 v6 : Option V), σ = [some (.ref a), some (.ref b), some (.ref D), some (.int (i : Int)), some (.int x), v5, v6] ∧ Same H H' ∧ H' D = some (.lst (zs.map V.int)) ∧ zs.length = T' ∧ bdL (4000 + i * ys.length + j) zs ∧ (∀ X Y : Int, wH (T' - 1) zs X Y = wH (xs.length - 1) (xs.take i) X Y * wH (ys.length - 1) ys X Y + xs.getD i 0 * X ^ i * Y ^ (xs.length - 1 - i) * wH (ys.length - 1) (ys.take j) X Y)) ⟨zs, v5, v6, rfl, g, hD, lz, bz, fun X Y => by rw [hz X Y, List.take_zero]; show _ = _ + _ * 0; rw [Int.mul_zero, Int.add_zero]⟩ (fun i σ H' z => by obtain ⟨_, _, _, _, g, _⟩ := z; exact SqL.of (g _ _ hb)) ?_ ?_
      · clear bz lz hD hz g gt
        rintro j t v σ H6 hv ht ⟨zs, v5, v6, rfl, g, hD, lz, bz, hz⟩
        rw [List.getElem?_map] at hv
        cases hg : ys[j]? with
        | none => rw [hg] at hv; cases hv
        | some y =>
          rw [hg] at hv
          cases hv
          have hj : j < ys.length := (List.getElem?_eq_some_iff.mp hg).1
          refine ⟨t, _, rfl, SqT.of upd_same, rfl, _, _, rfl, _, _, rfl, rfl, ?_⟩
          have gt := same_new ht (.tup [.int (j : Int), .int y])
          have g := g.trans gt
          have hD := gt _ _ hD
          generalize upd H6 t (.tup [.int (j : Int), .int y]) = H7 at g hD ⊢
          have lk : i + j < zs.length := by omega
          obtain ⟨z, hzk, mz, ez⟩ := getD_mem' lk
          have au : atI (zs.map V.int) ((i : Int) + (j : Int)) = some (.int z) := by rw [show (i : Int) + (j : Int) = ((i + j : Nat) : Int) by omega]; exact atI_nat (by rw [List.getElem?_map, hzk]; rfl)
          have bX := bx x (List.mem_of_getElem? hf)
          have bY := by' y (List.mem_of_getElem? hg)
          have ij : i * ys.length ≤ 400 := Nat.le_trans (Nat.mul_le_mul (show i ≤ 20 by omega) y20) (by decide)
          have bU := bz z mz
          refine ⟨_, rfl, _, rfl, _, rfl, _, _, rfl, rfl, D, _, _, _, rfl, rfl, SqL.of hD, au, _, rfl, _, rfl, _, _, rfl, rfl, ⟨bX.mono (by omega), bY.mono (by omega)⟩, _, _, rfl, rfl, ?_⟩
          refine ⟨_, rfl, _, rfl, _, rfl, _, _, rfl, rfl, D, _, _, i + j, rfl, rfl, hD, ?_, zs.set (i + j) (z + x * y), _, _, rfl, same_upd kD g, ?_, by rw [List.length_set]; exact lz, ?_, ?_⟩
          · show ixN (zs.map V.int).length ((i : Int) + (j : Int)) = _
            rw [show (i : Int) + (j : Int) = ((i + j : Nat) : Int) by omega]
            exact ix_nat (by rw [List.length_map]; exact lk)
          · rw [upd_same]
            show some (HO.lst ((zs.map V.int).set (i + j) (.int (z + x * y)))) = _
            rw [map_set_int]
          · have bXY := bX.mul bY
            refine bdL.set (bdL.mono (M := 4000 + i * ys.length + (j + 1)) bz (by omega)) ?_
            exact (LN.Bd.add bU (bXY.mono (by omega))).mono (by omega)
          · intro X Y
            rw [wH_set hzk, hz X Y, wH_take hg, ex, Int.pow_add, show T' - 1 - (i + j) = (xs.length - 1 - i) + (ys.length - 1 - j) by omega, Int.pow_add]
            grind
      · rintro σ H6 ⟨zs', v5, v6, rfl, g6, hD6, lz6, bz6, hz6⟩
        rw [List.length_map] at bz6 hz6
        exact ⟨zs', _, _, _, _, rfl, g6, hD6, lz6, bdL.mono bz6 (by rw [Nat.succ_mul]; omega), fun X Y => by rw [hz6 X Y, wH_take hf, ex, List.take_length]; grind⟩
  rintro σ H4 ⟨zs, v3, v4, v5, v6, rfl, g, hD, lz, bz, hz⟩
  rw [List.length_map] at hz
  exact ⟨_, rfl, q D zs H4 g kD hD lz (fun X Y => by rw [homL_w, homL_w, homL_w, lz, hz X Y, List.take_length])⟩
theorem ok_l_number (T : Txt K mg) : FnOk P w K mg base CX0 1 T.f_l_number T.d_l_number ["_law_cell"] spNum61 := by
  refine T.F_l_number.okq sc_l_number (fun vs H Q E h => ?_) (fun cdv A outer s H vs Q E hr h => ?_)
  · obtain ⟨c, rfl, _⟩ := h
    rfl
  obtain ⟨c, rfl, bc, q⟩ := h
  have pw12 : CPow 10 12 := ⟨by decide, by decide, by decide⟩
  have pw59 : CPow 10 59 := ⟨by decide, by decide, by decide⟩
  have bd := div_bd bc (show (0 : Int) < 4 by decide)
  have D12 : (0 : Int) < 2 * (10 : Int) ^ (12 : Int).toNat + 1 := by rw [e12]; decide
  have D59 : (0 : Int) < 2 * (10 : Int) ^ (59 : Int).toNat + 1 := by rw [e59]; decide
  have b12 : LN.Bd 1000000 ((10 : Int) ^ (12 : Int).toNat) := by rw [e12]; exact (LN.Bd.of_abs (n := 200) (b := 1000000000000) (by omega) (by omega) (by decide +kernel)).mono (by decide)
  have b59 : LN.Bd 1000000 ((10 : Int) ^ (59 : Int).toNat) := by rw [e59]; exact (LN.Bd.of_abs (n := 200) (b := 100000000000000000000000000000000000000000000000000000000000) (by omega) (by omega) (by decide +kernel)).mono (by decide)
  have b2 : LN.Bd 1000000 2 := bd_small (by decide) (by decide) (by decide)
  unfold numF at q
  refine ⟨_, (qpss_cons (qps_set (i := 1) sc_l_number.nd rfl (Or.inl rfl) (qpe_op op_fdivB (qpv 0) qpe_int))
    (qpss_cons (qps_if (qpt_cmpR op_eq (qpe_op op_mod (qpv 0) qpe_int) qpe_int (nomark _)) (qpss_one (qps_ret (qpe_op op_sub (qpe_op op_mod (qpe_op op_mulX (qpv 1) qpe_int) (qpe_op op_add (qpe_op op_mulB qpe_int (qpe_op op_pow qpe_int qpe_int)) qpe_int)) (qpe_op op_pow qpe_int qpe_int)))) qpss_nil)
    (qpss_cons (qps_if (qpt_cmpR op_eq (qpe_op op_mod (qpv 0) qpe_int) qpe_int (nomark _)) (qpss_one (qps_ret (qpe_op op_sub (qpe_op op_mod (qpe_op op_mulX (qpv 1) qpe_int) (qpe_op op_add (qpe_op op_mulB qpe_int (qpe_op op_pow qpe_int qpe_int)) qpe_int)) (qpe_op op_pow qpe_int qpe_int)))) qpss_nil)
    (qpss_one (qps_ret (qpe_op op_sub (qpe_op op_mod (qpv 1) qpe_int) qpe_int)))))), ?_⟩
  refine ⟨_, rfl, _, _, rfl, rfl, dsm (by decide) (by decide), ?_⟩
  dsimp only [gName]
  refine ⟨_, rfl, _, _, rfl, rfl, (by show (0 : Int) < 4; decide), rfl, _, rfl, iteI (fun e => ?_) (fun ne => ?_)⟩
  · rw [if_pos e] at q
    exact ⟨_, rfl, _, _, rfl, rfl, ⟨bd.mono (by decide), bd_small (by decide) (by decide) (by decide)⟩, _, _, rfl, rfl, pw12, _, _, rfl, rfl, ⟨b2, b12⟩, _, _, rfl, rfl, _, _, rfl, rfl, D12, _, _, rfl, rfl, pw12, _, _, rfl, rfl, q⟩
  · rw [if_neg ne] at q
    refine ⟨_, rfl, _, _, rfl, rfl, (by show (0 : Int) < 4; decide), rfl, _, rfl, iteI (fun e => ?_) (fun ne => ?_)⟩
    · rw [if_pos e] at q
      exact ⟨_, rfl, _, _, rfl, rfl, ⟨bd.mono (by decide), bd_small (by decide) (by decide) (by decide)⟩, _, _, rfl, rfl, pw59, _, _, rfl, rfl, ⟨b2, b59⟩, _, _, rfl, rfl, _, _, rfl, rfl, D59, _, _, rfl, rfl, pw59, _, _, rfl, rfl, q⟩
    · rw [if_neg ne] at q
      exact ⟨_, rfl, _, _, rfl, rfl, (by show (0 : Int) < 19; decide), _, _, rfl, rfl, q⟩
theorem ok_l_list (T : Txt K mg) : FnOk P w K mg base CX0 2 T.f_l_list T.d_l_list ["_law_cells"] spList61 := by
  have G_l_number := ok_l_number (P := P) (w := w) (base := base) T
  refine T.F_l_list.okq sc_l_list (fun vs H Q E h => ?_) (fun cdv A outer s H vs Q E hr h => ?_)
  · obtain ⟨a, cs, rfl, _⟩ := h
    rfl
  obtain ⟨a, cs, rfl, ha, c1, c9, bc, q⟩ := h
  refine ⟨_, (qpss_cons (qps_comp (i := 1) (caps := []) (idx := []) rfl sc_l_list.nd rfl rfl ⟨rfl, by decide +kernel, rfl, by decide +kernel, rfl, by decide +kernel, rfl, trivial, by decide +kernel, rfl, by decide +kernel⟩ (qpi_list (qpv 0)) (fun _ _ _ _ => qif_none) (fun _ _ _ _ => (qpe_call G_l_number hr rfl T.m_l_number T.k_l_number T.b_l_number .nil pass0 (qpa_cons (hs := star_Name) (qpv 0) qpa_nil))))
    (qpss_cons (qps_if (QW.pt (qpw_and (qpt_cmpR (op_neI2 hr.u40) (qpv 1) (qpe_lst qpa_nil) (nomark _)) (qpw_and1 (qpt_cmpR op_eq (qpe_ix ix_list (qpv 1) (qpe_un un_neg qpe_int) (fun _ _ => rfl)) qpe_int (nomark _))))) (qpss_one (qps_asg qpe_int (qpg_sub (qpv 1) (qpe_un un_neg qpe_int) set_list))) qpss_nil)
    (qpss_one (qps_ret (qpv 1))))), ?_⟩
  refine ⟨_, rfl, a, rfl, ⟨_, SqL.of ha⟩, fun D kD => ?_⟩
  refine comp_plain (xs := cs.map V.int) (c := fun _ => true) (f := fun v => match v with | .int k => .int (numF k) | v => v) plain_list (by rw [List.length_map]; exact small1000 (by omega)) kD (fun ys => SqL.of (same_new kD _ _ _ ha)) (fun x _ ys R r => r) (fun x hx _ ys R r => ?_) ?_
  · obtain ⟨c, hc, rfl⟩ := List.mem_map.mp hx
    exact ⟨_, rfl, c, rfl, bc c hc, r⟩
  have e1 : (((cs.map V.int).filter fun _ => true).map fun v => match v with | .int k => V.int (numF k) | v => v) = (cs.map numF).map V.int := by
    rw [List.filter_eq_self.mpr (fun _ _ => rfl), List.map_map, List.map_map]
    rfl
  rw [e1]
  have lx : (cs.map numF).length = cs.length := List.length_map _
  have bx : bdL 200 (cs.map numF) := fun c hc => by
    obtain ⟨k, _, rfl⟩ := List.mem_map.mp hc
    exact numF_bd k
  generalize cs.map numF = xs at lx bx ⊢
  clear e1
  have gD := same_new kD (.lst (xs.map V.int))
  have hD : upd H D (.lst (xs.map V.int)) D = some (.lst (xs.map V.int)) := upd_same
  dsimp only [gName]
  generalize upd H D (.lst (xs.map V.int)) = H1 at gD hD ⊢
  have ne : xs ≠ [] := fun z => by rw [z] at lx; change 0 = _ at lx; omega
  obtain ⟨ds, z, ez⟩ : ∃ ds z, xs = ds ++ [z] := ⟨xs.dropLast, xs.getLast ne, (List.dropLast_concat_getLast ne).symm⟩
  have lds : xs.length = ds.length + 1 := by rw [ez, List.length_append]; rfl
  have hl : atI (xs.map V.int) (-1) = some (.int z) := by
    rw [ez, List.map_append]
    exact atI_last _ _
  refine ⟨_, rfl, small (by show 0 ≤ 1000; decide), fun u ku => ?_⟩
  have gu := same_new ku (.lst [])
  have hu : upd H1 u (.lst []) u = some (.lst (([] : List Int).map V.int)) := upd_same
  have hD := gu _ _ hD
  generalize upd H1 u (.lst []) = H2 at gu hu hD ⊢
  have g2 := gD.trans gu
  refine ⟨D, u, xs, [], rfl, rfl, .inr ⟨SqL.of hD, SqL.of hu⟩, _, rfl, ?_⟩
  have en : (if true = true then !decide (xs = []) else decide (xs = [])) = true := by rw [if_pos rfl, decide_eq_false ne]; rfl
  rw [en]
  refine iteT ⟨_, rfl, _, rfl, D, _, _, _, rfl, rfl, SqL.of hD, hl, rfl, _, rfl, iteI (fun z0 => ?_) (fun nz => ?_)⟩
  · refine ⟨_, rfl, _, rfl, D, _, _, ds.length, rfl, rfl, hD, ?_, ?_⟩
    · show ixN (xs.map V.int).length (-1) = some ds.length
      rw [List.length_map, lds]
      unfold ixN
      rw [if_neg (by decide), if_pos (by omega)]
      exact congrArg some (by omega)
    · have es : xs.set ds.length 1 = ds ++ [1] := by
        rw [ez, List.set_append_right _ _ (Nat.le_refl _), Nat.sub_self]
        rfl
      refine ⟨_, rfl, q D (xs.set ds.length 1) _ (same_upd kD g2) kD ?_ (by rw [List.length_set]; exact lx) (bdL.set bx (bd_small (by decide) (by decide) (by decide))) ?_⟩
      · rw [upd_same]
        show some (HO.lst ((xs.map V.int).set ds.length (.int 1))) = _
        rw [map_set_int]
      · rw [es, List.getLast?_append]
        exact fun y => by cases (show some (1 : Int) = some 0 from y)
  · refine ⟨_, rfl, q D xs H2 g2 kD hD lx bx ?_⟩
    rw [ez, List.getLast?_append]
    exact fun y => nz (Option.some.inj (show some z = some 0 from y))
theorem ok_l_part (T : Txt K mg) : FnOk P w K mg base CX0 2 T.f_l_part T.d_l_part ["_law_top", "_law_bottom"] spPart61 := by
  have G_l_divisor := ok_l_divisor (P := P) (w := w) (base := base) T
  refine T.F_l_part.okq sc_l_part (fun vs H Q E h => ?_) (fun cdv A outer s H vs Q E hr h => ?_)
  · obtain ⟨x, y, rfl, _⟩ := h
    rfl
  obtain ⟨x, y, rfl, q⟩ := h
  have e29 : (10 : Int) ^ (29 : Int).toNat = 100000000000000000000000000000 := by decide +kernel
  have pw29 : CPow 10 29 := ⟨by decide, by decide, by decide⟩
  have P29 : (0 : Int) < (10 : Int) ^ (29 : Int).toNat := by rw [e29]; decide
  have D29 : (0 : Int) < 2 * (10 : Int) ^ (29 : Int).toNat + 1 := by omega
  have b29 : LN.Bd 1000000 ((10 : Int) ^ (29 : Int).toNat) := by rw [e29]; exact (LN.Bd.of_abs (n := 200) (b := 100000000000000000000000000000) (by omega) (by omega) (by decide +kernel)).mono (by decide)
  refine ⟨_, (qpss_cons (qps_if (qpt_cmpR op_eq (qpe_op op_mod (qpv 0) qpe_int) qpe_int (nomark _)) (qpss_cons (qps_set (i := 0) sc_l_part.nd rfl (Or.inl rfl) (qpe_op op_sub (qpe_op op_mod (qpe_op op_fdivB (qpv 0) qpe_int) (qpe_op op_add (qpe_op op_mulB qpe_int (qpe_op op_pow qpe_int qpe_int)) qpe_int)) (qpe_op op_pow qpe_int qpe_int)))
    (qpss_one (qps_set (i := 1) sc_l_part.nd rfl (Or.inl rfl) (qpe_op op_add qpe_int (qpe_op op_mod (qpv 1) (qpe_op op_pow qpe_int qpe_int)))))) (qpss_cons (qps_set (i := 0) sc_l_part.nd rfl (Or.inl rfl) (qpe_op op_sub (qpe_op op_mod (qpe_op op_fdivB (qpv 0) qpe_int) qpe_int) qpe_int))
    (qpss_one (qps_set (i := 1) sc_l_part.nd rfl (Or.inl rfl) (qpe_op op_add qpe_int (qpe_op op_mod (qpv 1) qpe_int))))))
    (qpss_cons (qps_set (i := 2) sc_l_part.nd rfl (Or.inl rfl) (qpe_call G_l_divisor hr rfl T.m_l_divisor T.k_l_divisor T.b_l_divisor .nil pass0 (qpa_cons (hs := star_Name) (qpv 0) (qpa_cons (hs := star_Name) (qpv 1) qpa_nil))))
    (qpss_one (qps_ret (qpe_tup (qpa_cons (hs := star_BinOp) (qpe_op op_fdivB (qpv 0) (qpv 2)) (qpa_cons (hs := star_BinOp) (qpe_op op_fdivB (qpv 1) (qpv 2)) qpa_nil))))))), ?_⟩
  refine seq_of (fun σ H' => H' = H ∧ ∃ t b : Int, 1 ≤ b ∧ (t.natAbs : Int) ≤ 100000000000000000000000000000 ∧ b ≤ 100000000000000000000000000000 ∧ σ = [some (.int t), some (.int b), none]) ?_ (fun nx go => ?_)
  rotate_left
  · refine ⟨_, rfl, _, _, rfl, rfl, (by show (0 : Int) < 4; decide), rfl, _, rfl, iteI (fun _ => ?_) (fun _ => ?_)⟩
    · refine ⟨_, rfl, _, _, rfl, rfl, dsm (by decide) (by decide), _, _, rfl, rfl, pw29, _, _, rfl, rfl, ⟨bd_small (by decide) (by decide) (by decide), b29⟩, _, _, rfl, rfl, _, _, rfl, rfl, D29, _, _, rfl, rfl, pw29, _, _, rfl, rfl, ?_⟩
      dsimp only [gName]
      refine ⟨_, rfl, _, _, rfl, rfl, pw29, _, _, rfl, rfl, P29, _, _, rfl, rfl, go _ _ ⟨rfl, _, _, ?_, ?_, ?_, rfl⟩⟩
      · have := Int.emod_nonneg y (show (10 : Int) ^ (29 : Int).toNat ≠ 0 by omega)
        omega
      · have h1 := Int.emod_nonneg (x / 4) (show 2 * (10 : Int) ^ (29 : Int).toNat + 1 ≠ 0 by omega)
        have h2 := Int.emod_lt_of_pos (x / 4) D29
        rw [e29] at h1 h2 ⊢
        omega
      · have h2 := Int.emod_lt_of_pos y P29
        rw [e29] at h2 ⊢
        omega
    · refine ⟨_, rfl, _, _, rfl, rfl, dsm (by decide) (by decide), _, _, rfl, rfl, (by show (0 : Int) < 41; decide), _, _, rfl, rfl, ?_⟩
      dsimp only [gName]
      exact ⟨_, rfl, _, _, rfl, rfl, (by show (0 : Int) < 12; decide), _, _, rfl, rfl, go _ _ ⟨rfl, _, _, by omega, by omega, by omega, rfl⟩⟩
  rintro σ H' ⟨rfl, t, b, b1, bt, bb, rfl⟩
  refine ⟨_, rfl, _, rfl, t, b, rfl, ?_⟩
  dsimp only [gName]
  have gb : ((Nat.gcd t.natAbs b.natAbs : Nat) : Int) ∣ b := Int.ofNat_dvd_left.mpr (Nat.gcd_dvd_right _ _)
  have gp : 0 < Nat.gcd t.natAbs b.natAbs := Nat.gcd_pos_of_pos_right _ (by omega)
  have gS : Nat.gcd t.natAbs b.natAbs ≤ b.natAbs := Nat.le_of_dvd (by omega) (Nat.gcd_dvd_right _ _)
  have gt : ((Nat.gcd t.natAbs b.natAbs : Nat) : Int) ∣ t := Int.ofNat_dvd_left.mpr (Nat.gcd_dvd_left _ _)
  generalize Nat.gcd t.natAbs b.natAbs = g at gb gp gS gt ⊢
  have G0 : (0 : Int) < (g : Int) := by omega
  have bg : LN.Bd 8000 (g : Int) := (LN.Bd.of_abs (n := 200) (b := 100000000000000000000000000000) (by omega) (by omega) (by decide +kernel)).mono (by decide)
  have bt' : ((t / (g : Int)).natAbs : Int) ≤ 100000000000000000000000000000 := by
    rw [Int.natAbs_ediv_of_dvd gt, Int.natAbs_natCast]
    have := Nat.div_le_self t.natAbs g
    omega
  obtain ⟨b', eb⟩ := gb
  have e1 : b / (g : Int) = b' := by rw [eb]; exact Int.mul_ediv_cancel_left _ (by omega)
  have b0' : 0 < b' := Int.pos_of_mul_pos_right (a := (g : Int)) (by omega) (by omega)
  have bl : b' ≤ b := Int.le_of_dvd (by omega) ⟨g, by rw [eb, Int.mul_comm]⟩
  refine ⟨_, rfl, _, rfl, _, _, rfl, rfl, ⟨G0, bg⟩, _, rfl, _, rfl, _, _, rfl, rfl, ⟨G0, bg⟩, small (by show 2 ≤ 1000; decide), fun d kd => ?_⟩
  refine q d (t / (g : Int)) (b / (g : Int)) _ (same_new kd _) upd_same (by rw [e1]; omega) (LN.Bd.of_abs (b := 100000000000000000000000000000) (by omega) (by omega) (by decide +kernel)) ?_
  rw [e1]
  exact LN.Bd.of_abs (b := 100000000000000000000000000000) (by omega) (by omega) (by decide +kernel)
theorem hom_step {L : List Int} {i : Nat} {c x y : Int} (h : L[i]? = some c) : homL (L.drop i) x y = homL (L.drop (i + 1)) x y * x + c * y ^ (L.length - (i + 1)) := by
  have li : i < L.length := (List.getElem?_eq_some_iff.mp h).1
  have e1 := List.drop_eq_getElem_cons li
  rw [List.getElem?_eq_getElem li] at h
  cases h
  rw [e1]
  have ll : (L.drop (i + 1)).length = L.length - (i + 1) := List.length_drop
  rw [← ll]
  cases hd : L.drop (i + 1) with
  | nil => show L[i] = 0 * x + L[i] * y ^ 0; rw [Int.pow_zero]; omega
  | cons d M => rfl
theorem ok_l_worth_right (T : Txt K mg) : FnOk P w K mg base CX0 4 T.f_l_worth_right T.d_l_worth_right ["_law_poly", "_law_part_here"] spWorthR61 := by
  have G_l_whole := (ok_l_whole (P := P) (w := w) (base := base) T).mono (k := 3) (by decide)
  have G_l_divisor := (ok_l_divisor (P := P) (w := w) (base := base) T).mono (k := 3) (by decide)
  have G_worth_at := ok_worth_at (P := P) (w := w) (base := base) T
  refine T.F_l_worth_right.okq sc_l_worth_right (fun vs H Q E h => ?_) (fun cdv A outer s H vs Q E hr h => ?_)
  · obtain ⟨a, t, L, x, y, rfl, _⟩ := h
    rfl
  obtain ⟨a, t, L, x, y, rfl, ha, l1, l20, bL, ht, y0, bx, by', q⟩ := h
  have i0 : ∀ {x y : V}, atI [x, y] 0 = some x := fun {x y} => atI_nat (j := 0) rfl
  have i1 : ∀ {x y : V}, atI [x, y] 1 = some y := fun {x y} => atI_nat (j := 1) rfl
  refine ⟨_, (qpss_cons (qps_asg (qpv 1) (qpg_tup rfl (qpgs_cons (qpg_name (i := 2) sc_l_worth_right.nd rfl (Or.inl rfl)) (qpgs_cons (qpg_name (i := 3) sc_l_worth_right.nd rfl (Or.inl rfl)) qpgs_nil))))
    (qpss_cons (qps_set (i := 4) sc_l_worth_right.nd rfl (Or.inl rfl) qpe_int)
    (qpss_cons (qps_set (i := 5) sc_l_worth_right.nd rfl (Or.inl rfl) qpe_int)
    (qpss_cons (qps_for PassesOwn.never rfl (qpi_rev rfl T.z_reversed (qpa_cons (hs := star_Name) (qpv 0) qpa_nil)) (qpg_name (i := 6) sc_l_worth_right.nd rfl (Or.inl rfl)) (qpss_cons (qps_set (i := 4) sc_l_worth_right.nd rfl (Or.inl rfl) (qpe_op op_add (qpe_op op_mulB (qpv 4) (qpv 2)) (qpe_op op_mulB (qpv 6) (qpv 5))))
    (qpss_one (qps_set (i := 5) sc_l_worth_right.nd rfl (Or.inl rfl) (qpe_op op_mulB (qpv 5) (qpv 3))))))
    (qpss_cons (qps_set (i := 5) sc_l_worth_right.nd rfl (Or.inl rfl) (qpe_op op_fdivB (qpv 5) (qpv 3)))
    (qpss_cons (qps_set (i := 7) sc_l_worth_right.nd rfl (Or.inl rfl) (qpe_call G_worth_at hr rfl T.m_worth_at T.k_worth_at T.b_worth_at .nil pass0 (qpa_cons (hs := star_Name) (qpv 0) (qpa_cons (hs := star_Name) (qpv 1) qpa_nil))))
    (qpss_cons (qps_if (QW.pt (qpw_or (qpt_not (qpt_val (qpe_callB call_inst rfl T.z_isinstance bt_isinstance (qpa_cons (hs := star_Name) (qpv 7) (qpa_cons (hs := star_Name) (qpe_bltn (v := .ty "tuple") rfl T.z_tuple bt_tuple rfl) qpa_nil))))) (qpw_or (qpt_cmpR op_ne (qpe_callB call_len_seq rfl T.z_len bt_len (qpa_cons (hs := star_Name) (qpv 7) qpa_nil)) qpe_int (nomark _)) (qpw_or (qpt_not (qpt_val (qpe_call G_l_whole hr rfl T.m_l_whole T.k_l_whole T.b_l_whole .nil pass0 (qpa_cons (hs := star_Subscript) (qpe_ix ix_tup (qpv 7) qpe_int (fun _ _ => rfl)) qpa_nil)))) (qpw_or1 (qpt_not (qpt_val (qpe_call G_l_whole hr rfl T.m_l_whole T.k_l_whole T.b_l_whole .nil pass0 (qpa_cons (hs := star_Subscript) (qpe_ix ix_tup (qpv 7) qpe_int (fun _ _ => rfl)) qpa_nil))))))))) (qpss_one (qps_ret qpe_bl)) qpss_nil)
    (qpss_one (qps_ret (qpe_and (qpe_cmpR op_gt (qpe_ix ix_tup (qpv 7) qpe_int (fun _ _ => rfl)) qpe_int (nomark _)) (qpe_and (qpe_cmpR op_eq (qpe_call G_l_divisor hr rfl T.m_l_divisor T.k_l_divisor T.b_l_divisor .nil pass0 (qpa_cons (hs := star_Subscript) (qpe_ix ix_tup (qpv 7) qpe_int (fun _ _ => rfl)) (qpa_cons (hs := star_Subscript) (qpe_ix ix_tup (qpv 7) qpe_int (fun _ _ => rfl)) qpa_nil))) qpe_int (nomark _)) (qpe_one (qpe_cmpR op_eq (qpe_op op_mulB (qpe_ix ix_tup (qpv 7) qpe_int (fun _ _ => rfl)) (qpv 5)) (qpe_op op_mulB (qpv 4) (qpe_ix ix_tup (qpv 7) qpe_int (fun _ _ => rfl))) (nomark _)))))))))))))), ?_⟩
  refine ⟨_, rfl, t, _, rfl, SqT.of ht, rfl, _, _, rfl, _, _, rfl, rfl, ?_⟩
  refine ⟨_, rfl, a, _, rfl, SqL.of ha, ?_⟩
  refine for_revN (fun i σ H' => H' = H ∧ LN.Bd (1000 + 3000 * i) (homL (L.drop (L.length - i)) x y) ∧ ∃ v : Option V, σ = [some (.ref a), some (.ref t), some (.int x), some (.int y), some (.int (homL (L.drop (L.length - i)) x y)), some (.int (y ^ i)), v, none]) ⟨rfl, ?_, none, ?_⟩ (fun i σ H' _ z => by rw [z.1]; exact SqL.of ha) ?_ ?_
  · rw [Nat.sub_zero, List.drop_length]
    exact Nat.two_pow_pos _
  · rw [Nat.sub_zero, List.drop_length, Int.pow_zero]
    rfl
  · rintro i v σ H' hv hi ⟨rfl, bi, o, rfl⟩
    rw [List.length_map] at hv hi
    rw [List.getElem?_map] at hv
    cases hf : L[L.length - 1 - i]? with
    | none => rw [hf] at hv; cases hv
    | some c =>
      rw [hf] at hv
      cases hv
      have e := hom_step (x := x) (y := y) hf
      rw [show L.length - 1 - i + 1 = L.length - i by omega, show L.length - 1 - i = L.length - (i + 1) by omega, show L.length - (L.length - i) = i by omega] at e
      have byi : LN.Bd 2300 (y ^ i) := (by'.pow i).mono (by omega)
      have bc := bL c (List.mem_of_getElem? hf)
      refine ⟨_, rfl, _, rfl, _, _, rfl, rfl, ⟨bi.mono (by omega), bx.mono (by decide)⟩, _, rfl, _, rfl, _, _, rfl, rfl, ⟨bc.mono (by decide), byi.mono (by decide)⟩, _, _, rfl, rfl, ?_⟩
      dsimp only [gName]
      refine ⟨_, rfl, _, rfl, _, _, rfl, rfl, ⟨byi.mono (by decide), by'.mono (by decide)⟩, rfl, ?_, some (.int c), ?_⟩
      · rw [e]
        exact (LN.Bd.add (n := 1000 + 3000 * i + 2500) ((bi.mul bx).mono (by omega)) ((bc.mul byi).mono (by omega))).mono (by omega)
      · rw [e, Int.pow_succ]
        rfl
  rintro σ H' ⟨rfl, bd, o, rfl⟩
  rw [List.length_map] at bd
  rw [List.length_map]
  rw [Nat.sub_self, List.drop_zero] at bd ⊢
  have byn : LN.Bd 2300 (y ^ L.length) := (by'.pow L.length).mono (by omega)
  have ed : y ^ L.length / y = y ^ (L.length - 1) := by
    rw [show y ^ L.length = y ^ (L.length - 1) * y by rw [← Int.pow_succ]; exact congrArg (y ^ ·) (by omega)]
    exact Int.mul_ediv_cancel _ (by omega)
  refine ⟨_, rfl, _, rfl, _, _, rfl, rfl, ⟨by omega, by'.mono (by decide)⟩, ?_⟩
  dsimp only [gName]
  rw [ed]
  refine ⟨_, rfl, _, rfl, a, t, L, x, y, rfl, ha, l1, l20, (fun c hc => (bL c hc).mono (by decide)), ht, by omega, bx.mono (by decide), by'.mono (by decide), fun c X Y H1 g1 hc low => ?_⟩
  dsimp only [gName]
  have hc : H1 c = some (.tup [.int X, .int Y]) := hc
  have bX : LN.Bd 100000 X := (low.bdx (Int.ne_of_gt (Int.pow_pos (by omega))) bd).mono (by omega)
  have bY : LN.Bd 100000 Y := (low.bdy (Int.ne_of_gt (Int.pow_pos (by omega))) (show LN.Bd 2300 (y ^ (L.length - 1)) from (by'.pow (L.length - 1)).mono (by omega))).mono (by decide)
  refine ⟨_, rfl, _, _, _, true, rfl, TyOf.tup hc, Kind.tup.kit_tuple, _, rfl, iteF ⟨_, rfl, _, _, rfl, .inr (SqT.of hc), rfl, _, rfl, iteNS rfl ⟨_, rfl, c, _, _, _, rfl, rfl, SqT.of hc, i0, _, rfl, Thing.int _, _, rfl, iteF ⟨_, rfl, c, _, _, _, rfl, rfl, SqT.of hc, i1, _, rfl, Thing.int _, _, rfl, iteF ?_⟩⟩⟩⟩
  refine ⟨_, rfl, c, _, _, _, rfl, rfl, SqT.of hc, i1, _, _, rfl, rfl, _, rfl, ?_⟩
  have e1 : decide (0 < Y) = true := decide_eq_true low.pos
  rw [e1]
  have ec := low.cop
  have eq := low.eq
  refine iteT ⟨_, rfl, c, _, _, _, rfl, rfl, SqT.of hc, i0, _, rfl, c, _, _, _, rfl, rfl, SqT.of hc, i1, X, Y, rfl, rfl, _, rfl, ?_⟩
  rw [ec, decide_eq_true (show V.int ((1 : Nat) : Int) = V.int 1 from rfl)]
  refine iteT ⟨_, rfl, c, _, _, _, rfl, rfl, SqT.of hc, i0, _, rfl, _, _, rfl, rfl, ⟨bX.mono (by decide), (show LN.Bd 2300 (y ^ (L.length - 1)) from (by'.pow (L.length - 1)).mono (by omega)).mono (by decide)⟩, _, rfl, _, rfl, c, _, _, _, rfl, rfl, SqT.of hc, i1, _, _, rfl, rfl, ⟨bd.mono (by omega), bY.mono (by decide)⟩, rfl, ?_⟩
  show Q (V.bl (decide (V.int (X * y ^ (L.length - 1)) = V.int (homL L x y * Y)))) _
  rw [decide_eq_true (congrArg V.int eq)]
  exact q _ g1
theorem ok_l_row_right (T : Txt K mg) : FnOk P w K mg base CX0 2 T.f_l_row_right T.d_l_row_right ["_law_found", "_law_due"] spRowR61 := by
  have G_l_whole := ok_l_whole (P := P) (w := w) (base := base) T
  refine T.F_l_row_right.okq sc_l_row_right (fun vs H Q E h => ?_) (fun cdv A outer s H vs Q E hr h => ?_)
  · obtain ⟨a, b, xs, rfl, _⟩ := h
    rfl
  obtain ⟨a, b, xs, rfl, ha, hb, l100, q⟩ := h
  refine ⟨_, (qpss_cons (qps_if (QW.pt (qpw_or (qpt_not (qpt_val (qpe_callB call_inst rfl T.z_isinstance bt_isinstance (qpa_cons (hs := star_Name) (qpv 0) (qpa_cons (hs := star_Name) (qpe_bltn (v := .ty "list") rfl T.z_list bt_list rfl) qpa_nil))))) (qpw_or1 (qpt_not (qpt_val (qpe_callB (call_allL rfl) rfl T.z_all bt_all (qpa_cons (hs := star_ListComp) (qpe_comp (caps := []) (idx := []) rfl ⟨rfl, by decide +kernel, rfl, by decide +kernel, rfl, by decide +kernel, rfl, trivial, by decide +kernel, rfl, by decide +kernel⟩ (qpi_list (qpv 0)) (fun _ _ _ _ => qif_none) (fun _ _ _ _ => (qpe_call G_l_whole hr rfl T.m_l_whole T.k_l_whole T.b_l_whole .nil pass0 (qpa_cons (hs := star_Name) (qpv 0) qpa_nil)))) qpa_nil))))))) (qpss_one (qps_ret qpe_bl)) qpss_nil)
    (qpss_one (qps_ret (qpe_cmpR (op_eqI hr.u40) (qpv 0) (qpv 1) (nomark _))))), ?_⟩
  refine ⟨_, rfl, _, _, _, true, rfl, TyOf.lst ha, rfl, _, rfl, iteF ⟨_, rfl, a, rfl, ⟨_, SqL.of ha⟩, fun D kD => ?_⟩⟩
  refine comp_plain (xs := xs.map V.int) (c := fun _ => true) (f := fun _ => .bl true) plain_list (by rw [List.length_map]; exact small1000 (by omega)) kD (fun ys => SqL.of (same_new kD _ _ _ ha)) (fun x _ ys R r => r) (fun x hx _ ys R r => ?_) ?_
  · obtain ⟨c, hc, rfl⟩ := List.mem_map.mp hx
    exact ⟨_, rfl, _, rfl, Thing.int _, r⟩
  have e1 : (((xs.map V.int).filter fun _ => true).map fun _ => V.bl true) = (xs.map fun _ => true).map V.bl := by
    rw [List.filter_eq_self.mpr (fun _ _ => rfl), List.map_map, List.map_map]
    rfl
  rw [e1]
  have t1 : (xs.map fun _ => true).all id = true := List.all_eq_true.mpr fun b hb => by
    obtain ⟨_, _, rfl⟩ := List.mem_map.mp hb
    rfl
  refine ⟨D, xs.map fun _ => true, rfl, SqL.of upd_same, ?_⟩
  rw [t1]
  refine ⟨_, rfl, iteF ?_⟩
  have g := same_new kD (.lst ((xs.map fun _ => true).map V.bl))
  refine ⟨_, rfl, _, rfl, a, b, xs, xs, rfl, rfl, .inr ⟨SqL.of (g _ _ ha), SqL.of (g _ _ hb)⟩, ?_⟩
  show Q (V.bl (decide (xs = xs))) _
  rw [decide_eq_true rfl]
  exact q _ g
theorem e30x : (10 : Int) ^ (30 : Int).toNat = 1000000000000000000000000000000 := by decide +kernel
theorem no_kind {H : Hp} {v : V} {t : String} {i b u : Bool} (k : Kind t i b u) (ty : TyOf K H v (.type t)) (nl : (t == "list") = false) : PolyB K H v false := .inl ⟨rfl, t, i, b, u, k, ty, nl⟩
theorem no_lst {H : Hp} {a : Addr} {zs : List V} (h : H a = some (.lst zs)) (l : zs.length ≤ 100) (th : ∀ z ∈ zs, Thing K H z) (e : polyB zs = false) : PolyB K H (.ref a) false := .inr ⟨a, zs, rfl, h, l, th, e.symm⟩
theorem ok_l_odd (T : Txt K mg) : FnOk P w K mg base CX0 1 T.f_l_odd T.d_l_odd ["_law_cell"] (spOdd61 K) := by
  refine T.F_l_odd.okq sc_l_odd (fun vs H Q E h => ?_) (fun cdv A outer s H vs Q E hr h => ?_)
  · obtain ⟨c, rfl, _⟩ := h
    rfl
  obtain ⟨c, rfl, q⟩ := h
  have pw30 : CPow 10 30 := ⟨by decide, by decide, by decide⟩
  have P30 : (0 : Int) < (10 : Int) ^ (30 : Int).toNat := by rw [e30x]; decide
  have s1 : ∀ {m : Nat}, m ≤ 20 → m ≤ sizeLine := fun h => small (by show _ ≤ 1000; omega)
  refine ⟨_, (qpss_cons (qps_set (i := 1) sc_l_odd.nd rfl (Or.inl rfl) (qpe_op op_mod (qpe_op op_fdivB (qpv 0) qpe_int) (qpe_op op_pow qpe_int qpe_int)))
    (qpss_cons (qps_set (i := 2) sc_l_odd.nd rfl (Or.inl rfl) (qpe_lst (qpa_cons (hs := star_Tuple) (qpe_tup (qpa_cons (hs := star_Constant) qpe_int (qpa_cons (hs := star_Name) (qpv 1) qpa_nil))) (qpa_cons (hs := star_Constant) qpe_str (qpa_cons (hs := star_Constant) qpe_non (qpa_cons (hs := star_Constant) qpe_bl (qpa_cons (hs := star_Name) (qpv 1) (qpa_cons (hs := star_List) (qpe_lst qpa_nil) (qpa_cons (hs := star_List) (qpe_lst (qpa_cons (hs := star_BinOp) (qpe_op op_add qpe_int (qpv 1)) qpa_nil)) (qpa_cons (hs := star_List) (qpe_lst (qpa_cons (hs := star_Name) (qpv 1) (qpa_cons (hs := star_Constant) qpe_int (qpa_cons (hs := star_Constant) qpe_int qpa_nil)))) (qpa_cons (hs := star_BinOp) (qpe_op op_cat (qpe_op op_rep (qpe_lst (qpa_cons (hs := star_Constant) qpe_int qpa_nil)) qpe_int) (qpe_lst (qpa_cons (hs := star_BinOp) (qpe_op op_add qpe_int (qpv 1)) qpa_nil))) qpa_nil)))))))))))
    (qpss_one (qps_ret (qpe_ix ix_list (qpe_op op_cat (qpv 2) (qpe_lst (qpa_cons (hs := star_List) (qpe_lst (qpa_cons (hs := star_Name) (qpv 1) (qpa_cons (hs := star_Constant) qpe_bl qpa_nil))) (qpa_cons (hs := star_List) (qpe_lst (qpa_cons (hs := star_Name) (qpv 1) (qpa_cons (hs := star_Constant) qpe_str qpa_nil))) (qpa_cons (hs := star_List) (qpe_lst (qpa_cons (hs := star_Tuple) (qpe_tup (qpa_cons (hs := star_Name) (qpv 1) (qpa_cons (hs := star_Constant) qpe_int qpa_nil))) (qpa_cons (hs := star_Constant) qpe_int qpa_nil))) qpa_nil))))) (qpe_op op_mod (qpv 0) qpe_int) (fun _ _ => rfl)))))), ?_⟩
  refine ⟨_, rfl, _, _, rfl, rfl, dsm (by decide) (by decide), _, _, rfl, rfl, pw30, _, _, rfl, rfl, P30, ?_⟩
  try dsimp only [gName]
  generalize c / 12 % (10 : Int) ^ (30 : Int).toNat = X
  refine ⟨_, rfl, s1 (by show 2 ≤ 20; decide), fun a1 k1 => ?_⟩
  have g := same_new k1 (.tup [.int 1, .int X])
  have h1 : upd H a1 (.tup [.int 1, .int X]) a1 = some (.tup [.int 1, .int X]) := upd_same
  generalize upd H a1 (.tup [.int 1, .int X]) = H1 at g h1 ⊢
  refine ⟨_, rfl, s1 (by show 0 ≤ 20; decide), fun a2 k2 => ?_⟩
  have g' := same_new k2 (.lst [])
  have h2 : upd H1 a2 (.lst []) a2 = some (.lst []) := upd_same
  have h1 := g' _ _ h1
  have g := g.trans g'
  generalize upd H1 a2 (.lst []) = H2 at g h1 h2 ⊢
  refine ⟨_, rfl, _, _, rfl, rfl, s1 (by show 1 ≤ 20; decide), fun a3 k3 => ?_⟩
  have g' := same_new k3 (.lst [.int (1 + X)])
  have h3 : upd H2 a3 (.lst [.int (1 + X)]) a3 = some (.lst [.int (1 + X)]) := upd_same
  have h1 := g' _ _ h1
  have h2 := g' _ _ h2
  have g := g.trans g'
  try dsimp only [gName]
  generalize upd H2 a3 (.lst [.int (1 + X)]) = H3 at g h1 h2 h3 ⊢
  refine ⟨_, rfl, s1 (by show 3 ≤ 20; decide), fun a4 k4 => ?_⟩
  have g' := same_new k4 (.lst [.int X, .int 1, .int 0])
  have h4 : upd H3 a4 (.lst [.int X, .int 1, .int 0]) a4 = some (.lst [.int X, .int 1, .int 0]) := upd_same
  have h1 := g' _ _ h1
  have h2 := g' _ _ h2
  have h3 := g' _ _ h3
  have g := g.trans g'
  generalize upd H3 a4 (.lst [.int X, .int 1, .int 0]) = H4 at g h1 h2 h3 h4 ⊢
  refine ⟨s1 (by show 1 ≤ 20; decide), fun b5 kb5 => ?_⟩
  have g5 := same_new kb5 (.lst [.int 1])
  refine ⟨b5, _, _, rfl, rfl, upd_same, by decide, by decide, s1 (by show 1 * 9 ≤ 20; decide), fun c5 kc5 => ?_⟩
  have g5 := g5.trans (same_new kc5 (.lst (List.replicate (9 : Int).toNat [V.int 1]).flatten))
  refine ⟨_, rfl, _, _, rfl, rfl, s1 (by show 1 ≤ 20; decide), fun d5 kd5 => ?_⟩
  have g6 := same_new kd5 (.lst [.int (1 + X)])
  refine ⟨c5, d5, _, _, rfl, rfl, g6 _ _ upd_same, upd_same, s1 (by show 9 + 1 ≤ 20; decide), fun a5 k5 => ?_⟩
  have g' := g5.trans (g6.trans (same_new k5 (.lst ((List.replicate (9 : Int).toNat [V.int 1]).flatten ++ [.int (1 + X)]))))
  have h5 := upd_same (H := upd (upd (upd H4 b5 (.lst [.int 1])) c5 (.lst (List.replicate (9 : Int).toNat [V.int 1]).flatten)) d5 (.lst [.int (1 + X)])) (a := a5) (o := .lst ((List.replicate (9 : Int).toNat [V.int 1]).flatten ++ [.int (1 + X)]))
  have h1 := g' _ _ h1
  have h2 := g' _ _ h2
  have h3 := g' _ _ h3
  have h4 := g' _ _ h4
  have g := g.trans g'
  try dsimp only [gName]
  generalize upd (upd (upd (upd H4 b5 (.lst [.int 1])) c5 (.lst (List.replicate (9 : Int).toNat [V.int 1]).flatten)) d5 (.lst [.int (1 + X)])) a5 (.lst ((List.replicate (9 : Int).toNat [V.int 1]).flatten ++ [.int (1 + X)])) = H5 at g h1 h2 h3 h4 h5 ⊢
  refine ⟨s1 (by show 9 ≤ 20; decide), fun D kD => ?_⟩
  have g' := same_new kD (.lst [.ref a1, .str (Str.ofString "1, 2"), .non, .bl true, .int X, .ref a2, .ref a3, .ref a4, .ref a5])
  have hD : upd H5 D (.lst [.ref a1, .str (Str.ofString "1, 2"), .non, .bl true, .int X, .ref a2, .ref a3, .ref a4, .ref a5]) D = some (.lst [.ref a1, .str (Str.ofString "1, 2"), .non, .bl true, .int X, .ref a2, .ref a3, .ref a4, .ref a5]) := upd_same
  have h1 := g' _ _ h1
  have h2 := g' _ _ h2
  have h3 := g' _ _ h3
  have h4 := g' _ _ h4
  have h5 := g' _ _ h5
  have g := g.trans g'
  try dsimp only [gName]
  generalize upd H5 D (.lst [.ref a1, .str (Str.ofString "1, 2"), .non, .bl true, .int X, .ref a2, .ref a3, .ref a4, .ref a5]) = H6 at g h1 h2 h3 h4 h5 hD ⊢
  refine ⟨_, rfl, _, rfl, s1 (by show 2 ≤ 20; decide), fun a6 k6 => ?_⟩
  have g' := same_new k6 (.lst [.int X, .bl true])
  have h6 : upd H6 a6 (.lst [.int X, .bl true]) a6 = some (.lst [.int X, .bl true]) := upd_same
  generalize upd H6 a6 (.lst [.int X, .bl true]) = H7 at g' h6 ⊢
  refine ⟨_, rfl, s1 (by show 2 ≤ 20; decide), fun a7 k7 => ?_⟩
  have g7 := same_new k7 (.lst [.int X, .str (Str.ofString "1")])
  have h7 : upd H7 a7 (.lst [.int X, .str (Str.ofString "1")]) a7 = some (.lst [.int X, .str (Str.ofString "1")]) := upd_same
  have h6 := g7 _ _ h6
  have g' := g'.trans g7
  generalize upd H7 a7 (.lst [.int X, .str (Str.ofString "1")]) = H8 at g' h6 h7 ⊢
  refine ⟨_, rfl, s1 (by show 2 ≤ 20; decide), fun t8 kt8 => ?_⟩
  have g8 := same_new kt8 (.tup [.int X, .int 1])
  have ht8 : upd H8 t8 (.tup [.int X, .int 1]) t8 = some (.tup [.int X, .int 1]) := upd_same
  have h6 := g8 _ _ h6
  have h7 := g8 _ _ h7
  have g' := g'.trans g8
  generalize upd H8 t8 (.tup [.int X, .int 1]) = H9 at g' h6 h7 ht8 ⊢
  refine ⟨s1 (by show 2 ≤ 20; decide), fun a8 k8 => ?_⟩
  have g9 := same_new k8 (.lst [.ref t8, .int 2])
  have h8 : upd H9 a8 (.lst [.ref t8, .int 2]) a8 = some (.lst [.ref t8, .int 2]) := upd_same
  have h6 := g9 _ _ h6
  have h7 := g9 _ _ h7
  have ht8 := g9 _ _ ht8
  have g' := g'.trans g9
  generalize upd H9 a8 (.lst [.ref t8, .int 2]) = Ha at g' h6 h7 h8 ht8 ⊢
  refine ⟨s1 (by show 3 ≤ 20; decide), fun O kO => ?_⟩
  have ga := same_new kO (.lst [.ref a6, .ref a7, .ref a8])
  refine ⟨D, O, _, _, rfl, rfl, ga _ _ (g' _ _ hD), upd_same, s1 (by show 9 + 3 ≤ 20; decide), fun R kR => ?_⟩
  rw [show ([.ref a1, .str (Str.ofString "1, 2"), .non, .bl true, .int X, .ref a2, .ref a3, .ref a4, .ref a5] : List V) ++ [.ref a6, .ref a7, .ref a8] = [.ref a1, .str (Str.ofString "1, 2"), .non, .bl true, .int X, .ref a2, .ref a3, .ref a4, .ref a5, .ref a6, .ref a7, .ref a8] from rfl]
  have gb := ga.trans (same_new kR (.lst [.ref a1, .str (Str.ofString "1, 2"), .non, .bl true, .int X, .ref a2, .ref a3, .ref a4, .ref a5, .ref a6, .ref a7, .ref a8]))
  have hR : upd (upd Ha O (.lst [.ref a6, .ref a7, .ref a8])) R (.lst [.ref a1, .str (Str.ofString "1, 2"), .non, .bl true, .int X, .ref a2, .ref a3, .ref a4, .ref a5, .ref a6, .ref a7, .ref a8]) R = some (.lst [.ref a1, .str (Str.ofString "1, 2"), .non, .bl true, .int X, .ref a2, .ref a3, .ref a4, .ref a5, .ref a6, .ref a7, .ref a8]) := upd_same
  generalize upd (upd Ha O (.lst [.ref a6, .ref a7, .ref a8])) R (.lst [.ref a1, .str (Str.ofString "1, 2"), .non, .bl true, .int X, .ref a2, .ref a3, .ref a4, .ref a5, .ref a6, .ref a7, .ref a8]) = Hb at gb hR ⊢
  have h6 := gb _ _ h6
  have h7 := gb _ _ h7
  have h8 := gb _ _ h8
  have ht8 := gb _ _ ht8
  have g' := g'.trans gb
  have h1 := g' _ _ h1
  have h2 := g' _ _ h2
  have h3 := g' _ _ h3
  have h4 := g' _ _ h4
  have h5 := g' _ _ h5
  have g := g.trans g'
  obtain ⟨v, hv, np⟩ := at_rest (xs := [V.ref a1, .str (Str.ofString "1, 2"), .non, .bl true, .int X, .ref a2, .ref a3, .ref a4, .ref a5, .ref a6, .ref a7, .ref a8]) (i := c % 12) (P := fun v => PolyB K Hb v false) (Int.emod_nonneg _ (by decide)) (Int.emod_lt_of_pos _ (by decide)) (fun v hv => by
    simp only [List.mem_cons, List.not_mem_nil, or_false] at hv
    rcases hv with rfl | rfl | rfl | rfl | rfl | rfl | rfl | rfl | rfl | rfl | rfl | rfl
    · exact no_kind .tup (TyOf.tup h1) rfl
    · exact no_kind .str (.str _) rfl
    · exact no_kind .non .non rfl
    · exact no_kind .bl (.bl _) rfl
    · exact no_kind .int (.int _) rfl
    · exact no_lst h2 (by show 0 ≤ 100; decide) (fun z hz => nomatch hz) rfl
    · exact no_lst h3 (by show 1 ≤ 100; decide) (fun z hz => by rw [List.mem_singleton.mp hz]; exact Thing.int _) rfl
    · refine no_lst h4 (by show 3 ≤ 100; decide) (fun z hz => ?_) rfl
      simp only [List.mem_cons, List.not_mem_nil, or_false] at hz
      rcases hz with rfl | rfl | rfl
      · exact Thing.int _
      · exact Thing.int _
      · exact Thing.int _
    · refine no_lst h5 (by show 9 + 1 ≤ 100; decide) (fun z hz => ?_) rfl
      rcases List.mem_append.mp hz with hz | hz
      · obtain ⟨l, hl, hz⟩ := List.mem_flatten.mp hz
        rw [(List.mem_replicate.mp hl).2] at hz
        rw [List.mem_singleton.mp hz]
        exact Thing.int _
      · rw [List.mem_singleton.mp hz]
        exact Thing.int _
    · refine no_lst h6 (by show 2 ≤ 100; decide) (fun z hz => ?_) rfl
      simp only [List.mem_cons, List.not_mem_nil, or_false] at hz
      rcases hz with rfl | rfl
      · exact Thing.int _
      · exact Thing.bl _
    · refine no_lst h7 (by show 2 ≤ 100; decide) (fun z hz => ?_) rfl
      simp only [List.mem_cons, List.not_mem_nil, or_false] at hz
      rcases hz with rfl | rfl
      · exact Thing.int _
      · exact Thing.str _
    · refine no_lst h8 (by show 2 ≤ 100; decide) (fun z hz => ?_) rfl
      simp only [List.mem_cons, List.not_mem_nil, or_false] at hz
      rcases hz with rfl | rfl
      · exact Thing.tup ht8
      · exact Thing.int _)
  exact ⟨_, rfl, _, _, rfl, rfl, (by show (0 : Int) < 12; decide), R, _, _, _, rfl, rfl, SqL.of hR, hv, q v _ g np⟩
theorem ok_l_refused (T : Txt K mg) : FnOk P w K mg base CX0 5 T.f_l_refused T.d_l_refused ["_law_way", "_law_thing", "_law_poly"] (spRef61 K) := by
  have G_slope_of := ok_slope_of (P := P) (w := w) (base := base) T
  have G_product_of := ok_product_of (P := P) (w := w) (base := base) T
  refine T.F_l_refused.okq sc_l_refused (fun vs H Q E h => ?_) (fun cdv A outer s H vs Q E hr h => ?_)
  · obtain ⟨y, v, b, ys, n, rfl, _⟩ := h
    rfl
  obtain ⟨y, v, b, ys, n, rfl, y0, y2, np, hb, ly, n1, n8, last, q⟩ := h
  refine ⟨_, (qpss_cons (qps_set (i := 3) sc_l_refused.nd rfl (Or.inl rfl) (qpe_lst qpa_nil))
    (qpss_cons (qps_tryX (i := 4) (qx_if (fun _ => (qpt_cmpR op_eq (qpv 0) qpe_int (nomark _))) (qx_call G_slope_of hr rfl T.m_slope_of T.k_slope_of T.b_slope_of .nil (fun _ => (qpa_cons (hs := star_Name) (qpv 1) qpa_nil))) (qx_if (fun _ => (qpt_cmpR op_eq (qpv 0) qpe_int (nomark _))) (qx_call G_product_of hr rfl T.m_product_of T.k_product_of T.b_product_of .nil (fun _ => (qpa_cons (hs := star_Name) (qpv 1) (qpa_cons (hs := star_Name) (qpv 2) qpa_nil)))) (qx_call G_product_of hr rfl T.m_product_of T.k_product_of T.b_product_of .nil (fun _ => (qpa_cons (hs := star_Name) (qpv 2) (qpa_cons (hs := star_Name) (qpv 1) qpa_nil)))))) rfl rfl (fun _ _ z => z) rfl T.m_LeftError T.x_LeftError T.sb_NoPolynomial sc_l_refused.nd rfl rfl rfl (fun ea => (qpss_cons (qps_set (i := 3) sc_l_refused.nd rfl (Or.inl rfl) (qpe_lst (qpa_cons (hs := star_Call) (qpe_callB call_instX rfl T.z_isinstance bt_isinstance (qpa_cons (hs := star_Name) (qpv 4) (qpa_cons (hs := star_Name) (qpe_bltn (v := .ty "ValueError") rfl T.z_ValueError bt_ValueError rfl) qpa_nil))) (qpa_cons (hs := star_Call) (qpe_callB call_instX rfl T.z_isinstance bt_isinstance (qpa_cons (hs := star_Name) (qpv 4) (qpa_cons (hs := star_Name) (qpe_glob (v := .ref T.a_NoPolynomial) rfl T.m_NoPolynomial rfl) qpa_nil))) (qpa_cons (hs := star_Call) (qpe_callB call_instXT rfl T.z_isinstance bt_isinstance (qpa_cons (hs := star_Name) (qpv 4) (qpa_cons (hs := star_Tuple) (qpe_tup (qpa_cons (hs := star_Name) (qpe_glob (v := .ref T.a_NoPrime) rfl T.m_NoPrime rfl) (qpa_cons (hs := star_Name) (qpe_glob (v := .ref T.a_NoFraction) rfl T.m_NoFraction rfl) (qpa_cons (hs := star_Name) (qpe_glob (v := .ref T.a_NoPlace) rfl T.m_NoPlace rfl) qpa_nil)))) qpa_nil))) qpa_nil)))))
    (qpss_cons (qps_expr (qpe_bm PySem.F.plainAttrs_list PySem.F.slot_list_append PySem.F.type_list_append mt_append (qpv 3) (qpa_cons (hs := star_Call) (qpe_callB call_instXT rfl T.z_isinstance bt_isinstance (qpa_cons (hs := star_Name) (qpv 4) (qpa_cons (hs := star_Tuple) (qpe_tup (qpa_cons (hs := star_Name) (qpe_glob (v := .ref T.a_NoFigures) rfl T.m_NoFigures rfl) (qpa_cons (hs := star_Name) (qpe_glob (v := .ref T.a_NoText) rfl T.m_NoText rfl) (qpa_cons (hs := star_Name) (qpe_glob (v := .ref T.a_Unlike) rfl T.m_Unlike rfl) (qpa_cons (hs := star_Name) (qpe_glob (v := .ref T.a_NoQuotient) rfl T.m_NoQuotient rfl) (qpa_cons (hs := star_Name) (qpe_glob (v := .ref T.a_NoPower) rfl T.m_NoPower rfl) (qpa_cons (hs := star_Name) (qpe_glob (v := .ref T.a_TooFew) rfl T.m_TooFew rfl) qpa_nil))))))) qpa_nil))) qpa_nil)))
    (qpss_one (qps_expr (qpe_bm PySem.F.plainAttrs_list PySem.F.slot_list_append PySem.F.type_list_append mt_append (qpv 3) (qpa_cons (hs := star_Call) (qpe_callB call_instXT rfl T.z_isinstance bt_isinstance (qpa_cons (hs := star_Name) (qpv 4) (qpa_cons (hs := star_Tuple) (qpe_tup (qpa_cons (hs := star_Name) (qpe_glob (v := .ref T.a_NoSize) rfl T.m_NoSize rfl) (qpa_cons (hs := star_Name) (qpe_glob (v := .ref T.a_NoDepth) rfl T.m_NoDepth rfl) (qpa_cons (hs := star_Name) (qpe_glob (v := .ref T.a_NoRoot) rfl T.m_NoRoot rfl) (qpa_cons (hs := star_Name) (qpe_glob (v := .ref T.a_NotNear) rfl T.m_NotNear rfl) qpa_nil))))) qpa_nil))) qpa_nil))))))))
    (qpss_one (qps_ret (qpe_cmpR (op_eqB hr.u40) (qpv 3) (qpe_lst (qpa_cons (hs := star_Constant) qpe_bl (qpa_cons (hs := star_Constant) qpe_bl (qpa_cons (hs := star_Constant) qpe_bl (qpa_cons (hs := star_Constant) qpe_bl (qpa_cons (hs := star_Constant) qpe_bl qpa_nil)))))) (nomark _)))))), ?_⟩
  refine ⟨small (by show 0 ≤ 1000; decide), fun l0 h0 => ?_⟩
  have g0 := same_new h0 (.lst [])
  have np := np.same g0
  have hb := g0 _ _ hb
  dsimp only [gName]
  generalize upd H l0 (.lst []) = H0 at g0 np hb ⊢
  have gp : PolyB K H0 (.ref b) true := PolyB.good hb ly n1 n8 last
  have Z := T.xc_NoPolynomial
  refine ⟨_, rfl, rfl, _, rfl, ?_⟩
  have hy : y = 0 ∨ y = 1 ∨ y = 2 := by omega
  rcases hy with rfl | rfl | rfl
  case' inl =>
    refine iteT ⟨_, rfl, v, false, rfl, np, fun _ H1 g1 => ⟨rfl, fun ea hea => ?_⟩, (fun z => nomatch z)⟩
  case' inr.inl =>
    refine iteF ⟨_, rfl, rfl, _, rfl, iteT ⟨_, rfl, _, rfl, v, .ref b, false, true, rfl, np, gp, fun _ H1 g1 => ⟨rfl, fun ea hea => ?_⟩, (fun z => nomatch z), (fun z => nomatch z)⟩⟩
  case' inr.inr =>
    refine iteF ⟨_, rfl, rfl, _, rfl, iteF ⟨_, rfl, _, rfl, .ref b, v, true, false, rfl, gp, np, (fun z => nomatch z), fun _ _ H1 g1 => ⟨rfl, fun ea hea => ?_⟩, (fun _ z => nomatch z)⟩⟩
  all_goals
    have ex : ExH (upd H1 ea (.ext (ExcX ea T.a_NoPolynomial))) ea T.a_NoPolynomial := upd_same
    have g2 := (g0.trans g1).trans (same_new hea (.ext (ExcX ea T.a_NoPolynomial)))
    generalize upd H1 ea (.ext (ExcX ea T.a_NoPolynomial)) = H2 at ex g2 ⊢
    refine ⟨_, rfl, ea, _, _, _, _, rfl, rfl, fun _ z => z, ex, Z, T.kt_NoPolynomial_ValueError, _, rfl, ea, _, _, _, _, rfl, rfl, fun _ z => z, ex, Z, T.kt_NoPolynomial_NoPolynomial, _, rfl, small (by show 3 ≤ 1000; decide), fun t1 kt1 => ?_⟩
    have gA := same_new kt1 (.tup [.ref T.a_NoPrime, .ref T.a_NoFraction, .ref T.a_NoPlace])
    have exA : ExH _ ea T.a_NoPolynomial := gA _ _ ex
    refine ⟨ea, _, t1, [T.a_NoPrime, T.a_NoFraction, T.a_NoPlace], rfl, upd_same, exA, Z, (fun d hd => by
      simp only [List.mem_cons, List.not_mem_nil, or_false] at hd
      rcases hd with rfl | rfl | rfl
      · exact T.kt_NoPolynomial_NoPrime
      · exact T.kt_NoPolynomial_NoFraction
      · exact T.kt_NoPolynomial_NoPlace), small (by show 3 ≤ 1000; decide), fun l hl => ?_⟩
    have g3 := g2.trans gA
    generalize upd H2 t1 (.tup [.ref T.a_NoPrime, .ref T.a_NoFraction, .ref T.a_NoPlace]) = H3 at g3 exA hl ⊢
    have lH := none_of g3 hl
    have le : ea ≠ l := fun z => by rw [← z, show H3 ea = some _ from exA] at hl; cases hl
    have ex3 : ExH _ ea T.a_NoPolynomial := (same_new hl (.lst [.bl true, .bl true, .bl false])) _ _ exA
    have g3 := g3.trans (same_new hl (.lst [.bl true, .bl true, .bl false]))
    have h3 : upd H3 l (.lst [.bl true, .bl true, .bl false]) l = some (.lst [.bl true, .bl true, .bl false]) := upd_same
    dsimp only [gName]
    generalize upd H3 l (.lst [.bl true, .bl true, .bl false]) = H4 at g3 h3 ex3 ⊢
    refine ⟨_, rfl, .inl ⟨rfl, _, SqL.of h3⟩, _, rfl, small (by show 6 ≤ 1000; decide), fun t2 kt2 => ?_⟩
    have gB := same_new kt2 (.tup [.ref T.a_NoFigures, .ref T.a_NoText, .ref T.a_Unlike, .ref T.a_NoQuotient, .ref T.a_NoPower, .ref T.a_TooFew])
    have exB : ExH _ ea T.a_NoPolynomial := gB _ _ ex3
    refine ⟨ea, _, t2, [T.a_NoFigures, T.a_NoText, T.a_Unlike, T.a_NoQuotient, T.a_NoPower, T.a_TooFew], rfl, upd_same, exB, Z, (fun d hd => by
      simp only [List.mem_cons, List.not_mem_nil, or_false] at hd
      rcases hd with rfl | rfl | rfl | rfl | rfl | rfl
      · exact T.kt_NoPolynomial_NoFigures
      · exact T.kt_NoPolynomial_NoText
      · exact T.kt_NoPolynomial_Unlike
      · exact T.kt_NoPolynomial_NoQuotient
      · exact T.kt_NoPolynomial_NoPower
      · exact T.kt_NoPolynomial_TooFew), l, _, _, rfl, rfl, gB _ _ h3, small (by show 4 ≤ 1000; decide), ?_⟩
    rw [show ([.bl true, .bl true, .bl false] : List V) ++ [.bl false] = [.bl true, .bl true, .bl false, .bl false] from rfl]
    have g4 := same_upd (o := .lst [.bl true, .bl true, .bl false, .bl false]) lH (g3.trans gB)
    generalize upd H4 t2 (.tup [.ref T.a_NoFigures, .ref T.a_NoText, .ref T.a_Unlike, .ref T.a_NoQuotient, .ref T.a_NoPower, .ref T.a_TooFew]) = H5 at g4 exB ⊢
    have h4 : upd H5 l (.lst [.bl true, .bl true, .bl false, .bl false]) l = some (.lst [.bl true, .bl true, .bl false, .bl false]) := upd_same
    have ex4 : ExH (upd H5 l (.lst [.bl true, .bl true, .bl false, .bl false])) ea T.a_NoPolynomial := by show upd H5 l _ ea = _; rw [upd_ne le]; exact exB
    generalize upd H5 l (.lst [.bl true, .bl true, .bl false, .bl false]) = H6 at g4 h4 ex4 ⊢
    refine ⟨_, rfl, .inl ⟨rfl, _, SqL.of h4⟩, _, rfl, small (by show 4 ≤ 1000; decide), fun t3 kt3 => ?_⟩
    have gC := same_new kt3 (.tup [.ref T.a_NoSize, .ref T.a_NoDepth, .ref T.a_NoRoot, .ref T.a_NotNear])
    have exC : ExH _ ea T.a_NoPolynomial := gC _ _ ex4
    refine ⟨ea, _, t3, [T.a_NoSize, T.a_NoDepth, T.a_NoRoot, T.a_NotNear], rfl, upd_same, exC, Z, (fun d hd => by
      simp only [List.mem_cons, List.not_mem_nil, or_false] at hd
      rcases hd with rfl | rfl | rfl | rfl
      · exact T.kt_NoPolynomial_NoSize
      · exact T.kt_NoPolynomial_NoDepth
      · exact T.kt_NoPolynomial_NoRoot
      · exact T.kt_NoPolynomial_NotNear), l, _, _, rfl, rfl, gC _ _ h4, small (by show 5 ≤ 1000; decide), ?_⟩
    rw [show ([.bl true, .bl true, .bl false, .bl false] : List V) ++ [.bl false] = [.bl true, .bl true, .bl false, .bl false, .bl false] from rfl]
    have g5 := same_upd (o := .lst [.bl true, .bl true, .bl false, .bl false, .bl false]) lH (g4.trans gC)
    have h5 := upd_same (H := upd H6 t3 (.tup [.ref T.a_NoSize, .ref T.a_NoDepth, .ref T.a_NoRoot, .ref T.a_NotNear])) (a := l) (o := .lst [.bl true, .bl true, .bl false, .bl false, .bl false])
    generalize upd (upd H6 t3 (.tup [.ref T.a_NoSize, .ref T.a_NoDepth, .ref T.a_NoRoot, .ref T.a_NotNear])) l (.lst [.bl true, .bl true, .bl false, .bl false, .bl false]) = H7 at g5 h5 ⊢
    refine ⟨_, rfl, small (by show 5 ≤ 1000; decide), fun u ku => ?_⟩
    refine ⟨l, u, [true, true, false, false, false], [true, true, false, false, false], rfl, rfl, ⟨SqL.of (same_new ku _ _ _ h5), SqL.of upd_same⟩, ?_⟩
    exact q _ (g5.trans (same_new ku _))
theorem polyB_len {P : List Int} (p1 : 1 ≤ P.length) (p9 : P.length ≤ 9) (last : P.getLast? ≠ some 0) : polyB (P.map V.int) = decide (1 < (P.length : Int)) := by
  by_cases h : 2 ≤ P.length
  · rw [polyB_good (n := P.length - 1) (by omega) (by omega) (by omega) last, decide_eq_true (by omega)]
  · unfold polyB
    rw [List.length_map, decide_eq_false h, Bool.false_and, Bool.false_and, decide_eq_false (show ¬ 1 < (P.length : Int) by omega)]
theorem cut_last5 {P : List Int} (p1 : 1 ≤ P.length) (last : P.getLast? ≠ some 0) (bP : bdL 200 P) : ∃ ones : List Int, cutV (([7] : List Int).map V.int ++ P.map V.int) (some (-5)) none = ones.map V.int ∧ 2 ≤ ones.length ∧ ones.length ≤ 5 ∧ ones.getLast? ≠ some 0 ∧ bdL 200 ones := by
  rw [← List.map_append]
  have ln : ((([7] : List Int) ++ P).map V.int).length = P.length + 1 := by rw [List.length_map, List.length_append]; show 1 + P.length = _; omega
  have e : HT.sIx (P.length + 1) 0 (some (-5)) = P.length + 1 - 5 := by
    have := HT.clip_eq (-5) (P.length + 1) 0
    rw [if_pos (by decide)] at this
    omega
  refine ⟨([7] ++ P).drop (P.length + 1 - 5), ?_, ?_, ?_, ?_, ?_⟩
  · unfold cutV
    rw [ln, HT.sIx_none, e, List.take_of_length_le (by rw [List.length_drop, ln]; omega), List.map_drop]
  · rw [List.length_drop, List.length_append]; show 2 ≤ 1 + P.length - _; omega
  · rw [List.length_drop, List.length_append]; show 1 + P.length - _ ≤ 5; omega
  · rw [List.getLast?_drop, if_neg (by rw [List.length_append]; show ¬ 1 + P.length ≤ _; omega), List.getLast?_append]
    cases hl : P.getLast? with
    | none => rw [List.getLast?_eq_none_iff] at hl; rw [hl] at p1; exact absurd p1 (by decide)
    | some z => rw [hl] at last; exact last
  · intro c hc
    rcases List.mem_append.mp (List.mem_of_mem_drop hc) with h | h
    · rw [List.mem_singleton.mp h]; exact bd_small (by decide) (by decide) (by decide)
    · exact bP c h
theorem ok_law {f : Addr} {fd : FuncData} (T : Txt K mg) (F : Fun K "law" "law" s_law f fd) : FnOk P w K mg base CX0 9 f fd ["_law_script"] (spLawB K) := by
  have G_l_cell_at := (ok_l_cell_at (P := P) (w := w) (base := base) T).mono (k := 8) (by decide)
  have G_l_list := (ok_l_list (P := P) (w := w) (base := base) T).mono (k := 8) (by decide)
  have G_l_part := (ok_l_part (P := P) (w := w) (base := base) T).mono (k := 8) (by decide)
  have G_is_poly := (ok_is_poly (P := P) (w := w) (base := base) T).mono (k := 8) (by decide)
  have G_l_worth_right := (ok_l_worth_right (P := P) (w := w) (base := base) T).mono (k := 8) (by decide)
  have G_slope_of := (ok_slope_of (P := P) (w := w) (base := base) T).mono (k := 8) (by decide)
  have G_l_row_right := (ok_l_row_right (P := P) (w := w) (base := base) T).mono (k := 8) (by decide)
  have G_l_product := (ok_l_product (P := P) (w := w) (base := base) T).mono (k := 8) (by decide)
  have G_product_of := (ok_product_of (P := P) (w := w) (base := base) T).mono (k := 8) (by decide)
  have G_l_odd := (ok_l_odd (P := P) (w := w) (base := base) T).mono (k := 8) (by decide)
  have G_l_refused := (ok_l_refused (P := P) (w := w) (base := base) T).mono (k := 8) (by decide)
  refine F.okq sc_law (fun vs H Q E h => ?_) (fun cdv A outer s H vs Q E hr h => ?_)
  · obtain ⟨a, ns, rfl, _⟩ := h
    rfl
  obtain ⟨S, ns, rfl, hS, h63, bn, q⟩ := h
  refine ⟨_, (qpss_cons (qps_set (i := 1) sc_law.nd rfl (Or.inl rfl) (qpe_call G_l_list hr rfl T.m_l_list T.k_l_list T.b_l_list .nil pass0 (qpa_cons (hs := star_ListComp) (qpe_comp (caps := ["_law_script"]) (idx := [0]) rfl ⟨rfl, by decide +kernel, rfl, by decide +kernel, rfl, by decide +kernel, rfl, ⟨⟨rfl, rfl⟩, trivial⟩, by decide +kernel, rfl, by decide +kernel⟩ (qpi_range1 rfl T.z_range (qpa_cons (hs := star_BinOp) (qpe_op op_add qpe_int (qpe_op op_mod (qpe_call G_l_cell_at hr rfl T.m_l_cell_at T.k_l_cell_at T.b_l_cell_at .nil pass0 (qpa_cons (hs := star_Name) (qpv 0) (qpa_cons (hs := star_Constant) qpe_int qpa_nil))) qpe_int)) qpa_nil)) (fun _ _ _ _ => qif_none) (fun _ _ _ _ => (qpe_call G_l_cell_at hr rfl T.m_l_cell_at T.k_l_cell_at T.b_l_cell_at .nil pass0 (qpa_cons (hs := star_Name) (qpv 1) (qpa_cons (hs := star_BinOp) (qpe_op op_add qpe_int (qpv 0)) qpa_nil))))) qpa_nil)))
    (qpss_cons (qps_set (i := 3) sc_law.nd rfl (Or.inl rfl) (qpe_call G_l_part hr rfl T.m_l_part T.k_l_part T.b_l_part .nil pass0 (qpa_cons (hs := star_Call) (qpe_call G_l_cell_at hr rfl T.m_l_cell_at T.k_l_cell_at T.b_l_cell_at .nil pass0 (qpa_cons (hs := star_Name) (qpv 0) (qpa_cons (hs := star_Constant) qpe_int qpa_nil))) (qpa_cons (hs := star_Call) (qpe_call G_l_cell_at hr rfl T.m_l_cell_at T.k_l_cell_at T.b_l_cell_at .nil pass0 (qpa_cons (hs := star_Name) (qpv 0) (qpa_cons (hs := star_Constant) qpe_int qpa_nil))) qpa_nil))))
    (qpss_cons (qps_set (i := 4) sc_law.nd rfl (Or.inl rfl) (qpe_call G_is_poly hr rfl T.m_is_poly T.k_is_poly T.b_is_poly .nil pass0 (qpa_cons (hs := star_Name) (qpv 1) qpa_nil)))
    (qpss_cons (qps_if (QW.pt (qpw_or (qpt_not (qpt_val (qpe_call G_l_worth_right hr rfl T.m_l_worth_right T.k_l_worth_right T.b_l_worth_right .nil pass0 (qpa_cons (hs := star_Name) (qpv 1) (qpa_cons (hs := star_Name) (qpv 3) qpa_nil))))) (qpw_or (qpt_not (qpt_val (qpe_callB call_inst rfl T.z_isinstance bt_isinstance (qpa_cons (hs := star_Name) (qpv 4) (qpa_cons (hs := star_Name) (qpe_bltn (v := .ty "bool") rfl T.z_bool bt_bool rfl) qpa_nil))))) (qpw_or1 (qpt_cmpR op_ne (qpv 4) (qpe_cmpR op_gt (qpe_callB call_len_seq rfl T.z_len bt_len (qpa_cons (hs := star_Name) (qpv 1) qpa_nil)) qpe_int (nomark _)) (nomark _)))))) (qpss_one (qps_ret qpe_bl)) qpss_nil)
    (qpss_cons (qps_if (QW.pt (qpw_or (qpt_not (qpt_val (qpe_call G_l_worth_right hr rfl T.m_l_worth_right T.k_l_worth_right T.b_l_worth_right .nil pass0 (qpa_cons (hs := star_Subscript) (qpe_slice sl_list (qpe_op op_cat (qpv 1) (qpe_lst (qpa_cons (hs := star_Constant) qpe_int qpa_nil))) qpo_none (qpo_some qpe_int)) (qpa_cons (hs := star_Name) (qpv 3) qpa_nil))))) (qpw_or1 (qpt_not (qpt_val (qpe_call G_l_worth_right hr rfl T.m_l_worth_right T.k_l_worth_right T.b_l_worth_right .nil pass0 (qpa_cons (hs := star_List) (qpe_lst (qpa_cons (hs := star_Constant) qpe_int qpa_nil)) (qpa_cons (hs := star_Name) (qpv 3) qpa_nil)))))))) (qpss_one (qps_ret qpe_bl)) qpss_nil)
    (qpss_cons (qps_set (i := 5) sc_law.nd rfl (Or.inr rfl) (qpe_slice sl_list (qpe_op op_cat (qpe_lst (qpa_cons (hs := star_Constant) qpe_int qpa_nil)) (qpv 1)) (qpo_some (qpe_un un_neg qpe_int)) qpo_none))
    (qpss_cons (qps_set (i := 6) sc_law.nd rfl (Or.inl rfl) (qpe_call G_l_list hr rfl T.m_l_list T.k_l_list T.b_l_list .nil pass0 (qpa_cons (hs := star_ListComp) (qpe_comp (caps := ["_law_script"]) (idx := [0]) rfl ⟨rfl, by decide +kernel, rfl, by decide +kernel, rfl, by decide +kernel, rfl, ⟨⟨rfl, rfl⟩, trivial⟩, by decide +kernel, rfl, by decide +kernel⟩ (qpi_range1 rfl T.z_range (qpa_cons (hs := star_BinOp) (qpe_op op_add qpe_int (qpe_op op_mod (qpe_call G_l_cell_at hr rfl T.m_l_cell_at T.k_l_cell_at T.b_l_cell_at .nil pass0 (qpa_cons (hs := star_Name) (qpv 0) (qpa_cons (hs := star_Constant) qpe_int qpa_nil))) qpe_int)) qpa_nil)) (fun _ _ _ _ => qif_none) (fun _ _ _ _ => (qpe_call G_l_cell_at hr rfl T.m_l_cell_at T.k_l_cell_at T.b_l_cell_at .nil pass0 (qpa_cons (hs := star_Name) (qpv 1) (qpa_cons (hs := star_BinOp) (qpe_op op_add qpe_int (qpv 0)) qpa_nil))))) qpa_nil)))
    (qpss_cons (qps_set (i := 7) sc_law.nd rfl (Or.inl rfl) (qpe_lst (qpa_cons (hs := star_Call) (qpe_callTy call_list_of rfl T.z_list bt_list (qpa_cons (hs := star_Name) (qpv 5) qpa_nil)) (qpa_cons (hs := star_Call) (qpe_callTy call_list_of rfl T.z_list bt_list (qpa_cons (hs := star_Name) (qpv 6) qpa_nil)) qpa_nil))))
    (qpss_cons (qps_set (i := 8) sc_law.nd rfl (Or.inl rfl) (qpe_call G_slope_of hr rfl T.m_slope_of T.k_slope_of T.b_slope_of .nil pass2 (qpa_cons (hs := star_Name) (qpv 5) qpa_nil)))
    (qpss_cons (qps_if (QW.pt (qpw_or (qpt_not (qpt_val (qpe_call G_l_row_right hr rfl T.m_l_row_right T.k_l_row_right T.b_l_row_right .nil pass0 (qpa_cons (hs := star_Name) (qpv 8) (qpa_cons (hs := star_ListComp) (qpe_comp (caps := ["_law_one"]) (idx := [5]) rfl ⟨rfl, by decide +kernel, rfl, by decide +kernel, rfl, by decide +kernel, rfl, ⟨⟨rfl, rfl⟩, trivial⟩, by decide +kernel, rfl, by decide +kernel⟩ (qpi_range2 rfl T.z_range (qpa_cons (hs := star_Constant) qpe_int (qpa_cons (hs := star_Call) (qpe_callB call_len_seq rfl T.z_len bt_len (qpa_cons (hs := star_Name) (qpv 5) qpa_nil)) qpa_nil))) (fun _ _ _ _ => qif_none) (fun _ _ _ _ => (qpe_op op_mulB (qpv 0) (qpe_ix (show IxR _ (rIxL K) from ix_list) (qpv 1) (qpv 0) (fun _ _ => rfl))))) qpa_nil))))) (qpw_or1 (qpt_not (qpt_val (qpe_call G_l_worth_right hr rfl T.m_l_worth_right T.k_l_worth_right T.b_l_worth_right .nil pass0 (qpa_cons (hs := star_Name) (qpv 8) (qpa_cons (hs := star_Name) (qpv 3) qpa_nil)))))))) (qpss_one (qps_ret qpe_bl)) qpss_nil)
    (qpss_cons (qps_expr (qpe_bm PySem.F.plainAttrs_list PySem.F.slot_list_append PySem.F.type_list_append mt_append (qpv 8) (qpa_cons (hs := star_Constant) qpe_int qpa_nil)))
    (qpss_cons (qps_set (i := 9) sc_law.nd rfl (Or.inl rfl) (qpe_call G_l_product hr rfl T.m_l_product T.k_l_product T.b_l_product .nil pass0 (qpa_cons (hs := star_Name) (qpv 5) (qpa_cons (hs := star_Name) (qpv 6) qpa_nil))))
    (qpss_cons (qps_set (i := 10) sc_law.nd rfl (Or.inl rfl) (qpe_call G_product_of hr rfl T.m_product_of T.k_product_of T.b_product_of .nil pass2 (qpa_cons (hs := star_Name) (qpv 5) (qpa_cons (hs := star_Name) (qpv 6) qpa_nil))))
    (qpss_cons (qps_if (qpt_not (qpt_val (qpe_call G_l_row_right hr rfl T.m_l_row_right T.k_l_row_right T.b_l_row_right .nil pass0 (qpa_cons (hs := star_Name) (qpv 10) (qpa_cons (hs := star_Name) (qpv 9) qpa_nil))))) (qpss_one (qps_ret qpe_bl)) qpss_nil)
    (qpss_cons (qps_expr (qpe_bm PySem.F.plainAttrs_list PySem.F.slot_list_append PySem.F.type_list_append mt_append (qpv 10) (qpa_cons (hs := star_Constant) qpe_int qpa_nil)))
    (qpss_cons (qps_if (qpt_not (qpt_val (qpe_call G_l_row_right hr rfl T.m_l_row_right T.k_l_row_right T.b_l_row_right .nil pass0 (qpa_cons (hs := star_Call) (qpe_call G_product_of hr rfl T.m_product_of T.k_product_of T.b_product_of .nil pass2 (qpa_cons (hs := star_Name) (qpv 6) (qpa_cons (hs := star_Name) (qpv 5) qpa_nil))) (qpa_cons (hs := star_Name) (qpv 9) qpa_nil))))) (qpss_one (qps_ret qpe_bl)) qpss_nil)
    (qpss_cons (qps_if (QW.pt (qpw_or (qpt_not (qpt_val (qpe_call G_l_row_right hr rfl T.m_l_row_right T.k_l_row_right T.b_l_row_right .nil pass0 (qpa_cons (hs := star_Call) (qpe_call G_product_of hr rfl T.m_product_of T.k_product_of T.b_product_of .nil pass2 (qpa_cons (hs := star_Name) (qpv 5) (qpa_cons (hs := star_Name) (qpv 5) qpa_nil))) (qpa_cons (hs := star_Call) (qpe_call G_l_product hr rfl T.m_l_product T.k_l_product T.b_l_product .nil pass0 (qpa_cons (hs := star_Name) (qpv 5) (qpa_cons (hs := star_Name) (qpv 5) qpa_nil))) qpa_nil))))) (qpw_or1 (qpt_cmpR (op_neD hr.u40) (qpe_lst (qpa_cons (hs := star_Name) (qpv 5) (qpa_cons (hs := star_Name) (qpv 6) qpa_nil))) (qpv 7) (nomark _))))) (qpss_one (qps_ret qpe_bl)) qpss_nil)
    (qpss_cons (qps_for PassesOwn.never rfl (qpi_range2 rfl T.z_range (qpa_cons (hs := star_Constant) qpe_int (qpa_cons (hs := star_Call) (qpe_callB (call_max2 rfl) rfl T.z_max bt_max (qpa_cons (hs := star_Constant) qpe_int (qpa_cons (hs := star_Call) (qpe_callB (call_min2 rfl) rfl T.z_min bt_min (qpa_cons (hs := star_Call) (qpe_callB call_len_seq rfl T.z_len bt_len (qpa_cons (hs := star_Name) (qpv 0) qpa_nil)) (qpa_cons (hs := star_Constant) qpe_int qpa_nil))) qpa_nil))) qpa_nil))) (qpg_name (i := 2) sc_law.nd rfl (Or.inl rfl)) (qpss_cons (qps_set (i := 11) sc_law.nd rfl (Or.inl rfl) (qpe_call G_l_cell_at hr rfl T.m_l_cell_at T.k_l_cell_at T.b_l_cell_at .nil pass0 (qpa_cons (hs := star_Name) (qpv 0) (qpa_cons (hs := star_Name) (qpv 2) qpa_nil))))
    (qpss_cons (qps_set (i := 12) sc_law.nd rfl (Or.inl rfl) (qpe_call G_l_odd hr rfl T.m_l_odd T.k_l_odd T.b_l_odd .nil pass0 (qpa_cons (hs := star_Name) (qpv 11) qpa_nil)))
    (qpss_one (qps_if (QW.pt (qpw_or (qpt_cmpR op_isnotB (qpe_call G_is_poly hr rfl T.m_is_poly T.k_is_poly T.b_is_poly .nil pass0 (qpa_cons (hs := star_Name) (qpv 12) qpa_nil)) qpe_bl (nomark _)) (qpw_or1 (qpt_not (qpt_val (qpe_call G_l_refused hr rfl T.m_l_refused T.k_l_refused T.b_l_refused .nil pass0 (qpa_cons (hs := star_BinOp) (qpe_op op_mod (qpe_op op_fdivB (qpv 11) qpe_int) qpe_int) (qpa_cons (hs := star_Name) (qpv 12) (qpa_cons (hs := star_Name) (qpv 6) qpa_nil))))))))) (qpss_one (qps_ret qpe_bl)) qpss_nil)))))
    (qpss_one (qps_ret (qpe_and (qpe_call G_l_row_right hr rfl T.m_l_row_right T.k_l_row_right T.b_l_row_right .nil pass0 (qpa_cons (hs := star_Call) (qpe_call G_slope_of hr rfl T.m_slope_of T.k_slope_of T.b_slope_of .nil pass2 (qpa_cons (hs := star_Name) (qpv 5) qpa_nil)) (qpa_cons (hs := star_ListComp) (qpe_comp (caps := ["_law_one"]) (idx := [5]) rfl ⟨rfl, by decide +kernel, rfl, by decide +kernel, rfl, by decide +kernel, rfl, ⟨⟨rfl, rfl⟩, trivial⟩, by decide +kernel, rfl, by decide +kernel⟩ (qpi_range2 rfl T.z_range (qpa_cons (hs := star_Constant) qpe_int (qpa_cons (hs := star_Call) (qpe_callB call_len_seq rfl T.z_len bt_len (qpa_cons (hs := star_Name) (qpv 5) qpa_nil)) qpa_nil))) (fun _ _ _ _ => qif_none) (fun _ _ _ _ => (qpe_op op_mulB (qpv 0) (qpe_ix (show IxR _ (rIxL K) from ix_list) (qpv 1) (qpv 0) (fun _ _ => rfl))))) qpa_nil))) (qpe_one (qpe_cmpR (op_eqD hr.u40) (qpe_lst (qpa_cons (hs := star_Name) (qpv 5) (qpa_cons (hs := star_Name) (qpv 6) qpa_nil))) (qpv 7) (nomark _)))))))))))))))))))))))), ?_⟩
  -- the polynomial
  obtain ⟨m, em⟩ : ∃ m : Nat, ns.getD 0 0 % 9 = (m : Int) := ⟨(ns.getD 0 0 % 9).toNat, by have := Int.emod_nonneg (ns.getD 0 0) (show (9 : Int) ≠ 0 by decide); omega⟩
  have m9 : m < 9 := by have := Int.emod_lt_of_pos (ns.getD 0 0) (show (0 : Int) < 9 by decide); omega
  refine ⟨_, rfl, S, ns, 0, rfl, hS, _, _, rfl, rfl, (by show (0 : Int) < 9; decide), _, _, rfl, rfl, ((m + 1 : Nat) : Int), congrArg (fun z => [V.int z]) (show (1 : Int) + ns.getD 0 0 % 9 = ((m + 1 : Nat) : Int) by omega), by omega, by omega, fun D kD => ?_⟩
  refine comp_plain (c := fun _ => true) (f := fun v => match v with | .int k => .int (ns.getD (1 + k).toNat 0) | v => v) plain_range (by rw [List.length_map, List.length_range]; exact Nat.lt_of_le_of_lt (show ((m + 1 : Nat) : Int).toNat ≤ 97 by omega) (by decide)) kD (fun _ => trivial) (fun x _ ys R r => r) (fun x hx _ ys R r => ?_) ?_
  · obtain ⟨i, hi, rfl⟩ := List.mem_map.mp hx
    have r : R (.int (ns.getD (1 + (0 + (i : Int))).toNat 0)) _ := r
    rw [show (1 + (0 + (i : Int))).toNat = 1 + i by omega] at r
    exact ⟨_, rfl, _, rfl, _, _, rfl, rfl, S, ns, 1 + i, by show [V.ref S, V.int (1 + (0 + (i : Int)))] = _; rw [show (1 : Int) + (0 + (i : Int)) = ((1 + i : Nat) : Int) by omega], (same_new kD _).seq hS, r⟩
  have e1 : ((((List.range ((m + 1 : Nat) : Int).toNat).map fun i : Nat => V.int (0 + (i : Int))).filter fun _ => true).map fun v => match v with | .int k => V.int (ns.getD (1 + k).toNat 0) | v => v) = ((List.range (m + 1)).map fun i : Nat => ns.getD (1 + (0 + (i : Int))).toNat 0).map V.int := by
    rw [List.filter_eq_self.mpr (fun _ _ => rfl), Int.toNat_natCast, List.map_map, List.map_map]
    rfl
  rw [e1]
  refine ⟨D, (List.range (m + 1)).map fun i : Nat => ns.getD (1 + (0 + (i : Int))).toNat 0, rfl, upd_same, by rw [List.length_map, List.length_range]; omega, by rw [List.length_map, List.length_range]; omega, (fun c hc => by obtain ⟨i, _, rfl⟩ := List.mem_map.mp hc; exact bn _), fun PO P' H1 g1 kPO hPO lP bP lastP => ?_⟩
  rw [List.length_map, List.length_range] at lP
  have hS := ((same_new kD _).trans g1).seq hS
  clear e1 g1 kPO kD
  dsimp only [gName]
  -- the fraction
  refine ⟨_, rfl, S, ns, 10, rfl, hS, _, rfl, S, ns, 11, rfl, hS, _, _, rfl, fun tp u b H2 g2 htp b1 bu bb => ?_⟩
  have hS := g2.seq hS
  have hPO := g2 _ _ hPO
  clear g2
  dsimp only [gName]
  have pB : PolyB K H2 (.ref PO) (polyB (P'.map V.int)) := .inr ⟨PO, _, rfl, hPO, by rw [List.length_map]; omega, (fun z hz => by obtain ⟨c, _, rfl⟩ := List.mem_map.mp hz; exact Thing.int c), rfl⟩
  rw [polyB_len (by omega) (by omega) lastP] at pB
  refine ⟨_, rfl, .ref PO, _, rfl, pB, fun H3 g3 => ?_⟩
  have hS := g3.seq hS
  have hPO := g3 _ _ hPO
  have htp := g3 _ _ htp
  clear g3 pB
  dsimp only [gName]
  have bP1 : bdL 1000 P' := fun c hc => (bP c hc).mono (by decide)
  have lm : (P'.map V.int).length = P'.length := List.length_map _
  refine ⟨_, rfl, _, rfl, PO, tp, P', u, b, rfl, hPO, by omega, by omega, bP1, htp, b1, bu, bb, fun H4 g4 => ⟨_, rfl, iteF ?_⟩⟩
  refine ⟨_, rfl, _, _, _, true, rfl, TyOf.bl _, Kind.bl.kit_bool, _, rfl, iteF ?_⟩
  refine ⟨_, rfl, _, rfl, PO, _, rfl, .inl (SqL.of (g4 _ _ hPO)), _, _, rfl, rfl, rfl, _, rfl, ?_⟩
  rw [show (!decide (V.bl (decide (1 < (P'.length : Int))) = V.bl (decide (1 < ((P'.map V.int).length : Int))))) = false from by rw [lm, decide_eq_true rfl]; rfl]
  refine iteF ?_
  have hS := g4.seq hS
  have hPO := g4 _ _ hPO
  have htp := g4 _ _ htp
  clear g4
  -- a nought behind
  refine ⟨_, rfl, small (by show 1 ≤ 1000; decide), fun w kw => ?_⟩
  have gw := same_new kw (.lst [.int 0])
  refine ⟨PO, w, _, _, rfl, rfl, gw _ _ hPO, upd_same, small (by rw [lm]; show _ + 1 ≤ 1000; omega), fun cc kcc => ?_⟩
  have gc := gw.trans (same_new kcc (.lst (P'.map V.int ++ [.int 0])))
  refine ⟨_, rfl, cc, _, rfl, SqL.of upd_same, fun sc ksc => ?_⟩
  have gs := gc.trans (same_new ksc (.lst (cutV (P'.map V.int ++ [.int 0]) none (some 9))))
  have ecut : cutV (P'.map V.int ++ [.int 0]) none (some 9) = ((P' ++ [0]).take 9).map V.int := by
    rw [cut_to (by decide), List.map_take, List.map_append]
    rfl
  have hsc := upd_same (H := upd (upd H4 w (.lst [.int 0])) cc (.lst (P'.map V.int ++ [.int 0]))) (a := sc) (o := .lst (cutV (P'.map V.int ++ [.int 0]) none (some 9)))
  have l9 : 1 ≤ ((P' ++ [0]).take 9).length ∧ ((P' ++ [0]).take 9).length ≤ 9 := by rw [List.length_take, List.length_append]; show 1 ≤ min 9 (P'.length + 1) ∧ min 9 (P'.length + 1) ≤ 9; omega
  refine ⟨_, rfl, sc, tp, (P' ++ [0]).take 9, u, b, rfl, by rw [hsc, ecut], l9.1, by omega, (fun c hc => ?_), gs _ _ htp, b1, bu, bb, fun H5 g5 => ⟨_, rfl, iteF ?_⟩⟩
  · rcases List.mem_append.mp (List.mem_of_mem_take hc) with h | h
    · exact bP1 c h
    · rw [List.mem_singleton.mp h]; exact bd_small (by decide) (by decide) (by decide)
  have g5 := gs.trans g5
  refine ⟨small (by show 1 ≤ 1000; decide), fun z kz => ?_⟩
  have gz := same_new kz (.lst [.int 0])
  refine ⟨_, rfl, z, tp, [0], u, b, rfl, upd_same, (by show 1 ≤ 1; decide), (by show 1 ≤ 20; decide), (fun c hc => by rw [List.mem_singleton.mp hc]; exact bd_small (by decide) (by decide) (by decide)), gz _ _ (g5 _ _ htp), b1, bu, bb, fun H6 g6 => ⟨_, rfl, iteF ?_⟩⟩
  have g6 := g5.trans (gz.trans g6)
  have hS := g6.seq hS
  have hPO := g6 _ _ hPO
  have htp := g6 _ _ htp
  clear g6 g5 gs gc gz gw hsc
  -- the first one
  refine ⟨small (by show 1 ≤ 1000; decide), fun w2 kw2 => ?_⟩
  have gw := same_new kw2 (.lst [.int 7])
  refine ⟨_, rfl, w2, PO, _, _, rfl, rfl, upd_same, gw _ _ hPO, small (by rw [lm]; show 1 + _ ≤ 1000; omega), fun cc2 kcc2 => ?_⟩
  have gc := gw.trans (same_new kcc2 (.lst ([.int 7] ++ P'.map V.int)))
  refine ⟨_, rfl, _, rfl, cc2, _, rfl, SqL.of upd_same, fun on kon => ?_⟩
  obtain ⟨ones, eo, o2, o5, lasto, bo⟩ := cut_last5 (by omega) lastP bP
  have eo : cutV ([.int 7] ++ P'.map V.int) (some (-5)) none = ones.map V.int := eo
  rw [eo]
  have gs := gc.trans (same_new kon (.lst (ones.map V.int)))
  have hon : upd (upd (upd H6 w2 (.lst [.int 7])) cc2 (.lst ([.int 7] ++ P'.map V.int))) on (.lst (ones.map V.int)) on = some (.lst (ones.map V.int)) := upd_same
  dsimp only [gName]
  generalize upd (upd (upd H6 w2 (.lst [.int 7])) cc2 (.lst ([.int 7] ++ P'.map V.int))) on (.lst (ones.map V.int)) = H7 at gs hon ⊢
  have hS := gs.seq hS
  have htp := gs _ _ htp
  clear gs gc gw hPO eo
  have lo : (ones.map V.int).length = ones.length := List.length_map _
  -- the other one
  obtain ⟨m2, em2⟩ : ∃ m : Nat, ns.getD 12 0 % 4 = (m : Int) := ⟨(ns.getD 12 0 % 4).toNat, by have := Int.emod_nonneg (ns.getD 12 0) (show (4 : Int) ≠ 0 by decide); omega⟩
  have m24 : m2 < 4 := by have := Int.emod_lt_of_pos (ns.getD 12 0) (show (0 : Int) < 4 by decide); omega
  refine ⟨_, rfl, S, ns, 12, rfl, hS, _, _, rfl, rfl, (by show (0 : Int) < 4; decide), _, _, rfl, rfl, ((m2 + 2 : Nat) : Int), congrArg (fun z => [V.int z]) (show (2 : Int) + ns.getD 12 0 % 4 = ((m2 + 2 : Nat) : Int) by omega), by omega, by omega, fun D kD => ?_⟩
  refine comp_plain (c := fun _ => true) (f := fun v => match v with | .int k => .int (ns.getD (13 + k).toNat 0) | v => v) plain_range (by rw [List.length_map, List.length_range]; exact Nat.lt_of_le_of_lt (show ((m2 + 2 : Nat) : Int).toNat ≤ 97 by omega) (by decide)) kD (fun _ => trivial) (fun x _ ys R r => r) (fun x hx _ ys R r => ?_) ?_
  · obtain ⟨i, hi, rfl⟩ := List.mem_map.mp hx
    have r : R (.int (ns.getD (13 + (0 + (i : Int))).toNat 0)) _ := r
    rw [show (13 + (0 + (i : Int))).toNat = 13 + i by omega] at r
    exact ⟨_, rfl, _, rfl, _, _, rfl, rfl, S, ns, 13 + i, by show [V.ref S, V.int (13 + (0 + (i : Int)))] = _; rw [show (13 : Int) + (0 + (i : Int)) = ((13 + i : Nat) : Int) by omega], (same_new kD _).seq hS, r⟩
  have e1 : ((((List.range ((m2 + 2 : Nat) : Int).toNat).map fun i : Nat => V.int (0 + (i : Int))).filter fun _ => true).map fun v => match v with | .int k => V.int (ns.getD (13 + k).toNat 0) | v => v) = ((List.range (m2 + 2)).map fun i : Nat => ns.getD (13 + (0 + (i : Int))).toNat 0).map V.int := by
    rw [List.filter_eq_self.mpr (fun _ _ => rfl), Int.toNat_natCast, List.map_map, List.map_map]
    rfl
  rw [e1]
  refine ⟨D, (List.range (m2 + 2)).map fun i : Nat => ns.getD (13 + (0 + (i : Int))).toNat 0, rfl, upd_same, by rw [List.length_map, List.length_range]; omega, by rw [List.length_map, List.length_range]; omega, (fun c hc => by obtain ⟨i, _, rfl⟩ := List.mem_map.mp hc; exact bn _), fun ot ots H8 g8 kot hot lt bt lastt => ?_⟩
  rw [List.length_map, List.length_range] at lt
  have g8 := (same_new kD _).trans g8
  have hS := g8.seq hS
  have hon := g8 _ _ hon
  have htp := g8 _ _ htp
  clear e1 g8 kot kD
  dsimp only [gName]
  -- kept
  refine ⟨_, rfl, on, _, rfl, .inl (SqL.of hon), fun k1 kk1 => ?_⟩
  have gk := same_new kk1 (.lst (ones.map V.int))
  have hk1 : upd H8 k1 (.lst (ones.map V.int)) k1 = some (.lst (ones.map V.int)) := upd_same
  refine ⟨_, rfl, ot, _, rfl, .inl (SqL.of (gk _ _ hot)), fun k2 kk2 => ?_⟩
  have gk2 := same_new kk2 (.lst (ots.map V.int))
  have hk2 : upd (upd H8 k1 (.lst (ones.map V.int))) k2 (.lst (ots.map V.int)) k2 = some (.lst (ots.map V.int)) := upd_same
  have hk1 := gk2 _ _ hk1
  have gk := gk.trans gk2
  generalize upd (upd H8 k1 (.lst (ones.map V.int))) k2 (.lst (ots.map V.int)) = H9 at gk hk1 hk2 ⊢
  refine ⟨small (by show 2 ≤ 1000; decide), fun kp kkp => ?_⟩
  have gk3 := same_new kkp (.lst [.ref k1, .ref k2])
  have hkp : upd H9 kp (.lst [.ref k1, .ref k2]) kp = some (.lst [.ref k1, .ref k2]) := upd_same
  have hk1 := gk3 _ _ hk1
  have hk2 := gk3 _ _ hk2
  have gk := gk.trans gk3
  dsimp only [gName]
  generalize upd H9 kp (.lst [.ref k1, .ref k2]) = Ha at gk hk1 hk2 hkp ⊢
  have hS := gk.seq hS
  have hon := gk _ _ hon
  have hot := gk _ _ hot
  have htp := gk _ _ htp
  clear gk gk2 gk3
  have go : ∀ {Hx : Hp}, Same Ha Hx → PolyB K Hx (.ref on) true := fun g => PolyB.good (n := ones.length - 1) (g _ _ hon) (by omega) (by omega) (by omega) lasto
  have gt : ∀ {Hx : Hp}, Same Ha Hx → PolyB K Hx (.ref ot) true := fun g => PolyB.good (n := ots.length - 1) (g _ _ hot) (by omega) (by omega) (by omega) lastt
  have bo2 : bdL 2000 ones := fun c hc => (bo c hc).mono (by decide)
  have bt2 : bdL 2000 ots := fun c hc => (bt c hc).mono (by decide)
  have bsl : bdL 1000 (slopeL ones) := fun c hc => by
    obtain ⟨i, hi, rfl⟩ := List.mem_map.mp hc
    have hi := List.mem_range.mp hi
    obtain ⟨z, _, mz, ez⟩ := getD_mem' (show i + 1 < ones.length by omega)
    rw [ez]
    exact ((bd_small (n := 64) (by decide) (by omega) (by omega)).mul (bo z mz)).mono (by decide)
  have slopeEq : ((((List.range (((ones.map V.int).length : Int) - 1).toNat).map fun i : Nat => V.int (1 + (i : Int))).filter fun _ => true).map fun v => match v with | .int k => V.int (k * ones.getD k.toNat 0) | v => v) = (slopeL ones).map V.int := by
    rw [List.filter_eq_self.mpr (fun _ _ => rfl), lo, show ((ones.length : Int) - 1).toNat = ones.length - 1 by omega]
    unfold slopeL
    rw [List.map_map, List.map_map]
    refine List.map_congr_left fun i _ => ?_
    show V.int ((1 + (i : Int)) * ones.getD (1 + (i : Int)).toNat 0) = V.int (((i : Int) + 1) * ones.getD (i + 1) 0)
    rw [show (1 + (i : Int)).toNat = i + 1 by omega, Int.add_comm]
  have lsl := slope_len ones
  -- the slope
  refine ⟨_, rfl, .ref on, true, rfl, go (Same.refl _), (fun z => nomatch z), fun _ => ⟨on, ones, rfl, hon, (fun c hc => (bo c hc).mono (by decide)), fun sl Hb gb ksl hsl => ?_⟩⟩
  dsimp only [gName]
  refine ⟨_, rfl, _, rfl, on, _, rfl, .inl (SqL.of (gb _ _ hon)), 1, ((ones.map V.int).length : Int), rfl, ⟨by decide, by decide, by omega, by omega⟩, fun D kD => ?_⟩
  refine comp_plain (c := fun _ => true) (f := fun v => match v with | .int k => .int (k * ones.getD k.toNat 0) | v => v) plain_range (by rw [List.length_map, List.length_range]; exact Nat.lt_of_le_of_lt (show (((ones.map V.int).length : Int) - 1).toNat ≤ 97 by rw [lo]; omega) (by decide)) kD (fun _ => trivial) (fun x _ ys R r => r) (fun x hx _ ys R r => ?_) ?_
  · obtain ⟨j, hj, rfl⟩ := List.mem_map.mp hx
    have hj := List.mem_range.mp hj
    rw [lo] at hj
    have lj : 1 + j < ones.length := by omega
    obtain ⟨z, hz, mz, ez⟩ := getD_mem' lj
    have r : R (.int ((1 + (j : Int)) * ones.getD (1 + (j : Int)).toNat 0)) _ := r
    rw [show (1 + (j : Int)).toNat = 1 + j by omega, ez] at r
    exact ⟨_, rfl, _, rfl, _, rfl, on, _, _, _, rfl, rfl, SqL.of (same_new kD _ _ _ (gb _ _ hon)), by rw [show (1 : Int) + (j : Int) = ((1 + j : Nat) : Int) by omega]; exact atI_nat (by rw [List.getElem?_map, hz]; rfl), _, _, rfl, rfl, ⟨bd_small (by decide) (by omega) (by omega), (bo z mz).mono (by decide)⟩, r⟩
  rw [slopeEq]
  have gD := same_new kD (.lst ((slopeL ones).map V.int))
  refine ⟨sl, D, slopeL ones, rfl, gD _ _ hsl, upd_same, by omega, fun Hc gc => ⟨_, rfl, iteF ?_⟩⟩
  have gc' := gD.trans gc
  refine ⟨_, rfl, _, rfl, sl, tp, slopeL ones, u, b, rfl, gc' _ _ hsl, by omega, by omega, bsl, gc' _ _ (gb _ _ htp), b1, bu, bb, fun Hd gd => ⟨_, rfl, iteF ?_⟩⟩
  have gd := gc'.trans gd
  have hsl := gd _ _ hsl
  refine ⟨_, rfl, .inl ⟨rfl, _, SqL.of hsl⟩, sl, _, _, rfl, rfl, hsl, small (by rw [List.length_map]; show _ + 1 ≤ 1000; omega), ?_⟩
  have g := same_upd (o := .lst ((slopeL ones).map V.int ++ [.int 5])) ksl (gb.trans gd)
  generalize upd Hd sl (.lst ((slopeL ones).map V.int ++ [.int 5])) = He at g ⊢
  clear gd gc' gc gD gb hsl ksl
  -- the products
  refine ⟨_, rfl, _, rfl, on, ot, ones, ots, 200, 200, rfl, g _ _ hon, g _ _ hot, by omega, by omega, by omega, by omega, bo, bt, by decide, by decide, lasto, lastt, fun du zs Hf gf kdu hdu lz bz lastz hom => ?_⟩
  dsimp only [gName]
  have g := g.trans gf
  refine ⟨_, rfl, _, rfl, .ref on, .ref ot, true, true, rfl, go g, gt g, (fun z => nomatch z), (fun _ z => nomatch z), fun _ _ => ⟨on, ot, ones, ots, rfl, rfl, g _ _ hon, g _ _ hot, by omega, by omega, by omega, by omega, bo2, bt2, fun md ws Hg gg kmd hmd lw homw => ?_⟩⟩
  have ez : ws = zs := evz_inj (by rw [lw, lz]) (fun x _ => by rw [← homL_one, ← homL_one, homw, hom])
  rw [ez] at hmd
  dsimp only [gName]
  refine ⟨_, rfl, _, rfl, md, du, zs, rfl, hmd, gg _ _ hdu, by omega, fun Hh gh => ⟨_, rfl, iteF ?_⟩⟩
  have hmd := gh _ _ hmd
  refine ⟨_, rfl, .inl ⟨rfl, _, SqL.of hmd⟩, md, _, _, rfl, rfl, hmd, small (by rw [List.length_map]; show _ + 1 ≤ 1000; omega), ?_⟩
  have gx := same_upd (o := .lst (zs.map V.int ++ [.int 5])) kmd (gg.trans gh)
  generalize upd Hh md (.lst (zs.map V.int ++ [.int 5])) = Hi at gx ⊢
  have g := g.trans gx
  have hdu := gx _ _ hdu
  clear gx gh gg hmd kmd kdu gf
  refine ⟨_, rfl, _, rfl, .ref ot, .ref on, true, true, rfl, gt g, go g, (fun z => nomatch z), (fun _ z => nomatch z), fun _ _ => ⟨ot, on, ots, ones, rfl, rfl, g _ _ hot, g _ _ hon, by omega, by omega, by omega, by omega, bt2, bo2, fun mx w2 Hj gj km2 hm2 l2 hom2 => ?_⟩⟩
  have e2 : w2 = zs := evz_inj (by rw [l2, lz]; omega) (fun x _ => by rw [← homL_one, ← homL_one, hom2, hom, Int.mul_comm])
  rw [e2] at hm2
  refine ⟨_, rfl, mx, du, zs, rfl, hm2, gj _ _ hdu, by omega, fun Hk gk => ⟨_, rfl, iteF ?_⟩⟩
  have g := g.trans (gj.trans gk)
  clear gk gj hm2 km2 hdu
  refine ⟨_, rfl, _, rfl, .ref on, .ref on, true, true, rfl, go g, go g, (fun z => nomatch z), (fun _ z => nomatch z), fun _ _ => ⟨on, on, ones, ones, rfl, rfl, g _ _ hon, g _ _ hon, by omega, by omega, by omega, by omega, bo2, bo2, fun m3 w3 Hl gl km3 hm3 l3 hom3 => ?_⟩⟩
  have g := g.trans gl
  refine ⟨_, rfl, _, rfl, on, on, ones, ones, 200, 200, rfl, g _ _ hon, g _ _ hon, by omega, by omega, by omega, by omega, bo, bo, by decide, by decide, lasto, lasto, fun d3 z3 Hm gm kd3 hd3 lz3 bz3 last3 homz3 => ?_⟩
  have e3 : w3 = z3 := evz_inj (by rw [l3, lz3]) (fun x _ => by rw [← homL_one, ← homL_one, hom3, homz3])
  rw [e3] at hm3
  refine ⟨m3, d3, z3, rfl, gm _ _ hm3, hd3, by omega, fun Hn gn => ⟨_, rfl, iteF ?_⟩⟩
  have g := g.trans (gm.trans gn)
  clear gn gm gl hm3 hd3 km3 kd3
  refine ⟨_, rfl, _, rfl, small (by show 2 ≤ 1000; decide), fun qq kqq => ?_⟩
  have hqq : upd Hn qq (.lst [.ref on, .ref ot]) qq = some (.lst [.ref on, .ref ot]) := upd_same
  have g := g.trans (same_new kqq (.lst [.ref on, .ref ot]))
  generalize upd Hn qq (.lst [.ref on, .ref ot]) = Ho at g hqq ⊢
  refine ⟨_, rfl, qq, kp, [.ref on, .ref ot], [.ref k1, .ref k2], fun _ => true, rfl, rfl, .inr ⟨SqL.of hqq, SqL.of (g _ _ hkp)⟩, (fun j j1 j2 => by
    match j, j1 with
    | 0, _ => exact Eqs.lstI (k := 31) (SqL.of (g _ _ hon)) (SqL.of (g _ _ hk1))
    | 1, _ => exact Eqs.lstI (k := 31) (SqL.of (g _ _ hot)) (SqL.of (g _ _ hk2))
    | j + 2, j1 => exact absurd j1 (by simp)), _, rfl, iteF ?_⟩
  -- odd things
  refine ⟨_, rfl, S, _, rfl, .inl (g.seq hS), _, _, rfl, _, _, rfl, 19, _, rfl, ⟨by decide, by decide, ?_, ?_⟩, ?_⟩
  · split <;> (try split) <;> omega
  · split <;> (try split) <;> omega
  generalize (if (if (43 : Int) < ((ns.map V.int).length : Int) then (43 : Int) else ((ns.map V.int).length : Int)) > 20 then (if (43 : Int) < ((ns.map V.int).length : Int) then (43 : Int) else ((ns.map V.int).length : Int)) else 20) = hi
  refine for_rangeN (lo := 19) (n := (hi - 19).toNat) (fun i σ H' => Same Ho H' ∧ ∃ v2 v11 v12 : Option V, σ = [some (.ref S), some (.ref PO), v2, some (.ref tp), some (.bl (decide (1 < (P'.length : Int)))), some (.ref on), some (.ref ot), some (.ref kp), some (.ref sl), some (.ref du), some (.ref md), v11, v12]) ⟨Same.refl _, none, none, none, rfl⟩ ?_ ?_
  · rintro i σ Hp' hi' ⟨gp, v2, v11, v12, rfl⟩
    have gA := g.trans gp
    refine ⟨_, rfl, _, rfl, S, ns, 19 + i, congrArg (fun z => [V.ref S, V.int z]) (show (19 : Int) + (i : Int) = ((19 + i : Nat) : Int) by omega), gA.seq hS, ?_⟩
    dsimp only [gName]
    generalize ns.getD (19 + i) 0 = x
    refine ⟨_, rfl, x, rfl, fun v Hq gq np => ?_⟩
    dsimp only [gName]
    have r0 := Int.emod_nonneg (x / 12) (show (3 : Int) ≠ 0 by decide)
    have r1 := Int.emod_lt_of_pos (x / 12) (show (0 : Int) < 3 by decide)
    refine ⟨_, rfl, v, false, rfl, np, fun Hr gr => ⟨false, false, rfl, rfl, _, rfl, iteF ?_⟩⟩
    have gB := gA.trans (gq.trans gr)
    exact ⟨_, rfl, _, _, rfl, rfl, dsm (by decide) (by decide), _, _, rfl, rfl, (by show (0 : Int) < 3; decide), _, rfl, _, rfl, x / 12 % 3, v, ot, ots, ots.length - 1, rfl, r0, by omega, np.same gr, gB _ _ hot, by omega, by omega, by omega, lastt, fun Hs gs => ⟨_, rfl, iteF ⟨gp.trans (gq.trans (gr.trans gs)), _, _, _, rfl⟩⟩⟩
  rintro σ Hp' ⟨gp, v2, v11, v12, rfl⟩
  have g := g.trans gp
  -- the slope again
  refine ⟨_, rfl, .ref on, true, rfl, go g, (fun z => nomatch z), fun _ => ⟨on, ones, rfl, g _ _ hon, (fun c hc => (bo c hc).mono (by decide)), fun s2 Hq gq ks2 hs2 => ?_⟩⟩
  have g := g.trans gq
  refine ⟨_, rfl, on, _, rfl, .inl (SqL.of (g _ _ hon)), 1, ((ones.map V.int).length : Int), rfl, ⟨by decide, by decide, by omega, by omega⟩, fun D kD => ?_⟩
  refine comp_plain (c := fun _ => true) (f := fun v => match v with | .int k => .int (k * ones.getD k.toNat 0) | v => v) plain_range (by rw [List.length_map, List.length_range]; exact Nat.lt_of_le_of_lt (show (((ones.map V.int).length : Int) - 1).toNat ≤ 97 by rw [lo]; omega) (by decide)) kD (fun _ => trivial) (fun x _ ys R r => r) (fun x hx _ ys R r => ?_) ?_
  · obtain ⟨j, hj, rfl⟩ := List.mem_map.mp hx
    have hj := List.mem_range.mp hj
    rw [lo] at hj
    have lj : 1 + j < ones.length := by omega
    obtain ⟨z, hz, mz, ez⟩ := getD_mem' lj
    have r : R (.int ((1 + (j : Int)) * ones.getD (1 + (j : Int)).toNat 0)) _ := r
    rw [show (1 + (j : Int)).toNat = 1 + j by omega, ez] at r
    exact ⟨_, rfl, _, rfl, _, rfl, on, _, _, _, rfl, rfl, SqL.of (same_new kD _ _ _ (g _ _ hon)), by rw [show (1 : Int) + (j : Int) = ((1 + j : Nat) : Int) by omega]; exact atI_nat (by rw [List.getElem?_map, hz]; rfl), _, _, rfl, rfl, ⟨bd_small (by decide) (by omega) (by omega), (bo z mz).mono (by decide)⟩, r⟩
  rw [slopeEq]
  have gD := same_new kD (.lst ((slopeL ones).map V.int))
  refine ⟨s2, D, slopeL ones, rfl, gD _ _ hs2, upd_same, by omega, fun Hr gr => ⟨_, rfl, iteT ?_⟩⟩
  have g := g.trans (gD.trans gr)
  refine ⟨_, rfl, _, rfl, small (by show 2 ≤ 1000; decide), fun q2 kq2 => ?_⟩
  have hq2 : upd Hr q2 (.lst [.ref on, .ref ot]) q2 = some (.lst [.ref on, .ref ot]) := upd_same
  have g := g.trans (same_new kq2 (.lst [.ref on, .ref ot]))
  generalize upd Hr q2 (.lst [.ref on, .ref ot]) = Hs at g hq2 ⊢
  refine ⟨_, rfl, q2, kp, [.ref on, .ref ot], [.ref k1, .ref k2], fun _ => true, rfl, rfl, .inr ⟨SqL.of hq2, SqL.of (g _ _ hkp)⟩, (fun j j1 j2 => by
    match j, j1 with
    | 0, _ => exact Eqs.lstI (k := 31) (SqL.of (g _ _ hon)) (SqL.of (g _ _ hk1))
    | 1, _ => exact Eqs.lstI (k := 31) (SqL.of (g _ _ hot)) (SqL.of (g _ _ hk2))
    | j + 2, j1 => exact absurd j1 (by simp)), ?_⟩
  exact q _
end
theorem all_mk {l : PySem.W.OpenLaw} {w : World} {K : PySem.W.Frag} {h : Heap} {mg : Str → Option Value} {fa f0 f1 f2 f3 f4 f5 f6 f7 f8 f9 f10 f11 f12 f13 f14 f15 f16 f17 f18 f19 a_LeftError a_NoPrime a_NoFraction a_NoPlace a_NoFigures a_NoText a_Unlike a_NoQuotient a_NoPower a_TooFew a_NoSize a_NoPolynomial a_NoDepth a_NoRoot a_NotNear : Addr} (X : K.In h) (G : h.Ns mainGlobals mg) (hfa : mg "law" = some (.ref fa))
    {od0 an0 : Option Addr} {sl0 : Array (Option Value)} {oc0 kV0 dc0 pm0 cd0 ct0 : Value}
    {od1 an1 : Option Addr} {sl1 : Array (Option Value)} {oc1 kV1 dc1 pm1 cd1 ct1 : Value}
    {od2 an2 : Option Addr} {sl2 : Array (Option Value)} {oc2 kV2 dc2 pm2 cd2 ct2 : Value}
    {dt2 : Addr} {dto2 : Value} {dtd2 : Option Addr} {dtn2 : Nat} {dts2 : Array (Option Value)} {dk2_0 : Tok}
    {od3 an3 : Option Addr} {sl3 : Array (Option Value)} {oc3 kV3 dc3 pm3 cd3 ct3 : Value}
    {od4 an4 : Option Addr} {sl4 : Array (Option Value)} {oc4 kV4 dc4 pm4 cd4 ct4 : Value}
    {od5 an5 : Option Addr} {sl5 : Array (Option Value)} {oc5 kV5 dc5 pm5 cd5 ct5 : Value}
    {od6 an6 : Option Addr} {sl6 : Array (Option Value)} {oc6 kV6 dc6 pm6 cd6 ct6 : Value}
    {od7 an7 : Option Addr} {sl7 : Array (Option Value)} {oc7 kV7 dc7 pm7 cd7 ct7 : Value}
    {od8 an8 : Option Addr} {sl8 : Array (Option Value)} {oc8 kV8 dc8 pm8 cd8 ct8 : Value}
    {od9 an9 : Option Addr} {sl9 : Array (Option Value)} {oc9 kV9 dc9 pm9 cd9 ct9 : Value}
    {od10 an10 : Option Addr} {sl10 : Array (Option Value)} {oc10 kV10 dc10 pm10 cd10 ct10 : Value}
    {od11 an11 : Option Addr} {sl11 : Array (Option Value)} {oc11 kV11 dc11 pm11 cd11 ct11 : Value}
    {od12 an12 : Option Addr} {sl12 : Array (Option Value)} {oc12 kV12 dc12 pm12 cd12 ct12 : Value}
    {od13 an13 : Option Addr} {sl13 : Array (Option Value)} {oc13 kV13 dc13 pm13 cd13 ct13 : Value}
    {od14 an14 : Option Addr} {sl14 : Array (Option Value)} {oc14 kV14 dc14 pm14 cd14 ct14 : Value}
    {od15 an15 : Option Addr} {sl15 : Array (Option Value)} {oc15 kV15 dc15 pm15 cd15 ct15 : Value}
    {od16 an16 : Option Addr} {sl16 : Array (Option Value)} {oc16 kV16 dc16 pm16 cd16 ct16 : Value}
    {od17 an17 : Option Addr} {sl17 : Array (Option Value)} {oc17 kV17 dc17 pm17 cd17 ct17 : Value}
    {od18 an18 : Option Addr} {sl18 : Array (Option Value)} {oc18 kV18 dc18 pm18 cd18 ct18 : Value}
    {od19 an19 : Option Addr} {sl19 : Array (Option Value)} {oc19 kV19 dc19 pm19 cd19 ct19 : Value}
    {t_FEWEST_NUMBERS : Tok}
    {t_MOST_NUMBERS : Tok}
    {cd_NoPolynomial : ClassData}
    (a0 : PySem.W.nsIn K mainGlobals "is_whole" = some (some (.ref f0))) (l0 : K.lookup f0 = some ⟨oc0, od0, .func (PySem.W.fnOf "is_whole" "is_whole" (defArgs s_is_whole) (defBody s_is_whole) (defScope s_is_whole) .none kV0 dc0 pm0 an0 cd0 ct0), sl0⟩) (c0 : PySem.W.codeIn K cd0 "is_whole" = true) (k0 : PySem.W.keepIn K (.ref f0) = true)
    (a1 : PySem.W.nsIn K mainGlobals "common_divisor" = some (some (.ref f1))) (l1 : K.lookup f1 = some ⟨oc1, od1, .func (PySem.W.fnOf "common_divisor" "common_divisor" (defArgs s_common_divisor) (defBody s_common_divisor) (defScope s_common_divisor) .none kV1 dc1 pm1 an1 cd1 ct1), sl1⟩) (c1 : PySem.W.codeIn K cd1 "common_divisor" = true) (k1 : PySem.W.keepIn K (.ref f1) = true)
    (a2 : PySem.W.nsIn K mainGlobals "fraction" = some (some (.ref f2))) (l2 : K.lookup f2 = some ⟨oc2, od2, .func (PySem.W.fnOf "fraction" "fraction" (defArgs s_fraction) (defBody s_fraction) (defScope s_fraction) (.ref dt2) kV2 dc2 pm2 an2 cd2 ct2), sl2⟩) (c2 : PySem.W.codeIn K cd2 "fraction" = true) (k2 : PySem.W.keepIn K (.ref f2) = true)
    (ld2 : K.lookup dt2 = some ⟨dto2, dtd2, .seq #[.int 1 dk2_0] dtn2, dts2⟩)
    (a3 : PySem.W.nsIn K mainGlobals "is_poly" = some (some (.ref f3))) (l3 : K.lookup f3 = some ⟨oc3, od3, .func (PySem.W.fnOf "is_poly" "is_poly" (defArgs s_is_poly) (defBody s_is_poly) (defScope s_is_poly) .none kV3 dc3 pm3 an3 cd3 ct3), sl3⟩) (c3 : PySem.W.codeIn K cd3 "is_poly" = true) (k3 : PySem.W.keepIn K (.ref f3) = true)
    (a4 : PySem.W.nsIn K mainGlobals "refuse_poly" = some (some (.ref f4))) (l4 : K.lookup f4 = some ⟨oc4, od4, .func (PySem.W.fnOf "refuse_poly" "refuse_poly" (defArgs s_refuse_poly) (defBody s_refuse_poly) (defScope s_refuse_poly) .none kV4 dc4 pm4 an4 cd4 ct4), sl4⟩) (c4 : PySem.W.codeIn K cd4 "refuse_poly" = true) (k4 : PySem.W.keepIn K (.ref f4) = true)
    (a5 : PySem.W.nsIn K mainGlobals "worth_at" = some (some (.ref f5))) (l5 : K.lookup f5 = some ⟨oc5, od5, .func (PySem.W.fnOf "worth_at" "worth_at" (defArgs s_worth_at) (defBody s_worth_at) (defScope s_worth_at) .none kV5 dc5 pm5 an5 cd5 ct5), sl5⟩) (c5 : PySem.W.codeIn K cd5 "worth_at" = true) (k5 : PySem.W.keepIn K (.ref f5) = true)
    (a6 : PySem.W.nsIn K mainGlobals "slope_of" = some (some (.ref f6))) (l6 : K.lookup f6 = some ⟨oc6, od6, .func (PySem.W.fnOf "slope_of" "slope_of" (defArgs s_slope_of) (defBody s_slope_of) (defScope s_slope_of) .none kV6 dc6 pm6 an6 cd6 ct6), sl6⟩) (c6 : PySem.W.codeIn K cd6 "slope_of" = true) (k6 : PySem.W.keepIn K (.ref f6) = true)
    (a7 : PySem.W.nsIn K mainGlobals "product_of" = some (some (.ref f7))) (l7 : K.lookup f7 = some ⟨oc7, od7, .func (PySem.W.fnOf "product_of" "product_of" (defArgs s_product_of) (defBody s_product_of) (defScope s_product_of) .none kV7 dc7 pm7 an7 cd7 ct7), sl7⟩) (c7 : PySem.W.codeIn K cd7 "product_of" = true) (k7 : PySem.W.keepIn K (.ref f7) = true)
    (a8 : PySem.W.nsIn K mainGlobals "_law_cell_at" = some (some (.ref f8))) (l8 : K.lookup f8 = some ⟨oc8, od8, .func (PySem.W.fnOf "_law_cell_at" "_law_cell_at" (defArgs s_l_cell_at) (defBody s_l_cell_at) (defScope s_l_cell_at) .none kV8 dc8 pm8 an8 cd8 ct8), sl8⟩) (c8 : PySem.W.codeIn K cd8 "_law_cell_at" = true) (k8 : PySem.W.keepIn K (.ref f8) = true)
    (a9 : PySem.W.nsIn K mainGlobals "_law_whole" = some (some (.ref f9))) (l9 : K.lookup f9 = some ⟨oc9, od9, .func (PySem.W.fnOf "_law_whole" "_law_whole" (defArgs s_l_whole) (defBody s_l_whole) (defScope s_l_whole) .none kV9 dc9 pm9 an9 cd9 ct9), sl9⟩) (c9 : PySem.W.codeIn K cd9 "_law_whole" = true) (k9 : PySem.W.keepIn K (.ref f9) = true)
    (a10 : PySem.W.nsIn K mainGlobals "_law_number" = some (some (.ref f10))) (l10 : K.lookup f10 = some ⟨oc10, od10, .func (PySem.W.fnOf "_law_number" "_law_number" (defArgs s_l_number) (defBody s_l_number) (defScope s_l_number) .none kV10 dc10 pm10 an10 cd10 ct10), sl10⟩) (c10 : PySem.W.codeIn K cd10 "_law_number" = true) (k10 : PySem.W.keepIn K (.ref f10) = true)
    (a11 : PySem.W.nsIn K mainGlobals "_law_list" = some (some (.ref f11))) (l11 : K.lookup f11 = some ⟨oc11, od11, .func (PySem.W.fnOf "_law_list" "_law_list" (defArgs s_l_list) (defBody s_l_list) (defScope s_l_list) .none kV11 dc11 pm11 an11 cd11 ct11), sl11⟩) (c11 : PySem.W.codeIn K cd11 "_law_list" = true) (k11 : PySem.W.keepIn K (.ref f11) = true)
    (a12 : PySem.W.nsIn K mainGlobals "_law_divisor" = some (some (.ref f12))) (l12 : K.lookup f12 = some ⟨oc12, od12, .func (PySem.W.fnOf "_law_divisor" "_law_divisor" (defArgs s_l_divisor) (defBody s_l_divisor) (defScope s_l_divisor) .none kV12 dc12 pm12 an12 cd12 ct12), sl12⟩) (c12 : PySem.W.codeIn K cd12 "_law_divisor" = true) (k12 : PySem.W.keepIn K (.ref f12) = true)
    (a13 : PySem.W.nsIn K mainGlobals "_law_part" = some (some (.ref f13))) (l13 : K.lookup f13 = some ⟨oc13, od13, .func (PySem.W.fnOf "_law_part" "_law_part" (defArgs s_l_part) (defBody s_l_part) (defScope s_l_part) .none kV13 dc13 pm13 an13 cd13 ct13), sl13⟩) (c13 : PySem.W.codeIn K cd13 "_law_part" = true) (k13 : PySem.W.keepIn K (.ref f13) = true)
    (a14 : PySem.W.nsIn K mainGlobals "_law_worth_right" = some (some (.ref f14))) (l14 : K.lookup f14 = some ⟨oc14, od14, .func (PySem.W.fnOf "_law_worth_right" "_law_worth_right" (defArgs s_l_worth_right) (defBody s_l_worth_right) (defScope s_l_worth_right) .none kV14 dc14 pm14 an14 cd14 ct14), sl14⟩) (c14 : PySem.W.codeIn K cd14 "_law_worth_right" = true) (k14 : PySem.W.keepIn K (.ref f14) = true)
    (a15 : PySem.W.nsIn K mainGlobals "_law_row_right" = some (some (.ref f15))) (l15 : K.lookup f15 = some ⟨oc15, od15, .func (PySem.W.fnOf "_law_row_right" "_law_row_right" (defArgs s_l_row_right) (defBody s_l_row_right) (defScope s_l_row_right) .none kV15 dc15 pm15 an15 cd15 ct15), sl15⟩) (c15 : PySem.W.codeIn K cd15 "_law_row_right" = true) (k15 : PySem.W.keepIn K (.ref f15) = true)
    (a16 : PySem.W.nsIn K mainGlobals "_law_product" = some (some (.ref f16))) (l16 : K.lookup f16 = some ⟨oc16, od16, .func (PySem.W.fnOf "_law_product" "_law_product" (defArgs s_l_product) (defBody s_l_product) (defScope s_l_product) .none kV16 dc16 pm16 an16 cd16 ct16), sl16⟩) (c16 : PySem.W.codeIn K cd16 "_law_product" = true) (k16 : PySem.W.keepIn K (.ref f16) = true)
    (a17 : PySem.W.nsIn K mainGlobals "_law_odd" = some (some (.ref f17))) (l17 : K.lookup f17 = some ⟨oc17, od17, .func (PySem.W.fnOf "_law_odd" "_law_odd" (defArgs s_l_odd) (defBody s_l_odd) (defScope s_l_odd) .none kV17 dc17 pm17 an17 cd17 ct17), sl17⟩) (c17 : PySem.W.codeIn K cd17 "_law_odd" = true) (k17 : PySem.W.keepIn K (.ref f17) = true)
    (a18 : PySem.W.nsIn K mainGlobals "_law_refused" = some (some (.ref f18))) (l18 : K.lookup f18 = some ⟨oc18, od18, .func (PySem.W.fnOf "_law_refused" "_law_refused" (defArgs s_l_refused) (defBody s_l_refused) (defScope s_l_refused) .none kV18 dc18 pm18 an18 cd18 ct18), sl18⟩) (c18 : PySem.W.codeIn K cd18 "_law_refused" = true) (k18 : PySem.W.keepIn K (.ref f18) = true)
    (a19 : PySem.W.nsIn K mainGlobals "law" = some (some (.ref f19))) (l19 : K.lookup f19 = some ⟨oc19, od19, .func (PySem.W.fnOf "law" "law" (defArgs s_law) (defBody s_law) (defScope s_law) .none kV19 dc19 pm19 an19 cd19 ct19), sl19⟩) (c19 : PySem.W.codeIn K cd19 "law" = true) (k19 : PySem.W.keepIn K (.ref f19) = true)
    (a_FEWEST_NUMBERS_ : PySem.W.nsIn K mainGlobals "FEWEST_NUMBERS" = some (some (.int 2 t_FEWEST_NUMBERS)))
    (a_MOST_NUMBERS_ : PySem.W.nsIn K mainGlobals "MOST_NUMBERS" = some (some (.int 9 t_MOST_NUMBERS)))
    (a_LeftError_ : PySem.W.nsIn K mainGlobals "LeftError" = some (some (.ref a_LeftError)))
    (a_NoPrime_ : PySem.W.nsIn K mainGlobals "NoPrime" = some (some (.ref a_NoPrime)))
    (a_NoFraction_ : PySem.W.nsIn K mainGlobals "NoFraction" = some (some (.ref a_NoFraction)))
    (a_NoPlace_ : PySem.W.nsIn K mainGlobals "NoPlace" = some (some (.ref a_NoPlace)))
    (a_NoFigures_ : PySem.W.nsIn K mainGlobals "NoFigures" = some (some (.ref a_NoFigures)))
    (a_NoText_ : PySem.W.nsIn K mainGlobals "NoText" = some (some (.ref a_NoText)))
    (a_Unlike_ : PySem.W.nsIn K mainGlobals "Unlike" = some (some (.ref a_Unlike)))
    (a_NoQuotient_ : PySem.W.nsIn K mainGlobals "NoQuotient" = some (some (.ref a_NoQuotient)))
    (a_NoPower_ : PySem.W.nsIn K mainGlobals "NoPower" = some (some (.ref a_NoPower)))
    (a_TooFew_ : PySem.W.nsIn K mainGlobals "TooFew" = some (some (.ref a_TooFew)))
    (a_NoSize_ : PySem.W.nsIn K mainGlobals "NoSize" = some (some (.ref a_NoSize)))
    (a_NoPolynomial_ : PySem.W.nsIn K mainGlobals "NoPolynomial" = some (some (.ref a_NoPolynomial)))
    (a_NoDepth_ : PySem.W.nsIn K mainGlobals "NoDepth" = some (some (.ref a_NoDepth)))
    (a_NoRoot_ : PySem.W.nsIn K mainGlobals "NoRoot" = some (some (.ref a_NoRoot)))
    (a_NotNear_ : PySem.W.nsIn K mainGlobals "NotNear" = some (some (.ref a_NotNear)))
    (x_NoFraction : PySem.W.excIn K a_NoFraction bmVE "ValueError.__new__" = true)
    (x_NoPolynomial : PySem.W.excIn K a_NoPolynomial bmVE "ValueError.__new__" = true)
    (x_LeftError : PySem.W.excIn K a_LeftError bmVE "ValueError.__new__" = true)
    (ga_NoPolynomial : PySem.W.findIn K (.ref a_NoPolynomial) "__getattribute__" = some (some (.builtin "BaseException.__getattribute__")))
    (gt_NoPolynomial : PySem.W.findIn K (.ref a_NoPolynomial) "__getattr__" = some none)
    (cl_NoPolynomial : PySem.W.findIn K (.ref a_NoPolynomial) "__class__" = some (some (.builtin "object.__class__")))
    (ob_NoPolynomial : PySem.W.subIn K (.ref a_NoPolynomial) (.type "object") = some true)
    (be_NoPolynomial : PySem.W.subIn K (.ref a_NoPolynomial) (.type "BaseException") = some true)
    (ci_NoPolynomial : PySem.W.clsIn K a_NoPolynomial = some cd_NoPolynomial)
    (kt_NoPolynomial_NoPolynomial : PySem.W.kitOne K (.ref a_NoPolynomial) (.ref a_NoPolynomial) = some true)
    (kt_NoPolynomial_ValueError : PySem.W.kitOne K (.ref a_NoPolynomial) (.type "ValueError") = some true)
    (kt_NoPolynomial_NoPrime : PySem.W.kitOne K (.ref a_NoPolynomial) (.ref a_NoPrime) = some false)
    (kt_NoPolynomial_NoFraction : PySem.W.kitOne K (.ref a_NoPolynomial) (.ref a_NoFraction) = some false)
    (kt_NoPolynomial_NoPlace : PySem.W.kitOne K (.ref a_NoPolynomial) (.ref a_NoPlace) = some false)
    (kt_NoPolynomial_NoFigures : PySem.W.kitOne K (.ref a_NoPolynomial) (.ref a_NoFigures) = some false)
    (kt_NoPolynomial_NoText : PySem.W.kitOne K (.ref a_NoPolynomial) (.ref a_NoText) = some false)
    (kt_NoPolynomial_Unlike : PySem.W.kitOne K (.ref a_NoPolynomial) (.ref a_Unlike) = some false)
    (kt_NoPolynomial_NoQuotient : PySem.W.kitOne K (.ref a_NoPolynomial) (.ref a_NoQuotient) = some false)
    (kt_NoPolynomial_NoPower : PySem.W.kitOne K (.ref a_NoPolynomial) (.ref a_NoPower) = some false)
    (kt_NoPolynomial_TooFew : PySem.W.kitOne K (.ref a_NoPolynomial) (.ref a_TooFew) = some false)
    (kt_NoPolynomial_NoSize : PySem.W.kitOne K (.ref a_NoPolynomial) (.ref a_NoSize) = some false)
    (kt_NoPolynomial_NoDepth : PySem.W.kitOne K (.ref a_NoPolynomial) (.ref a_NoDepth) = some false)
    (kt_NoPolynomial_NoRoot : PySem.W.kitOne K (.ref a_NoPolynomial) (.ref a_NoRoot) = some false)
    (kt_NoPolynomial_NotNear : PySem.W.kitOne K (.ref a_NoPolynomial) (.ref a_NotNear) = some false)
    (sb_NoPolynomial : PySem.W.subIn K (.ref a_NoPolynomial) (.ref a_LeftError) = some true)
    (z_ValueError : PySem.W.nsIn K mainGlobals "ValueError" = some none)
    (z_abs : PySem.W.nsIn K mainGlobals "abs" = some none)
    (z_all : PySem.W.nsIn K mainGlobals "all" = some none)
    (z_bool : PySem.W.nsIn K mainGlobals "bool" = some none)
    (z_enumerate : PySem.W.nsIn K mainGlobals "enumerate" = some none)
    (z_int : PySem.W.nsIn K mainGlobals "int" = some none)
    (z_isinstance : PySem.W.nsIn K mainGlobals "isinstance" = some none)
    (z_len : PySem.W.nsIn K mainGlobals "len" = some none)
    (z_list : PySem.W.nsIn K mainGlobals "list" = some none)
    (z_max : PySem.W.nsIn K mainGlobals "max" = some none)
    (z_min : PySem.W.nsIn K mainGlobals "min" = some none)
    (z_range : PySem.W.nsIn K mainGlobals "range" = some none)
    (z_reversed : PySem.W.nsIn K mainGlobals "reversed" = some none)
    (z_tuple : PySem.W.nsIn K mainGlobals "tuple" = some none) :
    ∃ fd : FuncData, (∀ (s : Shared) (v : Value), BindsTo s fd ⟨[v], []⟩ [("_law_script", v)]) ∧ ∀ base : Heap, K.In base → base.Ns mainGlobals mg → FnOk l.prog w K mg base CX0 9 fa fd ["_law_script"] (spLawB K) := by
  have e := hfa.symm.trans (PySem.W.mg_of X G a19)
  cases e
  have F0 := fun_mk (st := s_is_whole) l0 c0 k0
  have b0 := F0.binds (ps := ["thing"]) fun _ _ _ _ _ _ us hl => match us, hl with | [_], _ => rfl
  have F1 := fun_mk (st := s_common_divisor) l1 c1 k1
  have b1 := F1.binds (ps := ["one", "other"]) fun _ _ _ _ _ _ us hl => match us, hl with | [_, _], _ => rfl
  have F2 := funD_mk (st := s_fraction) l2 c2 k2
  have b2 : Binds K (PySem.W.fnOf "fraction" "fraction" (defArgs s_fraction) (defBody s_fraction) (defScope s_fraction) (.ref dt2) kV2 dc2 pm2 an2 cd2 ct2) ["top", "bottom"] [] := fun s us X hl => match us, hl with | [_, _], _ => PySem.W.binds_K X rfl ld2 rfl rfl rfl
  have bd2 : Binds K (PySem.W.fnOf "fraction" "fraction" (defArgs s_fraction) (defBody s_fraction) (defScope s_fraction) (.ref dt2) kV2 dc2 pm2 an2 cd2 ct2) ["top", "bottom"] [.int 1 dk2_0] := fun s us X hl => match us, (show us.length = 1 by have := hl; rw [List.length_append] at this; exact Nat.add_right_cancel (m := 1) this) with | [_], _ => PySem.W.binds_K X rfl ld2 rfl rfl rfl
  have F3 := fun_mk (st := s_is_poly) l3 c3 k3
  have b3 := F3.binds (ps := ["thing"]) fun _ _ _ _ _ _ us hl => match us, hl with | [_], _ => rfl
  have F4 := fun_mk (st := s_refuse_poly) l4 c4 k4
  have b4 := F4.binds (ps := ["thing"]) fun _ _ _ _ _ _ us hl => match us, hl with | [_], _ => rfl
  have F5 := fun_mk (st := s_worth_at) l5 c5 k5
  have b5 := F5.binds (ps := ["poly", "part"]) fun _ _ _ _ _ _ us hl => match us, hl with | [_, _], _ => rfl
  have F6 := fun_mk (st := s_slope_of) l6 c6 k6
  have b6 := F6.binds (ps := ["poly"]) fun _ _ _ _ _ _ us hl => match us, hl with | [_], _ => rfl
  have F7 := fun_mk (st := s_product_of) l7 c7 k7
  have b7 := F7.binds (ps := ["poly", "other"]) fun _ _ _ _ _ _ us hl => match us, hl with | [_, _], _ => rfl
  have F8 := fun_mk (st := s_l_cell_at) l8 c8 k8
  have b8 := F8.binds (ps := ["_law_script", "_law_k"]) fun _ _ _ _ _ _ us hl => match us, hl with | [_, _], _ => rfl
  have F9 := fun_mk (st := s_l_whole) l9 c9 k9
  have b9 := F9.binds (ps := ["_law_found"]) fun _ _ _ _ _ _ us hl => match us, hl with | [_], _ => rfl
  have F10 := fun_mk (st := s_l_number) l10 c10 k10
  have b10 := F10.binds (ps := ["_law_cell"]) fun _ _ _ _ _ _ us hl => match us, hl with | [_], _ => rfl
  have F11 := fun_mk (st := s_l_list) l11 c11 k11
  have b11 := F11.binds (ps := ["_law_cells"]) fun _ _ _ _ _ _ us hl => match us, hl with | [_], _ => rfl
  have F12 := fun_mk (st := s_l_divisor) l12 c12 k12
  have b12 := F12.binds (ps := ["_law_one", "_law_other"]) fun _ _ _ _ _ _ us hl => match us, hl with | [_, _], _ => rfl
  have F13 := fun_mk (st := s_l_part) l13 c13 k13
  have b13 := F13.binds (ps := ["_law_top", "_law_bottom"]) fun _ _ _ _ _ _ us hl => match us, hl with | [_, _], _ => rfl
  have F14 := fun_mk (st := s_l_worth_right) l14 c14 k14
  have b14 := F14.binds (ps := ["_law_poly", "_law_part_here"]) fun _ _ _ _ _ _ us hl => match us, hl with | [_, _], _ => rfl
  have F15 := fun_mk (st := s_l_row_right) l15 c15 k15
  have b15 := F15.binds (ps := ["_law_found", "_law_due"]) fun _ _ _ _ _ _ us hl => match us, hl with | [_, _], _ => rfl
  have F16 := fun_mk (st := s_l_product) l16 c16 k16
  have b16 := F16.binds (ps := ["_law_one", "_law_other"]) fun _ _ _ _ _ _ us hl => match us, hl with | [_, _], _ => rfl
  have F17 := fun_mk (st := s_l_odd) l17 c17 k17
  have b17 := F17.binds (ps := ["_law_cell"]) fun _ _ _ _ _ _ us hl => match us, hl with | [_], _ => rfl
  have F18 := fun_mk (st := s_l_refused) l18 c18 k18
  have b18 := F18.binds (ps := ["_law_way", "_law_thing", "_law_poly"]) fun _ _ _ _ _ _ us hl => match us, hl with | [_, _, _], _ => rfl
  have F19 := fun_mk (st := s_law) l19 c19 k19
  have T : Txt K mg := ⟨f0, _, F0, b0, PySem.W.mg_of X G a0, k0, f1, _, F1, b1, PySem.W.mg_of X G a1, k1, f2, _, F2, b2, PySem.W.mg_of X G a2, k2, ⟨_, .cons ⟨_, rfl⟩ (.nil), bd2⟩, f3, _, F3, b3, PySem.W.mg_of X G a3, k3, f4, _, F4, b4, PySem.W.mg_of X G a4, k4, f5, _, F5, b5, PySem.W.mg_of X G a5, k5, f6, _, F6, b6, PySem.W.mg_of X G a6, k6, f7, _, F7, b7, PySem.W.mg_of X G a7, k7, f8, _, F8, b8, PySem.W.mg_of X G a8, k8, f9, _, F9, b9, PySem.W.mg_of X G a9, k9, f10, _, F10, b10, PySem.W.mg_of X G a10, k10, f11, _, F11, b11, PySem.W.mg_of X G a11, k11, f12, _, F12, b12, PySem.W.mg_of X G a12, k12, f13, _, F13, b13, PySem.W.mg_of X G a13, k13, f14, _, F14, b14, PySem.W.mg_of X G a14, k14, f15, _, F15, b15, PySem.W.mg_of X G a15, k15, f16, _, F16, b16, PySem.W.mg_of X G a16, k16, f17, _, F17, b17, PySem.W.mg_of X G a17, k17, f18, _, F18, b18, PySem.W.mg_of X G a18, k18, t_FEWEST_NUMBERS, PySem.W.mg_of X G a_FEWEST_NUMBERS_, t_MOST_NUMBERS, PySem.W.mg_of X G a_MOST_NUMBERS_, a_LeftError, PySem.W.mg_of X G a_LeftError_, a_NoPrime, PySem.W.mg_of X G a_NoPrime_, a_NoFraction, PySem.W.mg_of X G a_NoFraction_, a_NoPlace, PySem.W.mg_of X G a_NoPlace_, a_NoFigures, PySem.W.mg_of X G a_NoFigures_, a_NoText, PySem.W.mg_of X G a_NoText_, a_Unlike, PySem.W.mg_of X G a_Unlike_, a_NoQuotient, PySem.W.mg_of X G a_NoQuotient_, a_NoPower, PySem.W.mg_of X G a_NoPower_, a_TooFew, PySem.W.mg_of X G a_TooFew_, a_NoSize, PySem.W.mg_of X G a_NoSize_, a_NoPolynomial, PySem.W.mg_of X G a_NoPolynomial_, a_NoDepth, PySem.W.mg_of X G a_NoDepth_, a_NoRoot, PySem.W.mg_of X G a_NoRoot_, a_NotNear, PySem.W.mg_of X G a_NotNear_, x_NoFraction, x_NoPolynomial, x_LeftError, ⟨ga_NoPolynomial, gt_NoPolynomial, cl_NoPolynomial, ob_NoPolynomial, be_NoPolynomial, by rw [ci_NoPolynomial]; rfl⟩, kt_NoPolynomial_NoPolynomial, kt_NoPolynomial_ValueError, kt_NoPolynomial_NoPrime, kt_NoPolynomial_NoFraction, kt_NoPolynomial_NoPlace, kt_NoPolynomial_NoFigures, kt_NoPolynomial_NoText, kt_NoPolynomial_Unlike, kt_NoPolynomial_NoQuotient, kt_NoPolynomial_NoPower, kt_NoPolynomial_TooFew, kt_NoPolynomial_NoSize, kt_NoPolynomial_NoDepth, kt_NoPolynomial_NoRoot, kt_NoPolynomial_NotNear, sb_NoPolynomial, PySem.W.mg_none_of X G z_ValueError, PySem.W.mg_none_of X G z_abs, PySem.W.mg_none_of X G z_all, PySem.W.mg_none_of X G z_bool, PySem.W.mg_none_of X G z_enumerate, PySem.W.mg_none_of X G z_int, PySem.W.mg_none_of X G z_isinstance, PySem.W.mg_none_of X G z_len, PySem.W.mg_none_of X G z_list, PySem.W.mg_none_of X G z_max, PySem.W.mg_none_of X G z_min, PySem.W.mg_none_of X G z_range, PySem.W.mg_none_of X G z_reversed, PySem.W.mg_none_of X G z_tuple⟩
  exact ⟨PySem.W.fnOf "law" "law" (defArgs s_law) (defBody s_law) (defScope s_law) .none kV19 dc19 pm19 an19 cd19 ct19, fun s v => .of_eq rfl, fun base _ _ => ok_law T F19⟩
theorem walk {l : PySem.W.OpenLaw} {q : Program} {loose : List Str} {XP : (Str → Option Value) → Heap → Prop} {YP : World → Heap → Prop} {d : DefRec} {K : Params → PySem.W.Frag} (hn : l.most = some 63) (hdf : d.params.defaults = [])
    (hY : ∀ (w : World) (h : Heap), YP w h → (K w.params).In h)
    (F : ∀ (w : World) (mg : Str → Option Value) (fa : Addr) (h : Heap), (K w.params).In h → h.Ns mainGlobals mg → mg d.name = some (.ref fa) →
      ∃ fd : FuncData, (∀ (s : Shared) (u : Value), BindsTo s fd ⟨[u], []⟩ [("_law_script", u)]) ∧ ∀ base : Heap, (K w.params).In base → base.Ns mainGlobals mg → FnOk l.prog w (K w.params) mg base CX0 9 fa fd ["_law_script"] (spLawB (K w.params))) :
    PySem.W.WalkO q loose XP YP l.row.toRowW d [] (fun f vs => PySem.call f vs) :=
  L2.walk_ofB (n := 63) (k := 9) (x := "_law_script") (CX := fun _ => CX0) (sp := fun w => spLawB (K w.params)) hn (by decide) hdf ⟨rfl, by decide, by decide⟩ hY F (fun _ _ a ns hl hb _ hS => ⟨a, ns, rfl, hS, hl, bd_getD hb, fun _ => rfl⟩) fun _ _ _ _ _ z => z
end K61
def PySem.W.Fast.tw10898033432369025051 : Unit := ()
def PySem.W.Fast.tw1197134158658328623 : Unit := ()
def PySem.W.Fast.tw13016324982126885592 : Unit := ()
def PySem.W.Fast.tw14146148431558002430 : Unit := ()
def PySem.W.Fast.tw2997171621887410263 : Unit := ()
def PySem.W.Fast.tw8259212767717222234 : Unit := ()
def PySem.W.Fast.tw8444054401717535798 : Unit := ()
def PySem.W.Fast.tw9766883774435061108 : Unit := ()
open PySem PySem.W PyProof.Rows
set_option maxRecDepth 100000 in
set_option maxHeartbeats 0 in
theorem PySem.Challenge.cw_leftnumbers_k61_worths_slopes_products_holds : PySem.Challenge.rw_leftnumbers_k61_worths_slopes_products.Holds := by
  w_on; o_law; k_head; (case hw => w_witness2)
  k_fill
  refine K61.walk (l := PySem.Challenge.rw_leftnumbers_k61_worths_slopes_products) rfl rfl (fun w h Y => PySem.W.kIn_of Y) ?F
  case F =>
    intro w mg fa h KX G hmg
    refine' K61.all_mk KX G hmg ?a0 ?l0 ?c0 ?k0 ?a1 ?l1 ?c1 ?k1 ?a2 ?l2 ?c2 ?k2 ?ld2 ?a3 ?l3 ?c3 ?k3 ?a4 ?l4 ?c4 ?k4 ?a5 ?l5 ?c5 ?k5 ?a6 ?l6 ?c6 ?k6 ?a7 ?l7 ?c7 ?k7 ?a8 ?l8 ?c8 ?k8 ?a9 ?l9 ?c9 ?k9 ?a10 ?l10 ?c10 ?k10 ?a11 ?l11 ?c11 ?k11 ?a12 ?l12 ?c12 ?k12 ?a13 ?l13 ?c13 ?k13 ?a14 ?l14 ?c14 ?k14 ?a15 ?l15 ?c15 ?k15 ?a16 ?l16 ?c16 ?k16 ?a17 ?l17 ?c17 ?k17 ?a18 ?l18 ?c18 ?k18 ?a19 ?l19 ?c19 ?k19 ?a_FEWEST_NUMBERS_ ?a_MOST_NUMBERS_ ?a_LeftError_ ?a_NoPrime_ ?a_NoFraction_ ?a_NoPlace_ ?a_NoFigures_ ?a_NoText_ ?a_Unlike_ ?a_NoQuotient_ ?a_NoPower_ ?a_TooFew_ ?a_NoSize_ ?a_NoPolynomial_ ?a_NoDepth_ ?a_NoRoot_ ?a_NotNear_ ?x_NoFraction ?x_NoPolynomial ?x_LeftError ?ga_NoPolynomial ?gt_NoPolynomial ?cl_NoPolynomial ?ob_NoPolynomial ?be_NoPolynomial ?ci_NoPolynomial ?kt_NoPolynomial_NoPolynomial ?kt_NoPolynomial_ValueError ?kt_NoPolynomial_NoPrime ?kt_NoPolynomial_NoFraction ?kt_NoPolynomial_NoPlace ?kt_NoPolynomial_NoFigures ?kt_NoPolynomial_NoText ?kt_NoPolynomial_Unlike ?kt_NoPolynomial_NoQuotient ?kt_NoPolynomial_NoPower ?kt_NoPolynomial_TooFew ?kt_NoPolynomial_NoSize ?kt_NoPolynomial_NoDepth ?kt_NoPolynomial_NoRoot ?kt_NoPolynomial_NotNear ?sb_NoPolynomial ?z_ValueError ?z_abs ?z_all ?z_bool ?z_enumerate ?z_int ?z_isinstance ?z_len ?z_list ?z_max ?z_min ?z_range ?z_reversed ?z_tuple
    (case a0 => k_is)
    (case l0 => k_is)
    (case c0 => k_is)
    (case k0 => k_is)
    (case a1 => k_is)
    (case l1 => k_is)
    (case c1 => k_is)
    (case k1 => k_is)
    (case a2 => k_is)
    (case l2 => k_is)
    (case c2 => k_is)
    (case k2 => k_is)
    (case ld2 => k_is)
    (case a3 => k_is)
    (case l3 => k_is)
    (case c3 => k_is)
    (case k3 => k_is)
    (case a4 => k_is)
    (case l4 => k_is)
    (case c4 => k_is)
    (case k4 => k_is)
    (case a5 => k_is)
    (case l5 => k_is)
    (case c5 => k_is)
    (case k5 => k_is)
    (case a6 => k_is)
    (case l6 => k_is)
    (case c6 => k_is)
    (case k6 => k_is)
    (case a7 => k_is)
    (case l7 => k_is)
    (case c7 => k_is)
    (case k7 => k_is)
    (case a8 => k_is)
    (case l8 => k_is)
    (case c8 => k_is)
    (case k8 => k_is)
    (case a9 => k_is)
    (case l9 => k_is)
    (case c9 => k_is)
    (case k9 => k_is)
    (case a10 => k_is)
    (case l10 => k_is)
    (case c10 => k_is)
    (case k10 => k_is)
    (case a11 => k_is)
    (case l11 => k_is)
    (case c11 => k_is)
    (case k11 => k_is)
    (case a12 => k_is)
    (case l12 => k_is)
    (case c12 => k_is)
    (case k12 => k_is)
    (case a13 => k_is)
    (case l13 => k_is)
    (case c13 => k_is)
    (case k13 => k_is)
    (case a14 => k_is)
    (case l14 => k_is)
    (case c14 => k_is)
    (case k14 => k_is)
    (case a15 => k_is)
    (case l15 => k_is)
    (case c15 => k_is)
    (case k15 => k_is)
    (case a16 => k_is)
    (case l16 => k_is)
    (case c16 => k_is)
    (case k16 => k_is)
    (case a17 => k_is)
    (case l17 => k_is)
    (case c17 => k_is)
    (case k17 => k_is)
    (case a18 => k_is)
    (case l18 => k_is)
    (case c18 => k_is)
    (case k18 => k_is)
    (case a19 => k_is)
    (case l19 => k_is)
    (case c19 => k_is)
    (case k19 => k_is)
    (case a_FEWEST_NUMBERS_ => k_is)
    (case a_MOST_NUMBERS_ => k_is)
    (case a_LeftError_ => k_is)
    (case a_NoPrime_ => k_is)
    (case a_NoFraction_ => k_is)
    (case a_NoPlace_ => k_is)
    (case a_NoFigures_ => k_is)
    (case a_NoText_ => k_is)
    (case a_Unlike_ => k_is)
    (case a_NoQuotient_ => k_is)
    (case a_NoPower_ => k_is)
    (case a_TooFew_ => k_is)
    (case a_NoSize_ => k_is)
    (case a_NoPolynomial_ => k_is)
    (case a_NoDepth_ => k_is)
    (case a_NoRoot_ => k_is)
    (case a_NotNear_ => k_is)
    (case x_NoFraction => k_exc)
    (case x_NoPolynomial => k_exc)
    (case x_LeftError => k_exc)
    (case ga_NoPolynomial => k_is)
    (case gt_NoPolynomial => k_is)
    (case cl_NoPolynomial => k_is)
    (case ob_NoPolynomial => k_is)
    (case be_NoPolynomial => k_is)
    (case ci_NoPolynomial => k_is)
    (case kt_NoPolynomial_NoPolynomial => kit_is)
    (case kt_NoPolynomial_ValueError => kit_is)
    (case kt_NoPolynomial_NoPrime => kit_is)
    (case kt_NoPolynomial_NoFraction => kit_is)
    (case kt_NoPolynomial_NoPlace => kit_is)
    (case kt_NoPolynomial_NoFigures => kit_is)
    (case kt_NoPolynomial_NoText => kit_is)
    (case kt_NoPolynomial_Unlike => kit_is)
    (case kt_NoPolynomial_NoQuotient => kit_is)
    (case kt_NoPolynomial_NoPower => kit_is)
    (case kt_NoPolynomial_TooFew => kit_is)
    (case kt_NoPolynomial_NoSize => kit_is)
    (case kt_NoPolynomial_NoDepth => kit_is)
    (case kt_NoPolynomial_NoRoot => kit_is)
    (case kt_NoPolynomial_NotNear => kit_is)
    (case sb_NoPolynomial => k_is)
    (case z_ValueError => k_is)
    (case z_abs => k_is)
    (case z_all => k_is)
    (case z_bool => k_is)
    (case z_enumerate => k_is)
    (case z_int => k_is)
    (case z_isinstance => k_is)
    (case z_len => k_is)
    (case z_list => k_is)
    (case z_max => k_is)
    (case z_min => k_is)
    (case z_range => k_is)
    (case z_reversed => k_is)
    (case z_tuple => k_is)
