import PyProof.Rows.All
import Wide.All
import OpenK.AllK
import Wide.FinOn
import Lean
import PyProof.EqAt
import PyProof.EqKinds
import PyProof.TupleCall
import PySem.Challenge.RW_leftnumbers_k18_texts_refused
set_option Elab.async false
set_option linter.all false
set_option maxRecDepth 100000
/-! THE HAND LAYER, for ints, bools, texts, own classes, LISTS and tuples (index, slices, in, append, pop ..), calls, loops. Paste it whole ahead of your own text; what your proof does not reach may be deleted. -/
namespace L2
open PySem PySem.Spec PyProof.Rows
/-- a key: an int or a str -/
abbrev Key := Sum Int Str
def keyIs : Key → Value → Bool
  | .inl k, v => Value.isInt k v
  | .inr x, v => Value.isStrOf x v
def keyH (w : World) : Key → Int
  | .inl k => hashInt k
  | .inr x => hashStr w x
theorem keyIs_shape : ∀ {k : Key} {v : Value}, keyIs k v = true → (∃ i t, k = Sum.inl i ∧ v = Value.int i t) ∨ (∃ x t, k = Sum.inr x ∧ v = Value.str x t)
  | .inl i, v, h => by
    obtain ⟨t, e⟩ := Value.isInt_shape (k := i) (v := v) h
    exact .inl ⟨i, t, rfl, e⟩
  | .inr x, v, h => by
    obtain ⟨t, e⟩ := Value.isStrOf_shape (x := x) (v := v) h
    exact .inr ⟨x, t, rfl, e⟩
theorem key_ll (a b : Int) : decide ((Sum.inl a : Key) = Sum.inl b) = (a == b) := by
  by_cases e : a = b
  · subst e; simp
  · have h : ¬ (Sum.inl a : Key) = Sum.inl b := fun q => e (Sum.inl.inj q)
    rw [decide_eq_false h]
    exact (beq_eq_false_iff_ne.mpr e).symm
theorem key_rr (a b : Str) : decide ((Sum.inr a : Key) = Sum.inr b) = decide (a = b) := by
  by_cases e : a = b
  · subst e; simp
  · have h : ¬ (Sum.inr a : Key) = Sum.inr b := fun q => e (Sum.inr.inj q)
    rw [decide_eq_false h, decide_eq_false e]
theorem key_lr (a : Int) (b : Str) : decide ((Sum.inl a : Key) = Sum.inr b) = false := decide_eq_false (fun q => nomatch q)
theorem key_rl (a : Str) (b : Int) : decide ((Sum.inr a : Key) = Sum.inl b) = false := decide_eq_false (fun q => nomatch q)
def mixKind (prog : Program) (w : World) : PySem.KeyKind prog w Key where
  is := keyIs
  hash := keyH w
  inj := fun v a b ha hb => by
    rcases keyIs_shape ha with ⟨i, t, rfl, rfl⟩ | ⟨x, t, rfl, rfl⟩
    · rcases keyIs_shape hb with ⟨j, u, rfl, e⟩ | ⟨y, u, rfl, e⟩
      · injection e with e1 _; rw [e1]
      · exact nomatch e
    · rcases keyIs_shape hb with ⟨j, u, rfl, e⟩ | ⟨y, u, rfl, e⟩
      · exact nomatch e
      · injection e with e1 _; rw [e1]
  byValue := fun k v h => by
    rcases keyIs_shape h with ⟨i, t, rfl, rfl⟩ | ⟨x, t, rfl, rfl⟩ <;> rfl
  pyHash := fun hv h => by
    rcases keyIs_shape hv with ⟨i, t, rfl, rfl⟩ | ⟨x, t, rfl, rfl⟩
    · exact wpAny_pyHash_int h
    · exact wpAny_pyHash_str h
  eqBool := fun hu hv h => by
    rcases keyIs_shape hu with ⟨i, t, rfl, rfl⟩ | ⟨x, t, rfl, rfl⟩
    · rcases keyIs_shape hv with ⟨j, u, rfl, rfl⟩ | ⟨y, u, rfl, rfl⟩
      · rw [key_ll] at h; exact wpAny_eqBool_int h
      · rw [key_lr] at h; exact SeqAt.EqAt.int_str i t y u _ _ _ _ h
    · rcases keyIs_shape hv with ⟨j, u, rfl, rfl⟩ | ⟨y, u, rfl, rfl⟩
      · rw [key_rl] at h; exact SeqAt.EqAt.str_int x t j u _ _ _ _ h
      · rw [key_rr] at h; exact wpAny_eqBool_str h
  «strs» := fun k x t v h => by
    rcases keyIs_shape h with ⟨i, u, rfl, e⟩ | ⟨y, u, rfl, e⟩
    · exact nomatch e
    · injection e with e1 _
      subst e1
      cases v <;> rfl
end L2
namespace L2
open PySem PySem.Spec PyProof.Rows
/-- a value, without the heap -/
inductive V where
  | non | bl (b : Bool) | int (i : Int) | str (x : Str) | byt (b : Array UInt8) | flt (b : UInt64) | ref (a : Addr) | ty (n : String)
  deriving DecidableEq
def RelV : V → Value → Prop
  | .non, u => u = Value.none
  | .bl b, u => u = Value.bool b
  | .int i, u => ∃ t, u = Value.int i t
  | .str x, u => ∃ t, u = Value.str x t
  | .byt b, u => ∃ t, u = Value.bytes b t
  | .flt b, u => ∃ t, u = Value.float b t
  | .ref a, u => u = Value.ref a
  | .ty n, u => u = Value.type n
abbrev Vals : List V → List Value → Prop := Paired RelV
theorem Vals.length {xs : List V} {us : List Value} (r : Vals xs us) : xs.length = us.length := Paired.length r
theorem Vals.get : ∀ {xs : List V} {us : List Value} {i : Nat} {x : V}, Vals xs us → xs[i]? = some x → ∃ u, us[i]? = some u ∧ RelV x u
  | _, _, _, _, .nil, e => by simp at e
  | _, _, 0, _, .cons r _, e => by simp at e; subst e; exact ⟨_, rfl, r⟩
  | _, _, i + 1, x, .cons _ t, e => by
    obtain ⟨u, h1, h2⟩ := Vals.get (i := i) (x := x) t (by simpa using e)
    exact ⟨u, by simpa using h1, h2⟩
theorem Vals.set {x : V} {u : Value} (r : RelV x u) : ∀ {xs : List V} {us : List Value} (i : Nat), Vals xs us → Vals (xs.set i x) (us.set i u)
  | _, _, _, .nil => .nil
  | _, _, 0, .cons _ t => .cons r t
  | _, _, i + 1, .cons q t => .cons q (Vals.set r i t)
theorem Vals.append : ∀ {xs ys : List V} {us ws : List Value}, Vals xs us → Vals ys ws → Vals (xs ++ ys) (us ++ ws)
  | _, _, _, _, .nil, s => s
  | _, _, _, _, .cons r t, s => .cons r (Vals.append t s)
theorem Vals.take : ∀ {xs : List V} {us : List Value} (n : Nat), Vals xs us → Vals (xs.take n) (us.take n)
  | _, _, 0, _ => .nil
  | _, _, _ + 1, .nil => .nil
  | _, _, n + 1, .cons r t => .cons r (Vals.take n t)
theorem Vals.drop : ∀ {xs : List V} {us : List Value} (n : Nat), Vals xs us → Vals (xs.drop n) (us.drop n)
  | _, _, 0, r => r
  | _, _, _ + 1, .nil => .nil
  | _, _, n + 1, .cons _ t => Vals.drop n t
def RelO : Option V → Option Value → Prop
  | some v, some u => RelV v u
  | none, none => True
  | _, _ => False
def KV {κ : Type} : List (κ × V) → List (κ × Value) → Prop := Paired fun (p : κ × V) (q : κ × Value) => p.1 = q.1 ∧ RelV p.2 q.2
/-- a key of a dict (00_mix): an int or a text -/
def kV : Key → V
  | .inl i => .int i
  | .inr x => .str x
/-- what stands at a tracked address -/
inductive HO where
  /-- a list -/
  | lst (xs : List V)
  /-- a tuple (never changes) -/
  | tup (xs : List V)
  /-- a dict whose keys are ints and texts; one whose keys are tuples of ints and texts (the empty one is both) -/
  | dK (kvs : List (Key × V)) | dT (kvs : List (List Key × V))
  /-- a set of ints: its members, its size -/
  | set (S : Int → Bool) (n : Nat)
  /-- an instance of the class at C, its dict at dx, its attributes -/
  | ins (C dx : Addr) (fs : List (Str × V))
  /-- the dict of the instance at x -/
  | own (x : Addr)
  /-- the dict of an exception -/
  | xd (fs : List (Str × V))
  /-- a bound method, f of x -/
  | met (f x : Addr)
  /-- a range object lo, lo + 1, .. below hi -/
  | rng (lo hi : Int)
  /-- a thing that is known to the object (the script; a dict while a loop walks it): read, never written while it is so -/
  | frz (o : Obj) (u : HO)
  /-- a code object's table -/
  | tbl (ps : Array Value)
  /-- any other thing, by what is true of its one object (a def of one's own: SetO a S n := HO.ext fun h => ..) -/
  | ext (φ : Heap → Prop)
abbrev Hp := Addr → Option HO
def upd (H : Hp) (a : Addr) (o : HO) : Hp := fun b => if b = a then some o else H b
theorem upd_same {H : Hp} {a : Addr} {o : HO} : upd H a o a = some o := by unfold upd; rw [if_pos rfl]
theorem upd_ne {H : Hp} {a b : Addr} {o : HO} (h : b ≠ a) : upd H a o b = H b := by unfold upd; rw [if_neg h]
theorem upd_upd {H : Hp} {a : Addr} {o u : HO} : upd (upd H a o) a u = upd H a u := by
  funext b; unfold upd; split <;> rfl
theorem ne_of_none {H : Hp} {a b : Addr} {o : HO} (h : H a = some o) (h' : H b = none) : a ≠ b := by
  intro e; subst e; rw [h] at h'; cases h'
section
variable (P : Program) (w : World)
def ObjOk (H : Hp) (h : Heap) (a : Addr) : HO → Prop
  | .lst xs => xs.length ≤ sizeLine ∧ ∃ (its : List Value) (n : Nat), Vals xs its ∧ h.get? a = some { cls := .type "list", data := .seq its.toArray n }
  | .tup xs => xs.length ≤ sizeLine ∧ ∃ its : List Value, Vals xs its ∧ IsTup h a its.toArray
  | .dK kvs => kvs.length ≤ sizeLine ∧ (a == sysModules) = false ∧ ∃ vs, KV kvs vs ∧ h.DictOf (mixKind P w) a vs
  | .dT kvs => kvs.length ≤ sizeLine ∧ (a == sysModules) = false ∧ ∃ xs : List (List Key × Addr × Value),
      Paired (fun (p : List Key × V) (q : List Key × Addr × Value) => p.1 = q.1 ∧ H q.2.1 = some (.tup (p.1.map kV)) ∧ RelV p.2 q.2.2) kvs xs ∧
      ∃ o es ep, h.get? a = some o ∧ o.ExactDict ∧ o.data = .dict es ep ∧ es.toList = xs.map (entryOfKey (tupleKind (mixKind P w))) ∧ (xs.map (·.1)).Nodup
  | .set S n => h.SetOf (intKind P w) a S n
  | .ins C dx fs => H dx = some (.own a) ∧ fs.length ≤ 1000 ∧ dx ≠ a ∧ h.get? a = some (PySem.W.instObj C dx) ∧
      ∃ mA, h.Ns1 dx mA ∧ (∀ f, RelO (fs.lookup f) (mA f)) ∧ PySem.Within mA (fs.map (·.1))
  | .own _ => ∃ o, h.get? a = some o
  | .xd fs => ∃ mA, h.Ns1 a mA ∧ ∀ f, RelO (fs.lookup f) (mA f)
  | .rng lo hi => ∃ t u v, h.get? a = some { cls := .type "range", data := .fields #[.int lo t, .int hi u, .int 1 v] }
  | .frz o u => h.get? a = some o ∧ ObjOk H h a u
  | .tbl ps => h.get? a = some { cls := .none, data := .fields ps }
  | .met f x => h.get? a = some (PySem.W.methodObj (.ref f) (.ref x))
  | .ext φ => φ h ∧ (∃ o, h.get? a = some o) ∧ ∀ h1 h2 : Heap, φ h1 → (∀ o, h1.get? a = some o → h2.get? a = some o) → φ h2
/-- the abstract heap is held -/
def HOk (H : Hp) (h : Heap) : Prop := ∀ a o, H a = some o → ObjOk P w H h a o
end
section
variable {P : Program} {w : World} {H H' : Hp} {h h' : Heap} {a : Addr} {o : HO}
theorem ObjOk.lt (x : ObjOk P w H h a o) : a < h.objs.size := by
  cases o with
  | lst xs => obtain ⟨_, _, _, _, e⟩ := x; exact Heap.lt_size e
  | tup xs => obtain ⟨_, _, _, p⟩ := x; exact p.lt
  | dK kvs => obtain ⟨_, _, _, _, o, _, _, e, _⟩ := x; exact Heap.lt_size e
  | dT kvs => obtain ⟨_, _, _, _, o, _, _, e, _⟩ := x; exact Heap.lt_size e
  | set S n => obtain ⟨o, _, _, _, e, _⟩ := x; exact Heap.lt_size e
  | ins C dx fs => obtain ⟨_, _, _, e, _⟩ := x; exact Heap.lt_size e
  | own y => obtain ⟨_, e⟩ := x; exact Heap.lt_size e
  | xd fs => obtain ⟨_, ⟨_, _, _, e, _⟩, _⟩ := x; exact Heap.lt_size e
  | rng lo hi => obtain ⟨_, _, _, e⟩ := x; exact Heap.lt_size e
  | frz ob u => obtain ⟨e, _⟩ := x; exact Heap.lt_size e
  | tbl ps => exact Heap.lt_size (show h.get? a = some _ from x)
  | met f y => exact Heap.lt_size (show h.get? a = some _ from x)
  | ext φ => obtain ⟨_, ⟨_, e⟩, _⟩ := x; exact Heap.lt_size e
theorem Paired.mapP {α β : Type} {F G : α → β → Prop} : ∀ {l₁ : List α} {l₂ : List β}, Paired F l₁ l₂ → (∀ a b, F a b → G a b) → Paired G l₁ l₂
  | _, _, .nil, _ => .nil
  | _, _, .cons r t, f => .cons (f _ _ r) (Paired.mapP t f)
/-- what an object's description leans on: its own object, its own dict, the tuples -/
theorem ObjOk.stay (x : ObjOk P w H h a o) (k : ∀ b u, (b = a ∨ H b = some (.own a)) → h.get? b = some u → h'.get? b = some u)
    (ho : ∀ b, H b = some (.own a) → H' b = some (.own a)) (ht : ∀ b xs, H b = some (.tup xs) → H' b = some (.tup xs)) : ObjOk P w H' h' a o := by
  induction o with
  | lst xs => obtain ⟨z, its, n, r, e⟩ := x; exact ⟨z, its, n, r, k _ _ (.inl rfl) e⟩
  | tup xs => obtain ⟨z, its, r, ob, e, c⟩ := x; exact ⟨z, its, r, ob, k _ _ (.inl rfl) e, c⟩
  | dK kvs => obtain ⟨z, y, vs, r, ob, es, ep, e, c⟩ := x; exact ⟨z, y, vs, r, ob, es, ep, k _ _ (.inl rfl) e, c⟩
  | dT kvs =>
    obtain ⟨z, y, xs, r, ob, es, ep, e, c⟩ := x
    exact ⟨z, y, xs, Paired.mapP r fun p q z => ⟨z.1, ht _ _ z.2.1, z.2.2⟩, ob, es, ep, k _ _ (.inl rfl) e, c⟩
  | set S n => obtain ⟨ob, es, ep, t, e, c⟩ := x; exact ⟨ob, es, ep, t, k _ _ (.inl rfl) e, c⟩
  | ins C dx fs =>
    obtain ⟨d, z, ne, e, mA, ⟨od, es, ep, e2, c⟩, r⟩ := x
    exact ⟨ho _ d, z, ne, k _ _ (.inl rfl) e, mA, ⟨od, es, ep, k _ _ (.inr d) e2, c⟩, r⟩
  | own y => obtain ⟨ob, e⟩ := x; exact ⟨ob, k _ _ (.inl rfl) e⟩
  | xd fs => obtain ⟨mA, ⟨od, es, ep, e, c⟩, r⟩ := x; exact ⟨mA, ⟨od, es, ep, k _ _ (.inl rfl) e, c⟩, r⟩
  | rng lo hi => obtain ⟨t, u, v, e⟩ := x; exact ⟨t, u, v, k _ _ (.inl rfl) e⟩
  | frz ob u ih => obtain ⟨e, q⟩ := x; exact ⟨k _ _ (.inl rfl) e, ih q⟩
  | tbl ps =>
    have e : h.get? a = some { cls := .none, data := .fields ps } := x
    show h'.get? a = some { cls := .none, data := .fields ps }
    exact k a _ (.inl rfl) e
  | met f y =>
    have e : h.get? a = some (PySem.W.methodObj (.ref f) (.ref y)) := x
    show h'.get? a = some (PySem.W.methodObj (.ref f) (.ref y))
    exact k a _ (.inl rfl) e
  | ext φ => obtain ⟨p, ⟨o, e⟩, st⟩ := x; exact ⟨st _ _ p fun o q => k _ _ (.inl rfl) q, ⟨o, k _ _ (.inl rfl) e⟩, st⟩
theorem HOk.lt (x : HOk P w H h) (e : H a = some o) : a < h.objs.size := (x a o e).lt
theorem HOk.fresh (x : HOk P w H h) (e : h.objs.size ≤ a) : H a = none := by
  cases q : H a with
  | none => rfl
  | some u => exact absurd (Nat.lt_of_lt_of_le (x.lt q) e) (Nat.lt_irrefl _)
/-- every object of the heap is kept -/
theorem HOk.kept (x : HOk P w H h) (k : ∀ b u, h.get? b = some u → h'.get? b = some u) : HOk P w H h' := fun a o e =>
  (x a o e).stay (fun b u _ q => k b u q) (fun _ q => q) fun _ _ q => q
/-- a new object is laid and tracked -/
theorem HOk.laid (x : HOk P w H h) (k : ∀ b u, h.get? b = some u → h'.get? b = some u) (hp : h.objs.size ≤ a) (new : ObjOk P w (upd H a o) h' a o) : HOk P w (upd H a o) h' := fun b u e => by
  have hn := x.fresh hp
  by_cases hb : b = a
  · subst hb; rw [upd_same] at e; cases e; exact new
  · rw [upd_ne hb] at e
    exact (x b u e).stay (fun c v _ q => k c v q) (fun c q => by rw [upd_ne (ne_of_none q hn)]; exact q) fun c xs q => by rw [upd_ne (ne_of_none q hn)]; exact q
end
/-- what may be read as u: it is u, or a known u -/
def Rd (H : Hp) (a : Addr) (u : HO) : Prop := H a = some u ∨ ∃ o, H a = some (.frz o u)
theorem Rd.ok {P : Program} {w : World} {H : Hp} {h : Heap} {a : Addr} {u : HO} (r : Rd H a u) (x : HOk P w H h) : ObjOk P w H h a u := by
  rcases r with r | ⟨o, r⟩
  · exact x a u r
  · obtain ⟨_, q⟩ := x a _ r
    exact q
/-- what may be written -/
def Mut : Option HO → Prop
  | some (.lst _) => True
  | some (.dK _) => True
  | some (.dT _) => True
  | some (.set _ _) => True
  | some (.ins _ _ _) => True
  | some (.ext _) => True
  | _ => False
section
variable {P : Program} {w : World} {H : Hp} {h h' : Heap} {x e : Addr} {o' : HO}
/-- the object at e is changed: x itself, or the dict of the instance x -/
theorem HOk.write (ok : HOk P w H h) (mu : Mut (H x)) (he : e = x ∨ H e = some (.own x)) (k : ∀ b u, b ≠ e → h.get? b = some u → h'.get? b = some u) (heo : ∃ u, h'.get? e = some u)
    (new : ObjOk P w (upd H x o') h' x o') : HOk P w (upd H x o') h' := fun b u q => by
  have nown : ∀ c y, H c = some (.own y) → c ≠ x := fun c y r z => by subst z; rw [r] at mu; exact mu
  have ntup : ∀ c xs, H c = some (.tup xs) → c ≠ x := fun c xs r z => by subst z; rw [r] at mu; exact mu
  by_cases hb : b = x
  · subst hb; rw [upd_same] at q; cases q; exact new
  · rw [upd_ne hb] at q
    by_cases hbe : b = e
    · have q' : H b = some (.own x) := by
        rcases he with z | z
        · exact absurd (hbe.trans z) hb
        · rw [hbe]; exact z
      rw [q] at q'; cases q'
      obtain ⟨v, hv⟩ := heo
      exact ⟨v, by rw [hbe]; exact hv⟩
    · refine (ok b u q).stay (fun c v hc r => k c v ?_ r) (fun c r => by rw [upd_ne (nown c b r)]; exact r) fun c xs r => by rw [upd_ne (ntup c xs r)]; exact r
      rcases hc with rfl | hc
      · exact hbe
      · rintro rfl
        rcases he with z | z
        · exact nown c b hc z
        · rw [hc] at z; cases z; exact hb rfl
end
/-! ### kept unless tracked; of the frames at fs (the callers') the slots may change (an exception that passes writes there); of the records at ex (iterators) nothing is said -/
structure Un (fs ex : List Addr) (H H' : Hp) (h h' : Heap) : Prop where
  keep : ∀ b o, h.get? b = some o → H b = none → b ∉ fs → b ∉ ex → h'.get? b = some o
  slot : ∀ b o, h.get? b = some o → H b = none → b ∈ fs → b ∉ ex → ∃ sl, h'.get? b = some { o with slots := sl }
  free : ∀ b o, h.get? b = some o → H b = none → b ∉ ex → H' b = none
  there : ∀ b o, h.get? b = some o → b ∉ ex → ∃ o', h'.get? b = some o'
  tups : ∀ b xs, H b = some (.tup xs) → H' b = some (.tup xs)
  frzs : ∀ b o u, H b = some (.frz o u) → H' b = some (.frz o u)
  tbls : ∀ b ps, H b = some (.tbl ps) → ∃ more, H' b = some (.tbl (ps ++ more))
section
variable {fs fs' ex ex' : List Addr} {H H1 H2 : Hp} {h h1 h2 h' : Heap} {a x e : Addr} {o : HO}
theorem Un.any (u : Un fs ex H H1 h h1) {b : Addr} {ob : Obj} (q : h.get? b = some ob) (n : H b = none) (hx : b ∉ ex) : ∃ sl, h1.get? b = some { ob with slots := sl } := by
  by_cases hb : b ∈ fs
  · exact u.slot b ob q n hb hx
  · exact ⟨ob.slots, u.keep b ob q n hb hx⟩
theorem Un.kept (k : ∀ b u, h.get? b = some u → h'.get? b = some u) : Un fs ex H H h h' :=
  ⟨fun b ob q _ _ _ => k b ob q, fun b ob q _ _ _ => ⟨ob.slots, k b ob q⟩, fun _ _ _ n _ => n, fun b ob q _ => ⟨ob, k b ob q⟩, fun _ _ q => q, fun _ _ _ q => q, fun _ ps q => ⟨#[], by rw [q]; simp⟩⟩
theorem Un.refl : Un fs ex H H h h := Un.kept fun _ _ q => q
theorem Un.laid (k : ∀ b u, h.get? b = some u → h'.get? b = some u) (hp : h.objs.size ≤ a) (hn : H a = none) : Un fs ex H (upd H a o) h h' where
  keep := fun b u q _ _ _ => k b u q
  slot := fun b u q _ _ _ => ⟨u.slots, k b u q⟩
  free := fun b u q n _ => by rw [upd_ne (Nat.ne_of_lt (Nat.lt_of_lt_of_le (Heap.lt_size q) hp))]; exact n
  there := fun b u q _ => ⟨u, k b u q⟩
  tups := fun b xs q => by rw [upd_ne (ne_of_none q hn)]; exact q
  frzs := fun b u xs q => by rw [upd_ne (ne_of_none q hn)]; exact q
  tbls := fun b ps q => ⟨#[], by rw [upd_ne (ne_of_none q hn), q]; simp⟩
theorem Un.write (mu : Mut (H x)) (he : e = x ∨ H e = some (.own x)) (k : ∀ b u, b ≠ e → h.get? b = some u → h'.get? b = some u) (heo : ∃ u, h'.get? e = some u) : Un fs ex H (upd H x o) h h' := by
  have hx : ∀ b, H b = none → b ≠ x := fun b n z => by subst z; rw [n] at mu; exact mu
  have hb : ∀ b, H b = none → b ≠ e := fun b n z => by
    subst z
    rcases he with r | r
    · exact hx b n r
    · rw [n] at r; cases r
  have hm : ∀ b u, H b = some u → ¬ Mut (some u) → b ≠ x := fun b u q nm z => by subst z; rw [q] at mu; exact nm mu
  refine ⟨fun b u q n _ _ => k b u (hb b n) q, fun b u q n _ _ => ⟨u.slots, k b u (hb b n) q⟩, fun b u q n _ => by rw [upd_ne (hx b n)]; exact n, fun b u q _ => ?_,
    fun b xs q => by rw [upd_ne (hm b _ q fun z => z)]; exact q, fun b u xs q => by rw [upd_ne (hm b _ q fun z => z)]; exact q, fun b ps q => ⟨#[], by rw [upd_ne (hm b _ q fun z => z), q]; simp⟩⟩
  by_cases hbe : b = e
  · subst hbe; exact heo
  · exact ⟨u, k b u hbe q⟩
end
/-! ### the heap without what is tracked -/
def trk (h : Heap) (H : Hp) : List Addr := (List.range h.objs.size).filter fun a => (H a).isSome
def hidT (h : Heap) (H : Hp) : Heap := PySem.W.hideAll h (trk h H)
theorem hidT_size (h : Heap) (H : Hp) : (hidT h H).objs.size = h.objs.size := PySem.W.hideAll_size _ _
theorem hidT_get {h : Heap} {H : Hp} {b : Addr} {o : Obj} (e : h.get? b = some o) (n : H b = none) : (hidT h H).get? b = some o :=
  PySem.W.hideAll_get _ e fun hm => by
    have q : (H b).isSome = true := (List.mem_filter.mp hm).2
    rw [n] at q; simp at q
theorem of_hidT {h : Heap} {H : Hp} {b : Addr} {o : Obj} (e : (hidT h H).get? b = some o) : h.get? b = some o ∧ H b = none := by
  have e' : h.get? b = some o := PySem.W.of_hideAll (trk h H) e
  refine ⟨e', ?_⟩
  cases q : H b with
  | none => rfl
  | some x =>
    have hm : b ∈ trk h H := List.mem_filter.mpr ⟨List.mem_range.mpr (Heap.lt_size e'), by simp [q]⟩
    have z : (hidT h H).get? b = none := PySem.W.hideAll_none (trk h H) hm
    rw [z] at e; cases e
/-! ### OpenK's ledger, filled with every new object but one -/
def allNews (g h : Heap) (L : Addr) : List (Addr × Obj) := (List.range h.objs.size).filterMap fun a => if a = L ∨ (g.get? a).isSome = true then none else (h.get? a).map fun o => (a, o)
def rest (g h : Heap) (L d : Addr) : List (Addr × Obj) := (allNews g h L).filter fun p => decide (p.1 ≠ d)
end L2
namespace L2
open PySem PySem.Spec PyProof.Rows
/-- the module's facts, over the base: the heap at the law's entry without what is tracked there -/
structure Mod (K : PySem.W.Frag) (mg : Str → Option Value) (base : Heap) : Prop where
  kin : K.In base
  glob : base.Ns mainGlobals mg
  blt : ∃ mb, base.Ns builtinsNs mb ∧ ∀ x : Str, x ≠ "__name__" → mb x = bootBuiltins x
  nolimit : base.NoLimit
/-- the context: a def's body (or a comprehension's block) running. base: fixed through the whole law; s₀, H₀: the entry; outer: the frames whose slots others may change (a def's callers); stack: all frames that run;
   ex: iterators that were made ahead of the entry and are walked here (a comprehension's); fn: the names whose cells were made at the entry (a def: all; a comprehension's block: its own); calm: not within an except suite; pn: pins that every state bears; xe: what is wanted of an exception that leaves the code -/
structure Cx where
  prog : Program
  w : World
  K : PySem.W.Frag
  mg : Str → Option Value
  base : Heap
  A : Around
  N : List Str
  s₀ : Shared
  H₀ : Hp
  env : Env
  outer : List Env
  stack : List Env
  ex : List Addr
  fn : Str → Bool
  calm : Bool
  pn : List (Addr × Obj)
  xe : Value → Shared → Prop
/-- the callers' frames -/
def frs (l : List Env) : List Addr := l.filterMap (·.frame)
abbrev Cx.fs (X : Cx) : List Addr := frs X.outer
def Vis (sc : Scope) (x : Str) : Prop := sc.names.lookup x = some .local ∨ sc.names.lookup x = some .cell ∨ sc.names.lookup x = some .free
def Loc (sc : Scope) (x : Str) : Prop := sc.names.lookup x = some .local ∨ sc.names.lookup x = some .cell
def Look (env : Env) (h : Heap) (m : Str → Option Value) (x : Str) (u : Value) : Prop :=
  (env.kindOf x = some .local ∧ m x = some u) ∨ ((env.kindOf x = some .cell ∨ env.kindOf x = some .free) ∧ ∃ c, env.cells.lookup x = some c ∧ h.IsCell c (some u))
structure Cx.Ok (X : Cx) : Prop where
  mod : Mod X.K X.mg X.base
  kind : X.env.scope.kind = .function
  glob : X.env.globals = mainGlobals
  blt : X.env.builtins = builtinsNs
  above : X.s₀.heap.objs.size ≤ X.env.locals
  inj : ∀ x y c, X.env.cells.lookup x = some c → X.env.cells.lookup y = some c → x = y
  has : ∀ x, (X.env.kindOf x = some .cell ∨ X.env.kindOf x = some .free) → ∃ c, X.env.cells.lookup x = some c
  cab : ∀ x c, X.fn x = true → X.env.cells.lookup x = some c → X.s₀.heap.objs.size ≤ c
  hd : X.calm = true → X.A.handled = none
  frames : X.A.frames = some X.stack
  stk : X.stack = X.outer ∨ (X.stack = X.env :: X.outer ∧ X.env.frame = some X.env.locals)
  exf : ∀ b ∈ X.ex, b ≠ X.env.locals ∧ ∀ x c, X.env.cells.lookup x = some c → c ≠ b
  bs : ∀ b o, X.base.get? b = some o → X.s₀.heap.get? b = some o ∧ X.H₀ b = none
  bsz : X.base.objs.size ≤ X.s₀.heap.objs.size
  noex : ∀ b o, X.base.get? b = some o → b ∉ X.ex
  exfs : ∀ b ∈ X.ex, b ∉ X.fs
  funs : X.s₀.heap.FunFrames X.base X.outer
  frf : ∀ b ∈ X.fs, X.H₀ b = none
structure Inv (X : Cx) (pins : List (Addr × Obj)) (σ : List (Option V)) (H : Hp) (s : Shared) : Prop where
  ok : X.Ok
  os : s.os = X.s₀.os
  bare : AllBare s.gens
  base : Un X.fs X.ex X.H₀ H X.s₀.heap s.heap
  loc : ∃ m, s.heap.Ns X.env.locals m ∧ ∀ (i : Nat) (x : Str) (v : V), X.N[i]? = some x → σ[i]? = some (some v) → Vis X.env.scope x → ∃ u, RelV v u ∧ Look X.env s.heap m x u
  cell : ∀ x c, X.env.cells.lookup x = some c → ∃ v, s.heap.IsCell c v
  free : H X.env.locals = none
  freeC : ∀ x c, X.env.cells.lookup x = some c → H c = none
  pin : ∀ p ∈ X.pn ++ pins, s.heap.get? p.1 = some p.2 ∧ H p.1 = none ∧ p.1 ≠ X.env.locals ∧ p.1 ∉ X.fs ∧ ∀ v, p.2.data ≠ .cell v
  hok : HOk X.prog X.w H s.heap
  len : σ.length = X.N.length
section
variable {X : Cx} {pins : List (Addr × Obj)} {σ : List (Option V)} {H H' : Hp} {s : Shared} {h' : Heap}
theorem Cx.Ok.nofr (ok : X.Ok) {b : Addr} {o : Obj} (e : X.base.get? b = some o) : b ∉ X.fs := fun hb => by
  have := (ok.funs.mem hb).1
  rw [e] at this; cases this
theorem Inv.bs (I : Inv X pins σ H s) : ∀ b o, X.base.get? b = some o → s.heap.get? b = some o ∧ H b = none := fun b o e =>
  ⟨I.base.keep b o (I.ok.bs b o e).1 (I.ok.bs b o e).2 (I.ok.nofr e) (I.ok.noex b o e), I.base.free b o (I.ok.bs b o e).1 (I.ok.bs b o e).2 (I.ok.noex b o e)⟩
theorem Inv.bk (I : Inv X pins σ H s) : ∀ b o, X.base.get? b = some o → s.heap.get? b = some o := fun b o e => (I.bs b o e).1
theorem Inv.mod (I : Inv X pins σ H s) : Mod X.K X.mg X.base := I.ok.mod
theorem Inv.kIn (I : Inv X pins σ H s) : X.K.In s.heap := I.ok.mod.kin.keeps I.bk
theorem Inv.lt (I : Inv X pins σ H s) : X.env.locals < s.heap.objs.size := let ⟨_, hn, _⟩ := I.loc; hn.lt
theorem Inv.sz (I : Inv X pins σ H s) : X.s₀.heap.objs.size ≤ s.heap.objs.size := Nat.le_trans I.ok.above (Nat.le_of_lt I.lt)
theorem Inv.nofs (I : Inv X pins σ H s) {a : Addr} (h : s.heap.objs.size ≤ a) : a ∉ X.fs := fun hb => by
  obtain ⟨_, o, ho, _⟩ := I.ok.funs.mem hb
  exact absurd (Nat.lt_of_lt_of_le (Heap.lt_size ho) (Nat.le_trans I.sz h)) (Nat.lt_irrefl _)
theorem Inv.cne (I : Inv X pins σ H s) : ∀ x c, X.env.cells.lookup x = some c → c ≠ X.env.locals := fun x c e z => by
  obtain ⟨v, o, ho, hd⟩ := I.cell x c e
  obtain ⟨m, ⟨o', es, ep, ho', hd', _⟩, _⟩ := I.loc
  rw [z, ho'] at ho; cases ho; rw [hd'] at hd; cases hd
theorem Inv.funs (I : Inv X pins σ H s) : s.heap.FunFrames X.base X.outer := by
  have all : ∀ (l : List Env), (∀ b ∈ frs l, b ∈ X.fs) → X.s₀.heap.FunFrames X.base l → s.heap.FunFrames X.base l := by
    intro l
    induction l with
    | nil => intro _ _; trivial
    | cons env r ih =>
      intro hs hl
      obtain ⟨hk, ⟨L, o, hf, hn, ho, hd⟩, hr⟩ := hl
      have hL : L ∈ X.fs := hs L (by unfold frs; rw [List.filterMap_cons, hf]; exact List.mem_cons_self)
      obtain ⟨sl, e⟩ := I.base.slot L o ho (I.ok.frf L hL) hL fun z => I.ok.exfs L z hL
      exact ⟨hk, ⟨L, _, hf, hn, e, hd⟩, ih (fun b hb => hs b (by unfold frs; rw [List.filterMap_cons, hf]; exact List.mem_cons_of_mem _ hb)) hr⟩
  exact all X.outer (fun _ hb => hb) I.ok.funs
/-- the frames that run, for a call -/
theorem Inv.stack (I : Inv X pins σ H s) : s.heap.FunFrames X.base X.stack := by
  rcases I.ok.stk with e | ⟨e, hf⟩
  · rw [e]; exact I.funs
  · rw [e]
    obtain ⟨m, hn, _⟩ := I.loc
    refine .cons (by rw [I.ok.kind]; decide) hf hn ?_ I.funs
    exact Heap.get?_none_of_le (Nat.le_trans I.ok.bsz I.ok.above)
theorem Inv.stkSub (I : Inv X pins σ H s) : ∀ b ∈ frs X.stack, b ∈ X.env.locals :: X.fs := fun b hb => by
  rcases I.ok.stk with e | ⟨e, hf⟩
  · rw [e] at hb; exact List.mem_cons_of_mem _ hb
  · rw [e] at hb
    unfold frs at hb
    rw [List.filterMap_cons, hf] at hb
    exact hb
theorem Inv.stkFree (I : Inv X pins σ H s) : ∀ b ∈ frs X.stack, H b = none := fun b hb => by
  rcases List.mem_cons.mp (I.stkSub b hb) with e | hb
  · rw [e]; exact I.free
  · obtain ⟨_, o, ho, _⟩ := I.ok.funs.mem hb
    exact I.base.free b o ho (I.ok.frf b hb) fun z => I.ok.exfs b z hb
/-- THE STEP: the untracked objects but the frame and the records at ch are kept (the callers' frames up to slots), the frame's map is kept, the new abstract heap is held -/
theorem Inv.step {g' : Array GenState} {t' : Nat} {d' : Drawn} {ch : List Addr} (I : Inv X pins σ H s)
    (hch : ∀ b ∈ ch, (b ∈ X.ex ∨ X.s₀.heap.objs.size ≤ b) ∧ b ≠ X.env.locals ∧ (∀ x c, X.env.cells.lookup x = some c → c ≠ b) ∧ ∀ p ∈ X.pn ++ pins, p.1 ≠ b)
    (keep : ∀ b o, b ≠ X.env.locals → b ∉ X.fs → b ∉ ch → s.heap.get? b = some o → H b = none → h'.get? b = some o)
    (slot : ∀ b o, b ≠ X.env.locals → b ∈ X.fs → b ∉ ch → s.heap.get? b = some o → H b = none → ∃ sl, h'.get? b = some { o with slots := sl }) (free : ∀ b o, b ∉ ch → s.heap.get? b = some o → H b = none → H' b = none)
    (there : ∀ b o, b ∉ ch → s.heap.get? b = some o → ∃ o', h'.get? b = some o')
    (tups : ∀ b xs, H b = some (.tup xs) → H' b = some (.tup xs)) (frzs : ∀ b o u, H b = some (.frz o u) → H' b = some (.frz o u)) (tbls : ∀ b ps, H b = some (.tbl ps) → ∃ more, H' b = some (.tbl (ps ++ more)))
    (ns : ∀ m, s.heap.Ns X.env.locals m → h'.Ns X.env.locals m) (hok : HOk X.prog X.w H' h') (hg : AllBare g') :
    Inv X pins σ H' { s with heap := h', gens := g', drawn := d', toks := t' } := by
  have neL : ∀ b o, X.s₀.heap.get? b = some o → b ≠ X.env.locals := fun b o e => Nat.ne_of_lt (Nat.lt_of_lt_of_le (Heap.lt_size e) I.ok.above)
  have neC : ∀ b o, X.s₀.heap.get? b = some o → b ∉ X.ex → b ∉ ch := fun b o e hx hb => by
    rcases (hch b hb).1 with z | z
    · exact hx z
    · exact absurd (Nat.lt_of_lt_of_le (Heap.lt_size e) z) (Nat.lt_irrefl _)
  have cellK : ∀ x c, X.env.cells.lookup x = some c → ∀ v, s.heap.IsCell c v → h'.IsCell c v := fun x c e v ⟨o, ho, hd⟩ => by
    have nch : c ∉ ch := fun z => (hch c z).2.2.1 x c e rfl
    by_cases hc : c ∈ X.fs
    · obtain ⟨sl, q⟩ := slot c o (I.cne x c e) hc nch ho (I.freeC x c e)
      exact ⟨_, q, hd⟩
    · exact ⟨o, keep c o (I.cne x c e) hc nch ho (I.freeC x c e), hd⟩
  refine ⟨I.ok, I.os, hg, ⟨fun b o e n hb hx => ?_, fun b o e n hb hx => ?_, fun b o e n hx => ?_, fun b o e hx => ?_, fun b xs e => tups b xs (I.base.tups b xs e), fun b o xs e => frzs b o xs (I.base.frzs b o xs e), fun b ps e => ?_⟩, ?_, fun x c e => ?_, ?_, fun x c e => ?_, fun p hp => ?_, hok, I.len⟩
  · exact keep b o (neL b o e) hb (neC b o e hx) (I.base.keep b o e n hb hx) (I.base.free b o e n hx)
  · obtain ⟨sl, e1⟩ := I.base.slot b o e n hb hx
    obtain ⟨sl', e2⟩ := slot b _ (neL b o e) hb (neC b o e hx) e1 (I.base.free b o e n hx)
    exact ⟨sl', e2⟩
  · obtain ⟨o', e1⟩ := I.base.there b o e hx
    exact free b o' (neC b o e hx) e1 (I.base.free b o e n hx)
  · obtain ⟨o', e1⟩ := I.base.there b o e hx
    exact there b o' (neC b o e hx) e1
  · obtain ⟨m1, e1⟩ := I.base.tbls b ps e
    obtain ⟨m2, e2⟩ := tbls b _ e1
    exact ⟨m1 ++ m2, by rw [e2, Array.append_assoc]⟩
  · obtain ⟨m, hn, hl⟩ := I.loc
    refine ⟨m, ns m hn, fun i x v e1 e2 e3 => ?_⟩
    obtain ⟨u, r, l⟩ := hl i x v e1 e2 e3
    refine ⟨u, r, ?_⟩
    rcases l with l | ⟨k, c, e, z⟩
    · exact .inl l
    · exact .inr ⟨k, c, e, cellK x c e _ z⟩
  · obtain ⟨v, z⟩ := I.cell x c e
    exact ⟨v, cellK x c e v z⟩
  · obtain ⟨m, ⟨o, _, _, ho, _⟩, _⟩ := I.loc
    exact free _ o (fun z => (hch _ z).2.1 rfl) ho I.free
  · obtain ⟨v, o, ho, hd⟩ := I.cell x c e
    exact free c o (fun z => (hch c z).2.2.1 x c e rfl) ho (I.freeC x c e)
  · obtain ⟨e, n, ne, nf, d⟩ := I.pin p hp
    have nch : p.1 ∉ ch := fun z => (hch p.1 z).2.2.2 p hp rfl
    exact ⟨keep p.1 p.2 ne nf nch e n, free p.1 p.2 nch e n, ne, nf, d⟩
/-- .. where the frame's own object is kept too -/
theorem Inv.un {t' : Nat} (I : Inv X pins σ H s) (u : Un X.fs [] H H' s.heap h') (hok : HOk X.prog X.w H' h') : Inv X pins σ H' { s with heap := h', toks := t' } := by
  obtain ⟨m, ⟨o, es, ep, ho, r⟩, _⟩ := id I.loc
  obtain ⟨sl, hL⟩ := u.any ho I.free (by simp)
  exact I.step (g' := s.gens) (d' := s.drawn) (ch := []) (fun _ z => nomatch z) (fun b o _ hb _ e n => u.keep b o e n hb (by simp)) (fun b o _ hb _ e n => u.slot b o e n hb (by simp)) (fun b o _ e n => u.free b o e n (by simp)) (fun b o _ e => u.there b o e (by simp)) u.tups u.frzs u.tbls (fun m' hm => by
    obtain ⟨o', es', ep', ho', r'⟩ := hm
    rw [ho] at ho'; cases ho'
    exact ⟨_, es', ep', hL, r'⟩) hok I.bare
/-- behind a call (or a comprehension's block): the slots of this frame may have changed too, the records at ch may have turned -/
theorem Inv.call {g' : Array GenState} {t' : Nat} {d' : Drawn} {ch : List Addr} (I : Inv X pins σ H s) (u : Un (frs X.stack) ch H H' s.heap h') (hok : HOk X.prog X.w H' h') (hg : AllBare g')
    (hch : ∀ b ∈ ch, (b ∈ X.ex ∨ X.s₀.heap.objs.size ≤ b) ∧ b ≠ X.env.locals ∧ (∀ x c, X.env.cells.lookup x = some c → c ≠ b) ∧ ∀ p ∈ X.pn ++ pins, p.1 ≠ b) :
    Inv X pins σ H' { s with heap := h', gens := g', drawn := d', toks := t' } := by
  obtain ⟨m, ⟨o, es, ep, ho, r⟩, _⟩ := id I.loc
  obtain ⟨sl, hL⟩ := u.any ho I.free fun z => (hch _ z).2.1 rfl
  exact I.step (ch := ch) hch (fun b o hL hb hc e n => u.keep b o e n (fun z => (List.mem_cons.mp (I.stkSub b z)).elim hL hb) hc) (fun b o _ _ hc e n => u.any e n hc) (fun b o hc e n => u.free b o e n hc) (fun b o hc e => u.there b o e hc) u.tups u.frzs u.tbls (fun m' hm => by
    obtain ⟨o', es', ep', ho', r'⟩ := hm
    rw [ho] at ho'; cases ho'
    exact ⟨_, es', ep', hL, r'⟩) hok hg
/-- an untracked record of ours (an iterator) has turned -/
theorem Inv.turned {t' : Nat} {it : Addr} (I : Inv X pins σ H s) (k : ∀ b o, b ≠ it → s.heap.get? b = some o → h'.get? b = some o) (hn : H it = none) (hL : it ≠ X.env.locals)
    (h1 : it ∈ X.ex ∨ X.s₀.heap.objs.size ≤ it) (h2 : ∀ x c, X.env.cells.lookup x = some c → c ≠ it) (h3 : ∀ p ∈ X.pn ++ pins, p.1 ≠ it) : Inv X pins σ H { s with heap := h', toks := t' } := by
  have nit : ∀ b u, H b = some u → b ≠ it := fun b u e z => by rw [z, hn] at e; cases e
  refine I.step (g' := s.gens) (d' := s.drawn) (ch := [it]) (fun b hb => ?_) (fun b o _ _ hc e _ => k b o (fun z => hc (by simp [z])) e) (fun b o _ _ hc e _ => ⟨o.slots, k b o (fun z => hc (by simp [z])) e⟩) (fun _ _ _ _ n => n)
    (fun b o hc e => ⟨o, k b o (fun z => hc (by simp [z])) e⟩) (fun _ _ e => e) (fun _ _ _ e => e) (fun b ps e => ⟨#[], by rw [e]; simp⟩) (fun m hm => ?_) (fun b u e => ?_) I.bare
  · have e : b = it := by simpa using hb
    subst e
    exact ⟨h1, hL, h2, h3⟩
  · obtain ⟨o, es, ep, ho, r⟩ := hm
    exact ⟨o, es, ep, k _ o (Ne.symm hL) ho, r⟩
  · refine (I.hok b u e).stay (fun c v hc q => k c v ?_ q) (fun _ q => q) fun _ _ q => q
    rcases hc with z | z
    · rw [z]; exact nit b u e
    · exact nit c _ z
theorem Inv.tok (I : Inv X pins σ H s) (t : Nat) : Inv X pins σ H { s with toks := t } := I.un (h' := s.heap) (t' := t) Un.refl I.hok
/-- all objects kept -/
theorem Inv.kept {t' : Nat} (I : Inv X pins σ H s) (k : ∀ b u, s.heap.get? b = some u → h'.get? b = some u) : Inv X pins σ H { s with heap := h', toks := t' } := I.un (Un.kept k) (I.hok.kept k)
/-- a new object laid and tracked -/
theorem Inv.laid {a : Addr} {o : HO} {t' : Nat} (I : Inv X pins σ H s) (k : ∀ b u, s.heap.get? b = some u → h'.get? b = some u) (hp : s.heap.objs.size ≤ a) (new : ObjOk X.prog X.w (upd H a o) h' a o) :
    Inv X pins σ (upd H a o) { s with heap := h', toks := t' } := I.un (Un.laid k hp (I.hok.fresh hp)) (I.hok.laid k hp new)
/-- an object written -/
theorem Inv.write {x e : Addr} {o : HO} {t' : Nat} (I : Inv X pins σ H s) (mu : Mut (H x)) (he : e = x ∨ H e = some (.own x)) (k : ∀ b u, b ≠ e → s.heap.get? b = some u → h'.get? b = some u) (heo : ∃ u, h'.get? e = some u)
    (new : ObjOk X.prog X.w (upd H x o) h' x o) : Inv X pins σ (upd H x o) { s with heap := h', toks := t' } := I.un (Un.write mu he k heo) (I.hok.write mu he k heo new)
/-- forgetting slots, pins -/
theorem Inv.weak {σ' : List (Option V)} (I : Inv X pins σ H s) (hl : σ'.length = σ.length) (w : ∀ (i : Nat) v, σ'[i]? = some (some v) → σ[i]? = some (some v)) : Inv X pins σ' H s :=
  ⟨I.ok, I.os, I.bare, I.base, let ⟨m, hn, hl'⟩ := I.loc; ⟨m, hn, fun i x v e1 e2 e3 => hl' i x v e1 (w i v e2) e3⟩, I.cell, I.free, I.freeC, I.pin, I.hok, hl.trans I.len⟩
theorem Inv.pins_of {pins' : List (Addr × Obj)} (I : Inv X pins σ H s) (h : ∀ p ∈ pins', s.heap.get? p.1 = some p.2 ∧ H p.1 = none ∧ p.1 ≠ X.env.locals ∧ p.1 ∉ X.fs ∧ ∀ v, p.2.data ≠ .cell v) : Inv X pins' σ H s :=
  ⟨I.ok, I.os, I.bare, I.base, I.loc, I.cell, I.free, I.freeC, fun p hp => (List.mem_append.mp hp).elim (fun z => I.pin p (List.mem_append_left _ z)) (h p), I.hok, I.len⟩
theorem nodup_ix {N : List Str} (hN : N.Nodup) {i j : Nat} {x : Str} (a : N[i]? = some x) (b : N[j]? = some x) : i = j := by
  obtain ⟨h1, e1⟩ := List.getElem?_eq_some_iff.mp a
  obtain ⟨h2, e2⟩ := List.getElem?_eq_some_iff.mp b
  exact (List.getElem_inj hN).mp (e1.trans e2.symm)
/-- a name is stored; what changed -/
theorem store_ok2 {M : Model} {A : Around} {E : Value → Shared → Prop} {i : Nat} {x : Str} {v : V} {u : Value} {Q : Unit → Shared → Prop} (I : Inv X pins σ H s) (hN : X.N.Nodup) (hi : X.N[i]? = some x) (hx : Loc X.env.scope x) (r : RelV v u)
    (h : ∀ s', Inv X pins (σ.set i (some v)) H s' → (∃ a, Heap.SameBut a s.heap s'.heap ∧ (a = X.env.locals ∨ X.env.cells.lookup x = some a)) → Q () s') (hf : X.fn x = true ∨ X.env.scope.names.lookup x = some .local := by first | exact .inl rfl | exact .inr rfl | assumption) : wpAny M A (storeName X.env x u) Q E s := by
  obtain ⟨m, hn, hl⟩ := id I.loc
  have hcls : (X.env.scope.kind == .class || (X.env.scope.kind == .module && X.env.locals != X.env.globals)) = false := by rw [I.ok.kind]; rfl
  have hiσ : i < σ.length := by rw [I.len]; exact (List.getElem?_eq_some_iff.mp hi).1
  have cne := I.cne
  have tracked : ∀ {a : Addr} {h' : Heap}, (∃ o, s.heap.get? a = some o ∧ H a = none) → Heap.SameBut a s.heap h' → HOk X.prog X.w H h' := fun {a h'} ha hs b ob e => by
    obtain ⟨_, _, hfree⟩ := ha
    refine (I.hok b ob e).stay (fun c w' hc q => (hs.2 c ?_).trans q) (fun _ q => q) fun _ _ q => q
    rintro rfl
    rcases hc with rfl | hc
    · rw [hfree] at e; cases e
    · rw [hfree] at hc; cases hc
  rcases hx with hk | hk
  · refine wpAny_storeName_local hk hn (fun h' hn' hs => ?_) hcls
    obtain ⟨oL, _, _, hoL, _⟩ := id hn
    refine h _ ⟨I.ok, I.os, I.bare, ⟨fun b o e n hb hx => ?_, fun b o e n hb hx => ?_, I.base.free, fun b o e hx => ?_, I.base.tups, I.base.frzs, I.base.tbls⟩, ⟨_, hn', fun j y v' e1 e2 e3 => ?_⟩, fun y c e => ?_, I.free, I.freeC, fun p hp => ?_, tracked ⟨oL, hoL, I.free⟩ hs, by simpa using I.len⟩ ⟨_, hs, .inl rfl⟩
    · exact (hs.2 b (Nat.ne_of_lt (Nat.lt_of_lt_of_le (Heap.lt_size e) I.ok.above))).trans (I.base.keep b o e n hb hx)
    · obtain ⟨sl, e1⟩ := I.base.slot b o e n hb hx
      exact ⟨sl, (hs.2 b (Nat.ne_of_lt (Nat.lt_of_lt_of_le (Heap.lt_size e) I.ok.above))).trans e1⟩
    · obtain ⟨o', e1⟩ := I.base.there b o e hx
      exact ⟨o', (hs.2 b (Nat.ne_of_lt (Nat.lt_of_lt_of_le (Heap.lt_size e) I.ok.above))).trans e1⟩
    · by_cases hj : j = i
      · subst hj
        rw [hi] at e1; cases e1
        rw [List.getElem?_set_self hiσ] at e2
        cases e2
        exact ⟨u, r, .inl ⟨hk, by simp⟩⟩
      · rw [List.getElem?_set_ne (Ne.symm hj)] at e2
        obtain ⟨u', r', q⟩ := hl j y v' e1 e2 e3
        refine ⟨u', r', ?_⟩
        rcases q with ⟨k, e⟩ | ⟨k, c, e, z⟩
        · refine .inl ⟨k, ?_⟩
          have : y ≠ x := fun e => hj (nodup_ix hN e1 (e ▸ hi))
          simp [this, e]
        · exact .inr ⟨k, c, e, z.sameBut hs (cne y c e)⟩
    · obtain ⟨w', z⟩ := I.cell y c e
      exact ⟨w', z.sameBut hs (cne y c e)⟩
    · obtain ⟨e, n, ne, nf, d⟩ := I.pin p hp
      exact ⟨(hs.2 p.1 ne).trans e, n, ne, nf, d⟩
  · have hfn : X.fn x = true := by
      rcases hf with z | z
      · exact z
      · rw [z] at hk; cases hk
    obtain ⟨c, hc⟩ := I.ok.has x (.inl hk)
    obtain ⟨w', z⟩ := I.cell x c hc
    refine wpAny_storeName_cell I.ok.kind hk hc z (fun h' hc' hs => ?_)
    obtain ⟨oc, hoc, hocd⟩ := id z
    refine h { s with heap := h' } ⟨I.ok, I.os, I.bare, ⟨fun b o e n hb hx => ?_, fun b o e n hb hx => ?_, I.base.free, fun b o e hx => ?_, I.base.tups, I.base.frzs, I.base.tbls⟩, ⟨m, hn.sameBut hs (Ne.symm (cne x c hc)), fun j y v' e1 e2 e3 => ?_⟩, fun y c' e => ?_, I.free, I.freeC, fun p hp => ?_, tracked ⟨oc, hoc, I.freeC x c hc⟩ hs, by simpa using I.len⟩ ⟨c, hs, .inr hc⟩
    · exact (hs.2 b (Nat.ne_of_lt (Nat.lt_of_lt_of_le (Heap.lt_size e) (I.ok.cab x c hfn hc)))).trans (I.base.keep b o e n hb hx)
    · obtain ⟨sl, e1⟩ := I.base.slot b o e n hb hx
      exact ⟨sl, (hs.2 b (Nat.ne_of_lt (Nat.lt_of_lt_of_le (Heap.lt_size e) (I.ok.cab x c hfn hc)))).trans e1⟩
    · obtain ⟨o', e1⟩ := I.base.there b o e hx
      exact ⟨o', (hs.2 b (Nat.ne_of_lt (Nat.lt_of_lt_of_le (Heap.lt_size e) (I.ok.cab x c hfn hc)))).trans e1⟩
    · by_cases hj : j = i
      · subst hj
        rw [hi] at e1; cases e1
        rw [List.getElem?_set_self hiσ] at e2
        cases e2
        exact ⟨u, r, .inr ⟨.inl hk, c, hc, hc'⟩⟩
      · rw [List.getElem?_set_ne (Ne.symm hj)] at e2
        obtain ⟨u', r', q⟩ := hl j y v' e1 e2 e3
        refine ⟨u', r', ?_⟩
        rcases q with q | ⟨k, c', e, z'⟩
        · exact .inl q
        · refine .inr ⟨k, c', e, z'.sameBut hs ?_⟩
          rintro rfl
          exact hj (nodup_ix hN e1 (I.ok.inj _ _ _ e hc ▸ hi))
    · by_cases hcc : c' = c
      · subst hcc; exact ⟨_, hc'⟩
      · obtain ⟨w2, z2⟩ := I.cell y c' e
        exact ⟨w2, z2.sameBut hs hcc⟩
    · obtain ⟨e, n, ne, nf, d⟩ := I.pin p hp
      refine ⟨(hs.2 p.1 ?_).trans e, n, ne, nf, d⟩
      intro q
      rw [q, hoc] at e
      have q' : oc = p.2 := Option.some.inj e
      exact d w' (by rw [← q']; exact hocd)
theorem store_ok {M : Model} {A : Around} {E : Value → Shared → Prop} {i : Nat} {x : Str} {v : V} {u : Value} {Q : Unit → Shared → Prop} (I : Inv X pins σ H s) (hN : X.N.Nodup) (hi : X.N[i]? = some x) (hx : Loc X.env.scope x) (r : RelV v u)
    (h : ∀ s', Inv X pins (σ.set i (some v)) H s' → Q () s') (hf : X.fn x = true ∨ X.env.scope.names.lookup x = some .local := by first | exact .inl rfl | exact .inr rfl | assumption) : wpAny M A (storeName X.env x u) Q E s :=
  store_ok2 I hN hi hx r (fun s' I' _ => h s' I') hf
/-- behind a call or a block, the state as it is -/
theorem Inv.call' {s' : Shared} {ch : List Addr} (I : Inv X pins σ H s) (ho : s'.os = s.os) (u : Un (frs X.stack) ch H H' s.heap s'.heap) (hok : HOk X.prog X.w H' s'.heap) (hg : AllBare s'.gens)
    (hch : ∀ b ∈ ch, (b ∈ X.ex ∨ X.s₀.heap.objs.size ≤ b) ∧ b ≠ X.env.locals ∧ (∀ x c, X.env.cells.lookup x = some c → c ≠ b) ∧ ∀ p ∈ X.pn ++ pins, p.1 ≠ b) : Inv X pins σ H' s' := by
  obtain ⟨h', g', d', t', o'⟩ := s'
  have e : o' = s.os := ho
  subst e
  exact I.call (g' := g') (t' := t') (d' := d') u hok hg hch
end
/-! ### the judgements -/
/-- an exception: its class, its own dict's address (where it has one), the abstract heap behind it -/
abbrev XK := Value → Option Addr → Hp → Prop
abbrev St := List (Option V)
abbrev VK := V → Hp → Prop
/-- an expression's reading; a test's; an argument list's -/
abbrev TE := St → Hp → VK → Prop
abbrev TT := St → Hp → (Bool → Hp → Prop) → Prop
abbrev TA := St → Hp → (List V → Hp → Prop) → Prop
/-- what is wanted behind a statement -/
structure Ends where
  nx : St → Hp → Prop
  rt : VK
  bk : St → Hp → Prop := fun _ _ => False
  ct : St → Hp → Prop := fun _ _ => False
abbrev TS := Ends → St → Hp → Prop
def EP (X : Cx) (pins : List (Addr × Obj)) (σ : St) (Q : VK) (u : Value) (s' : Shared) : Prop := ∃ v H', Inv X pins σ H' s' ∧ RelV v u ∧ Q v H'
def TP (X : Cx) (pins : List (Addr × Obj)) (σ : St) (Q : Bool → Hp → Prop) (b : Bool) (s' : Shared) : Prop := ∃ H', Inv X pins σ H' s' ∧ Q b H'
def AP (X : Cx) (pins : List (Addr × Obj)) (σ : St) (Q : List V → Hp → Prop) (us : List Value) (s' : Shared) : Prop := ∃ vs H', Inv X pins σ H' s' ∧ Vals vs us ∧ Q vs H'
def SP (X : Cx) (pins : List (Addr × Obj)) (D : Ends) (f : Flow) (s' : Shared) : Prop :=
  match f with
  | .next => ∃ σ' H', Inv X pins σ' H' s' ∧ D.nx σ' H'
  | .brk => ∃ σ' H', Inv X pins σ' H' s' ∧ D.bk σ' H'
  | .cont => ∃ σ' H', Inv X pins σ' H' s' ∧ D.ct σ' H'
  | .ret u => ∃ v σ' H', Inv X pins σ' H' s' ∧ RelV v u ∧ D.rt v H'
def PE (X : Cx) (e : Expr) (t : TE) : Prop :=
  ∀ (pins : List (Addr × Obj)) (s : Shared) (σ : St) (H : Hp) (Q : VK), Inv X pins σ H s → t σ H Q → wpAny (model X.prog X.w) X.A (eval e X.env) (EP X pins σ Q) X.xe s
def PT (X : Cx) (e : Expr) (t : TT) : Prop :=
  ∀ (pins : List (Addr × Obj)) (s : Shared) (σ : St) (H : Hp) (Q : Bool → Hp → Prop), Inv X pins σ H s → t σ H Q → wpAny (model X.prog X.w) X.A (isTrue e X.env (eval e X.env)) (TP X pins σ Q) X.xe s
/-- a test whatever its 'whole' is (and, or) -/
def PW (X : Cx) (e : Expr) (t : TT) : Prop :=
  ∀ (whole : Sem Value) (pins : List (Addr × Obj)) (s : Shared) (σ : St) (H : Hp) (Q : Bool → Hp → Prop), Inv X pins σ H s → t σ H Q → wpAny (model X.prog X.w) X.A (isTrue e X.env whole) (TP X pins σ Q) X.xe s
theorem PW.pt {X : Cx} {e : Expr} {t : TT} (h : PW X e t) : PT X e t := h _
/-- an argument list (no star), from the left -/
def PA (X : Cx) (es : List Expr) (t : TA) : Prop :=
  ∀ (pos : Pos) (pins : List (Addr × Obj)) (s : Shared) (σ : St) (H : Hp) (Q : List V → Hp → Prop), Inv X pins σ H s → t σ H Q → wpAny (model X.prog X.w) X.A (spliced (backTo pos (starEach es X.env))) (AP X pins σ Q) X.xe s
def PS (X : Cx) (st : Stmt) (t : TS) : Prop :=
  ∀ (pins : List (Addr × Obj)) (s : Shared) (σ : St) (H : Hp) (D : Ends), Inv X pins σ H s → t D σ H → wpAny (model X.prog X.w) X.A (exec st X.env) (SP X pins D) X.xe s
def PSs (X : Cx) (st : List Stmt) (t : TS) : Prop :=
  ∀ (pins : List (Addr × Obj)) (s : Shared) (σ : St) (H : Hp) (D : Ends), Inv X pins σ H s → t D σ H → wpAny (model X.prog X.w) X.A (execs st X.env) (SP X pins D) X.xe s
/-- weaken the end -/
theorem thn {α : Type} {t : Sem α} {Q Q' : α → Shared → Prop} {M : Model} {A : Around} {E : Value → Shared → Prop} {s : Shared} (h : wpAny M A t Q E s) (hQ : ∀ a s, Q a s → Q' a s) : wpAny M A t Q' E s := wpAny_mono h hQ fun _ _ x => x
end L2
namespace L2
open PySem PySem.Spec PyProof.Rows
section
variable {X : Cx}
/-! ### names and constants -/
def tVar (i : Nat) : TE := fun σ H Q => ∃ v, σ[i]? = some (some v) ∧ Q v H
def tC (v : V) : TE := fun _ H Q => Q v H
theorem pe_var {i : Nat} {x : Str} {pos : Pos} (hN : X.N[i]? = some x) (hv : Vis X.env.scope x) (hd : (x == ("__debug__" : Str)) = false := by decide) (hcd : (x == ("__classdict__" : Str)) = false := by decide) : PE X (.Name x pos) (tVar i) := by
  intro pins s σ H Q I h
  obtain ⟨v, e, h⟩ := h
  obtain ⟨m, hn, hl⟩ := I.loc
  obtain ⟨u, r, l⟩ := hl i x v hN e hv
  have fin : EP X pins σ Q u s := ⟨v, H, I, r, h⟩
  rcases l with ⟨hk, hm⟩ | ⟨hk, c, hc, hcell⟩
  · exact wpAny_Name (wpAny_loadName_local I.ok.kind hk hn hm fin) hd
  · rcases hk with hk | hk
    · exact wpAny_Name (wpAny_loadName_cell I.ok.kind hk hc hcell fin) hd
    · exact wpAny_Name (wpAny_loadName_free I.ok.kind hk hc hcell fin hcd) hd
theorem pe_int {i j pos} : PE X (.Constant (.int i) j pos) (tC (.int i)) := fun _ _ _ H _ I h => wpAny_Constant_int ⟨.int i, H, I.tok _, ⟨_, rfl⟩, h⟩
theorem pe_bl {b j pos} : PE X (.Constant (.bool b) j pos) (tC (.bl b)) := fun _ _ _ H _ I h => Constant_bool ⟨.bl b, H, I, rfl, h⟩
theorem pe_non {j pos} : PE X (.Constant .none j pos) (tC .non) := fun _ _ _ H _ I h => Constant_none ⟨.non, H, I, rfl, h⟩
theorem pe_str {x j pos} : PE X (.Constant (.str x) j pos) (tC (.str x)) := fun _ _ _ H _ I h => Calls.Constant_str ⟨.str x, H, I.tok _, ⟨_, rfl⟩, h⟩
/-- a global name of the def -/
def Gl (X : Cx) (x : Str) : Prop := X.env.kindOf x = some .globalImplicit
theorem ld_glob {E : Value → Shared → Prop} {pins : List (Addr × Obj)} {s : Shared} {σ : St} {H : Hp} {x : Str} {u : Value} {pos : Pos} {Q : Value → Shared → Prop} (I : Inv X pins σ H s) (hg : Gl X x) (hm : X.mg x = some u) (h : Q u s)
    (hd : (x == ("__debug__" : Str)) = false := by decide) : wpAny (model X.prog X.w) X.A (eval (.Name x pos) X.env) Q E s :=
  Calls.Name_function_global I.ok.kind hg (Calls.loadGlobal_global (by rw [I.ok.glob]; exact I.mod.glob.keeps I.bk) hm h) hd
theorem ld_blt {E : Value → Shared → Prop} {pins : List (Addr × Obj)} {s : Shared} {σ : St} {H : Hp} {x : Str} {u : Value} {pos : Pos} {Q : Value → Shared → Prop} (I : Inv X pins σ H s) (hg : Gl X x) (hm : X.mg x = none) (hv : bootBuiltins x = some u) (h : Q u s)
    (hn : x ≠ "__name__" := by decide) (hd : (x == ("__debug__" : Str)) = false := by decide) : wpAny (model X.prog X.w) X.A (eval (.Name x pos) X.env) Q E s := by
  obtain ⟨mb, h1, h2⟩ := I.mod.blt
  exact Calls.Name_function_global I.ok.kind hg (Calls.loadGlobal_builtin (by rw [I.ok.glob]; exact I.mod.glob.keeps I.bk) hm (by rw [I.ok.blt]; exact h1.keeps I.bk) ((h2 x hn).trans hv) h) hd
/-- a module's constant, a class, a function, as a value -/
theorem pe_glob {x : Str} {v : V} {u : Value} {pos : Pos} (hg : Gl X x) (hm : X.mg x = some u) (r : RelV v u) (hd : (x == ("__debug__" : Str)) = false := by decide) : PE X (.Name x pos) (tC v) :=
  fun _ _ _ H _ I h => ld_glob I hg hm ⟨v, H, I, r, h⟩ hd
theorem pe_bltn {x : Str} {v : V} {u : Value} {pos : Pos} (hg : Gl X x) (hm : X.mg x = none) (hv : bootBuiltins x = some u) (r : RelV v u) (hn : x ≠ "__name__" := by decide) (hd : (x == ("__debug__" : Str)) = false := by decide) : PE X (.Name x pos) (tC v) :=
  fun _ _ _ H _ I h => ld_blt I hg hm hv ⟨v, H, I, r, h⟩ hn hd
/-! ### arithmetic -/
variable {a b : Expr} {ta tb : TE} {pos : Pos}
/-! ### comparisons -/
/-- a comparison as a value, as a test -/
def tB (t : TE) : TT := fun σ H Q => t σ H fun x H1 => ∃ c, x = .bl c ∧ Q c H1
/-- an expression whose value is a bool, as a test -/
theorem pt_val {e : Expr} {t : TE} (h : PE X e t) (he : ∀ whole, isTrue e X.env whole = (do let v ← whole; standAt e.pos; holding [v] (truthy v)) := by intro _; rfl) : PT X e (tB t) := by
  intro pins s σ H Q I hw
  refine isTrue_plain (thn (h pins s σ H _ I hw) fun v s1 ⟨x, H1, I1, r1, q1⟩ => ?_) (he _)
  obtain ⟨d, rfl, q⟩ := q1
  cases r1
  exact wpAny_truthy_bool ⟨H1, I1, q⟩
/-! ### and, or, not -/
variable {tA tB' : TT} {rest : List Expr}
def tAnd (t u : TT) : TT := fun σ H Q => t σ H fun c H1 => if c = true then u σ H1 Q else Q false H1
def tOr (t u : TT) : TT := fun σ H Q => t σ H fun c H1 => if c = true then Q true H1 else u σ H1 Q
def tNot (t : TT) : TT := fun σ H Q => t σ H fun c H1 => Q (!c) H1
theorem pw_and1 (ha : PT X a tA) : PW X (.BoolOp .And [a] pos) tA := by
  intro wh pins s σ H Q I h
  refine isTrue_and (thn (ha pins s σ H Q I h) fun c s1 e => ?_)
  cases c with
  | true => exact isTrue_and_nil e
  | false => exact e
theorem pw_or1 (ha : PT X a tA) : PW X (.BoolOp .Or [a] pos) tA := by
  intro wh pins s σ H Q I h
  refine isTrue_or (thn (ha pins s σ H Q I h) fun c s1 e => ?_)
  cases c with
  | false => exact isTrue_or_nil e
  | true => exact e
theorem pw_and (ha : PT X a tA) (hb : PW X (.BoolOp .And (b :: rest) pos) tB') : PW X (.BoolOp .And (a :: b :: rest) pos) (tAnd tA tB') := by
  intro wh pins s σ H Q I h
  refine isTrue_and (thn (ha pins s σ H _ I h) fun c s1 ⟨H1, I1, q1⟩ => ?_)
  cases c with
  | true => exact hb wh pins s1 σ H1 Q I1 q1
  | false => exact ⟨H1, I1, q1⟩
theorem pw_or (ha : PT X a tA) (hb : PW X (.BoolOp .Or (b :: rest) pos) tB') : PW X (.BoolOp .Or (a :: b :: rest) pos) (tOr tA tB') := by
  intro wh pins s σ H Q I h
  refine isTrue_or (thn (ha pins s σ H _ I h) fun c s1 ⟨H1, I1, q1⟩ => ?_)
  cases c with
  | true => exact ⟨H1, I1, q1⟩
  | false => exact hb wh pins s1 σ H1 Q I1 q1
theorem pt_not (ha : PT X a tA) : PT X (.UnaryOp .Not a pos) (tNot tA) := by
  intro pins s σ H Q I h
  exact isTrue_not (ha pins s σ H (fun c H1 => Q (!c) H1) I h)
/-- .. as values (bools) -/
def tAndV (ta tb : TE) : TE := fun σ H Q => ta σ H fun x H1 => ∃ c, x = .bl c ∧ if c = true then tb σ H1 Q else Q (.bl false) H1
def tOrV (ta tb : TE) : TE := fun σ H Q => ta σ H fun x H1 => ∃ c, x = .bl c ∧ if c = true then Q (.bl true) H1 else tb σ H1 Q
def tNotV (ta : TE) : TE := fun σ H Q => ta σ H fun x H1 => ∃ c, x = .bl c ∧ Q (.bl (!c)) H1
theorem pe_one {op} {t : TE} (h : PE X a t) : PE X (.BoolOp op [a] pos) t := fun pins s σ H Q I hw => BoolOp_one (h pins s σ H Q I hw)
theorem pe_and (ha : PE X a ta) (hb : PE X (.BoolOp .And (b :: rest) pos) tb) : PE X (.BoolOp .And (a :: b :: rest) pos) (tAndV ta tb) := by
  intro pins s σ H Q I h
  refine BoolOp_and (thn (ha pins s σ H _ I h) fun v s1 ⟨x, H1, I1, r1, q1⟩ => ?_)
  obtain ⟨c, rfl, q1⟩ := q1
  cases r1
  refine wpAny_truthy_bool ?_
  cases c with
  | true => exact hb pins s1 σ H1 Q I1 q1
  | false => exact ⟨.bl false, H1, I1, rfl, q1⟩
theorem pe_or (ha : PE X a ta) (hb : PE X (.BoolOp .Or (b :: rest) pos) tb) : PE X (.BoolOp .Or (a :: b :: rest) pos) (tOrV ta tb) := by
  intro pins s σ H Q I h
  refine BoolOp_or (thn (ha pins s σ H _ I h) fun v s1 ⟨x, H1, I1, r1, q1⟩ => ?_)
  obtain ⟨c, rfl, q1⟩ := q1
  cases r1
  refine wpAny_truthy_bool ?_
  cases c with
  | false => exact hb pins s1 σ H1 Q I1 q1
  | true => exact ⟨.bl true, H1, I1, rfl, q1⟩
theorem pe_not (ha : PE X a ta) : PE X (.UnaryOp .Not a pos) (tNotV ta) := by
  intro pins s σ H Q I h
  refine UnaryOp_ (thn (ha pins s σ H _ I h) fun v s1 ⟨x, H1, I1, r1, q1⟩ => ?_)
  obtain ⟨c, rfl, q1⟩ := q1
  cases r1
  exact not_of (wpAny_truthy_bool ⟨.bl (!c), H1, I1, rfl, q1⟩)
/-- a if t else b -/
def tIf (t : TT) (ta tb : TE) : TE := fun σ H Q => t σ H fun c H1 => if c = true then ta σ H1 Q else tb σ H1 Q
theorem pe_ifExp {c : Expr} (hc : PT X c tA) (ha : PE X a ta) (hb : PE X b tb) : PE X (.IfExp c a b pos) (tIf tA ta tb) := by
  intro pins s σ H Q I h
  refine wpAny_IfExp (thn (hc pins s σ H _ I h) fun d s1 ⟨H1, I1, q1⟩ => ?_)
  cases d with
  | true => exact ha pins s1 σ H1 Q I1 q1
  | false => exact hb pins s1 σ H1 Q I1 q1
end
end L2
namespace L2
open PySem PySem.Spec PyProof.Rows
/-! ### a list, a tuple that is read: tracked, frozen, or an object of the module -/
def SqL (K : PySem.W.Frag) (H : Hp) (a : Addr) (xs : List V) : Prop :=
  Rd H a (.lst xs) ∨
    ∃ (o : Obj) (its : Array Value) (n : Nat), K.lookup a = some o ∧ o.cls = .type "list" ∧ o.dict = none ∧ o.data = .seq its n ∧ its.size ≤ sizeLine ∧ Vals xs its.toList
def SqT (K : PySem.W.Frag) (H : Hp) (a : Addr) (xs : List V) : Prop :=
  Rd H a (.tup xs) ∨
    ∃ (o : Obj) (its : Array Value) (n : Nat), K.lookup a = some o ∧ o.cls = .type "tuple" ∧ o.data = .seq its n ∧ its.size ≤ sizeLine ∧ Vals xs its.toList
def absV : Value → Option V
  | .none => some .non
  | .bool b => some (.bl b)
  | .int i _ => some (.int i)
  | .str x _ => some (.str x)
  | .bytes b _ => some (.byt b)
  | .float b _ => some (.flt b)
  | .ref a => some (.ref a)
  | .type n => some (.ty n)
  | _ => none
theorem RelV.abs {x : V} {u : Value} (r : RelV x u) : absV u = some x := by
  cases x with
  | non => cases r; rfl
  | bl _ => cases r; rfl
  | int _ => obtain ⟨t, rfl⟩ := r; rfl
  | str _ => obtain ⟨t, rfl⟩ := r; rfl
  | byt _ => obtain ⟨t, rfl⟩ := r; rfl
  | flt _ => obtain ⟨t, rfl⟩ := r; rfl
  | ref _ => cases r; rfl
  | ty _ => cases r; rfl
theorem RelV.inj {x y : V} {u : Value} (r : RelV x u) (q : RelV y u) : x = y := Option.some.inj (r.abs.symm.trans q.abs)
theorem Vals.inj : ∀ {xs ys : List V} {us : List Value}, Vals xs us → Vals ys us → xs = ys
  | _, _, _, .nil, .nil => rfl
  | _, _, _, .cons r t, .cons r' t' => by rw [r.inj r', Vals.inj t t']
section
variable {X : Cx} {pins : List (Addr × Obj)} {σ : St} {H : Hp} {s : Shared} {a : Addr} {xs ys : List V}
theorem SqL.of {K : PySem.W.Frag} (h : H a = some (.lst xs)) : SqL K H a xs := .inl (.inl h)
theorem SqT.of {K : PySem.W.Frag} (h : H a = some (.tup xs)) : SqT K H a xs := .inl (.inl h)
theorem Inv.list (I : Inv X pins σ H s) (h : SqL X.K H a xs) : ∃ its : List Value, Vals xs its ∧ PlainL s.heap a its.toArray ∧ xs.length ≤ sizeLine := by
  rcases h with h | ⟨o, its, n, hk, hc, hd, hs, hz, r⟩
  · obtain ⟨z, its, n, r, e⟩ := h.ok I.hok
    exact ⟨its, r, ⟨_, n, e, rfl, rfl, rfl⟩, z⟩
  · refine ⟨its.toList, r, ⟨o, n, I.kIn a o hk, hc, hd, by simpa using hs⟩, ?_⟩
    have e := r.length
    simp only [Array.length_toList] at e
    omega
theorem Inv.tuple (I : Inv X pins σ H s) (h : SqT X.K H a xs) : ∃ its : List Value, Vals xs its ∧ IsTup s.heap a its.toArray ∧ xs.length ≤ sizeLine := by
  rcases h with h | ⟨o, its, n, hk, hc, hs, hz, r⟩
  · obtain ⟨z, its, r, p⟩ := h.ok I.hok
    exact ⟨its, r, p, z⟩
  · refine ⟨its.toList, r, ⟨o, I.kIn a o hk, hc, n, by simpa using hs⟩, ?_⟩
    have e := r.length
    simp only [Array.length_toList] at e
    omega
theorem Inv.list_inj (I : Inv X pins σ H s) (h : SqL X.K H a xs) (h' : SqL X.K H a ys) : xs = ys := by
  obtain ⟨its, r, ⟨o, n, e, _, _, d⟩, _⟩ := I.list h
  obtain ⟨its', r', ⟨o', n', e', _, _, d'⟩, _⟩ := I.list h'
  rw [e] at e'; cases e'
  rw [d] at d'
  injection d' with d1 _
  have : its = its' := by simpa using congrArg Array.toList d1
  subst this
  exact r.inj r'
theorem Inv.tuple_inj (I : Inv X pins σ H s) (h : SqT X.K H a xs) (h' : SqT X.K H a ys) : xs = ys := by
  obtain ⟨its, r, ⟨o, e, _, n, d⟩, _⟩ := I.tuple h
  obtain ⟨its', r', ⟨o', e', _, n', d'⟩, _⟩ := I.tuple h'
  rw [e] at e'; cases e'
  rw [d] at d'
  injection d' with d1 _
  have : its = its' := by simpa using congrArg Array.toList d1
  subst this
  exact r.inj r'
end
/-! ### another wish about exceptions -/
abbrev Cx.wish (X : Cx) (E : Value → Shared → Prop) : Cx := { X with xe := E }
/-- no exception leaves -/
abbrev Cx.nox (X : Cx) : Cx := X.wish fun _ _ => False
theorem Cx.Ok.wish {X : Cx} (ok : X.Ok) (E : Value → Shared → Prop) : (X.wish E).Ok :=
  ⟨ok.mod, ok.kind, ok.glob, ok.blt, ok.above, ok.inj, ok.has, ok.cab, ok.hd, ok.frames, ok.stk, ok.exf, ok.bs, ok.bsz, ok.noex, ok.exfs, ok.funs, ok.frf⟩
theorem Cx.Ok.unwish {X : Cx} {E : Value → Shared → Prop} (ok : (X.wish E).Ok) : X.Ok :=
  ⟨ok.mod, ok.kind, ok.glob, ok.blt, ok.above, ok.inj, ok.has, ok.cab, ok.hd, ok.frames, ok.stk, ok.exf, ok.bs, ok.bsz, ok.noex, ok.exfs, ok.funs, ok.frf⟩
section
variable {X : Cx} {pins : List (Addr × Obj)} {σ : St} {H : Hp} {s : Shared} {E : Value → Shared → Prop}
theorem Inv.wish (I : Inv X pins σ H s) (E : Value → Shared → Prop) : Inv (X.wish E) pins σ H s := ⟨I.ok.wish E, I.os, I.bare, I.base, I.loc, I.cell, I.free, I.freeC, I.pin, I.hok, I.len⟩
theorem Inv.unwish (I : Inv (X.wish E) pins σ H s) : Inv X pins σ H s := ⟨I.ok.unwish, I.os, I.bare, I.base, I.loc, I.cell, I.free, I.freeC, I.pin, I.hok, I.len⟩
theorem SP.unwish {D : Ends} {f : Flow} {s' : Shared} (h : SP (X.wish E) pins D f s') : SP X pins D f s' := by
  cases f with
  | next => obtain ⟨σ', H', I, q⟩ := h; exact ⟨σ', H', I.unwish, q⟩
  | brk => obtain ⟨σ', H', I, q⟩ := h; exact ⟨σ', H', I.unwish, q⟩
  | cont => obtain ⟨σ', H', I, q⟩ := h; exact ⟨σ', H', I.unwish, q⟩
  | ret u => obtain ⟨v, σ', H', I, r, q⟩ := h; exact ⟨v, σ', H', I.unwish, r, q⟩
theorem PSs.nox {st : List Stmt} {t : TS} (h : PSs X.nox st t) : PSs X st t := fun pins s σ H D I hw =>
  wpAny_mono (h pins s σ H D (I.wish _) hw) (fun _ _ q => q.unwish) fun _ _ z => False.elim z
end
/-! ### blocks and small statements -/
section
variable {X : Cx} {st : Stmt} {rest : List Stmt} {t u : TS} {e : Expr} {te : TE} {pos : Pos}
def tNext : TS := fun D σ H => D.nx σ H
def tSeq (t u : TS) : TS := fun D σ H => t { D with nx := u D } σ H
theorem pss_nil : PSs X [] tNext := fun _ _ σ H _ I h => wpAny_execs_nil ⟨σ, H, I, h⟩
theorem pss_cons (h1 : PS X st t) (h2 : PSs X rest u) : PSs X (st :: rest) (tSeq t u) := by
  intro pins s σ H D I h
  refine wpAny_execs_cons (thn (h1 pins s σ H { D with nx := u D } I h) fun f s1 q => ?_)
  cases f with
  | next =>
    obtain ⟨σ', H', I', q⟩ := q
    exact h2 pins s1 σ' H' D I' q
  | ret v => exact q
  | brk => exact q
  | cont => exact q
theorem pss_one (h1 : PS X st t) : PSs X [st] t := by
  intro pins s σ H D I h
  refine wpAny_execs_cons (thn (h1 pins s σ H D I h) fun f s1 q => ?_)
  cases f with
  | next => exact wpAny_execs_nil q
  | ret v => exact q
  | brk => exact q
  | cont => exact q
/-- in a def's body nothing is shown -/
theorem Inv.quiet {pins : List (Addr × Obj)} {σ : St} {H : Hp} {s : Shared} (I : Inv X pins σ H s) : interactive X.env = false := by simp [interactive, I.ok.kind]
def tRet (te : TE) : TS := fun D σ H => te σ H D.rt
theorem ps_ret (he : PE X e te) : PS X (.Return (some e) pos) (tRet te) := by
  intro pins s σ H D I h
  exact wpAny_Return_some (thn (he pins s σ H _ I h) fun v s1 ⟨x, H1, I1, r1, q1⟩ => ⟨x, σ, H1, I1, r1, q1⟩)
def tIfS (c : TT) (t u : TS) : TS := fun D σ H => c σ H fun b H1 => if b = true then t D σ H1 else u D σ H1
theorem ps_if {c : Expr} {a b : List Stmt} {tc : TT} (hc : PT X c tc) (ha : PSs X a t) (hb : PSs X b u) : PS X (.If c a b pos) (tIfS tc t u) := by
  intro pins s σ H D I h
  refine wpAny_If (thn (hc pins s σ H _ I h) fun d s1 ⟨H1, I1, q1⟩ => ?_)
  cases d with
  | true => exact ha pins s1 σ H1 D I1 q1
  | false => exact hb pins s1 σ H1 D I1 q1
end
/-! ### targets -/
abbrev TG := V → St → Hp → (St → Hp → Prop) → Prop
def PG (X : Cx) (target : Expr) (t : TG) : Prop :=
  ∀ (pins : List (Addr × Obj)) (s : Shared) (σ : St) (H : Hp) (v : V) (u : Value) (Q : St → Hp → Prop), Inv X pins σ H s → RelV v u → t v σ H Q →
    wpAny (model X.prog X.w) X.A (assign target X.env u) (fun _ s' => ∃ σ' H', Inv X pins σ' H' s' ∧ Q σ' H') X.xe s
/-- o[i] = v, by values -/
abbrev TSet := V → V → V → Hp → (Hp → Prop) → Prop
def PSet (X : Cx) (t : TSet) : Prop :=
  ∀ (pins : List (Addr × Obj)) (s : Shared) (σ : St) (H : Hp) (o i v : V) (ov iv u : Value) (Q : Hp → Prop), Inv X pins σ H s → RelV o ov → RelV i iv → RelV v u → t o i v H Q →
    wpAny (model X.prog X.w) X.A (setItem ov iv u) (fun _ s' => ∃ H', Inv X pins σ H' s' ∧ Q H') X.xe s
section
variable {X : Cx} {pos : Pos}
def gName (i : Nat) : TG := fun v σ H Q => Q (σ.set i (some v)) H
theorem pg_name {i : Nat} {x : Str} (hN : X.N.Nodup) (hi : X.N[i]? = some x) (hx : Loc X.env.scope x) (hf : X.fn x = true ∨ X.env.scope.names.lookup x = some .local := by first | exact .inl rfl | exact .inr rfl | assumption) : PG X (.Name x pos) (gName i) := by
  intro pins s σ H v u Q I r h
  exact wpAny_assign_Name (store_ok I hN hi hx r (fun s' I' => ⟨_, H, I', h⟩) hf)
/-- o[i] = .. -/
def gSub (to ti : TE) (t : TSet) : TG := fun v σ H Q => to σ H fun o H1 => ti σ H1 fun i H2 => t o i v H2 fun H3 => Q σ H3
theorem pg_sub {o i : Expr} {to ti : TE} {t : TSet} (ho : PE X o to) (hi : PE X i ti) (hs : PSet X t)
    (ha : ∀ v, assign (.Subscript o i pos) X.env v = (do
      let ov ← holding [v] (eval o X.env)
      let iv ← holding [v, ov] (eval i X.env)
      standAt pos
      holding [v, ov, iv] (setItem ov iv v)
      release [v, ov, iv] []) := by intro _; rfl) : PG X (.Subscript o i pos) (gSub to ti t) := by
  intro pins s σ H v u Q I r h
  rw [ha]
  refine wpAny_bind (wpAny_holding (thn (ho pins s σ H _ I h) fun ov s1 ⟨x, H1, I1, r1, q1⟩ => ?_))
  refine wpAny_bind (wpAny_holding (thn (hi pins s1 σ H1 _ I1 q1) fun iv s2 ⟨y, H2, I2, r2, q2⟩ => ?_))
  refine wpAny_bind (wpAny_standAt (wpAny_bind (wpAny_holding (thn (hs pins s2 σ H2 x y v ov iv u _ I2 r1 r2 r q2) fun _ s3 ⟨H3, I3, q3⟩ => ?_))))
  exact wpAny_release ⟨σ, H3, I3, q3⟩
/-- target = value -/
def tAsg (te : TE) (g : TG) : TS := fun D σ H => te σ H fun x H1 => g x σ H1 D.nx
theorem ps_asg {tg e : Expr} {te : TE} {g : TG} (he : PE X e te) (hg : PG X tg g) (hs : swapsWithSole [tg] e pos.line X.env = pure false := by rfl) (hw : swappedStores [tg] e X.env = pure none := by rfl)
    (h1 : (assignEach [tg] X.env).map (·.2) = [assign tg X.env] := by rfl) : PS X (.Assign [tg] e pos) (tAsg te g) := by
  intro pins s σ H D I h
  refine wpAny_Assign_stores (thn (he pins s σ H _ I h) fun v s1 ⟨x, H1, I1, r1, q1⟩ => ?_) hs hw
  rw [h1]
  exact thn (hg pins s1 σ H1 x v _ I1 r1 q1) fun _ s2 q => q
/-- name = value -/
theorem ps_set {i : Nat} {x : Str} {e : Expr} {te : TE} {pos' : Pos} (hN : X.N.Nodup) (hi : X.N[i]? = some x) (hx : Loc X.env.scope x) (he : PE X e te) (hs : swapsWith e (some (.Name x pos')) pos.line X.env = pure false := by rfl) (hf : X.fn x = true ∨ X.env.scope.names.lookup x = some .local := by first | exact .inl rfl | exact .inr rfl | assumption) :
    PS X (.Assign [.Name x pos'] e pos) (tAsg te (gName i)) := by
  intro pins s σ H D I h
  refine wpAny_Assign_Name (thn (he pins s σ H _ I h) fun v s1 ⟨y, H1, I1, r1, q1⟩ => ?_) hs
  exact store_ok I1 hN hi hx r1 (fun s2 I2 => ⟨_, H1, I2, q1⟩) hf
end
/-! ### while -/
section
variable {X : Cx} {pos : Pos}
end
/-! ### what a loop or a comprehension walks -/
/-- at turn i: it yields x (the heap may grow), or it stops -/
structure It where
  go : Nat → Hp → Prop
  yld : Nat → Hp → V → Hp → Prop
  stop : Nat → Hp → Prop
/-- the iterator's own objects may turn: they are not the frame's, not pinned, younger than the entry (or a comprehension's own) -/
def FpOk (X : Cx) (pins : List (Addr × Obj)) (H : Hp) (b : Addr) : Prop :=
  H b = none ∧ b ≠ X.env.locals ∧ b ∉ X.fs ∧ (b ∈ X.ex ∨ X.s₀.heap.objs.size ≤ b) ∧ (∀ x c, X.env.cells.lookup x = some c → c ≠ b) ∧ ∀ p ∈ X.pn ++ pins, p.1 ≠ b
theorem Inv.fpOk {X : Cx} {pins : List (Addr × Obj)} {σ : St} {H H' : Hp} {s : Shared} {b : Addr} (I : Inv X pins σ H s) (hb : s.heap.objs.size ≤ b) (hn : H' b = none) : FpOk X pins H' b := by
  refine ⟨hn, Nat.ne_of_gt (Nat.lt_of_lt_of_le I.lt hb), I.nofs hb, .inr (Nat.le_trans I.sz hb), fun x c e z => ?_, fun p hp z => ?_⟩
  · obtain ⟨v, q⟩ := I.cell x c e
    exact absurd (Nat.lt_of_lt_of_le q.lt (by rw [z]; exact hb)) (Nat.lt_irrefl _)
  · exact absurd (Nat.lt_of_lt_of_le (Heap.lt_size (I.pin p hp).1) (by rw [z]; exact hb)) (Nat.lt_irrefl _)
structure Turn (P : Program) (w : World) (K : PySem.W.Frag) (tg : Expr) (J : It) (fp : List Addr) (it : Addr) (tn : Nat → Heap → Prop) : Prop where
  mem : it ∈ fp
  obj : ∀ i h, tn i h → ∀ b ∈ fp, ∃ o, h.get? b = some o ∧ ∀ v, o.data ≠ .cell v
  keep : ∀ i h h', tn i h → (∀ b ∈ fp, ∀ o, h.get? b = some o → h'.get? b = some o) → tn i h'
  item : ∀ (X : Cx), X.prog = P → X.w = w → X.K = K → X.calm = true → ∀ (i : Nat) (pins : List (Addr × Obj)) (s : Shared) (σ : St) (H : Hp) (E : Value → Shared → Prop), Inv X pins σ H s → (∀ b ∈ fp, FpOk X pins H b) → tn i s.heap → J.go i H →
    wpAny (model P w) X.A (pyNext (.ref it)) (fun r s1 => ∃ u, r = some u ∧
      wpAny (model P w) X.A (letOwnedTupleGo tg (.ref it) u) (fun _ s2 => ∃ x H', Inv X pins σ H' s2 ∧ RelV x u ∧ J.yld i H x H' ∧ tn (i + 1) s2.heap ∧ ∀ b ∈ fp, H' b = none) E s1) E s
  done : ∀ (X : Cx), X.prog = P → X.w = w → X.K = K → X.calm = true → ∀ (i : Nat) (pins : List (Addr × Obj)) (s : Shared) (σ : St) (H : Hp) (E : Value → Shared → Prop), Inv X pins σ H s → (∀ b ∈ fp, FpOk X pins H b) → tn i s.heap → J.stop i H →
    wpAny (model P w) X.A (pyNext (.ref it)) (fun r s1 => r = none ∧ Inv X pins σ H s1) E s
  self : ∀ (A : Around) (i : Nat) (s : Shared) (Q : Value → Shared → Prop) (E : Value → Shared → Prop), tn i s.heap → Q (.ref it) s → wpAny (model P w) A (pyIter (.ref it)) Q E s
abbrev TI := St → Hp → (It → Hp → Prop) → Prop
/-- an iterator has come -/
def PIE (X : Cx) (pins : List (Addr × Obj)) (σ : St) (tg : Expr) (R : It → Hp → Prop) (itv : Value) (s2 : Shared) : Prop :=
  ∃ (it : Addr) (fp : List Addr) (tn : Nat → Heap → Prop) (J : It) (H' : Hp), itv = .ref it ∧ Inv X pins σ H' s2 ∧ Turn X.prog X.w X.K tg J fp it tn ∧ tn 0 s2.heap ∧ (∀ b ∈ fp, FpOk X pins H' b) ∧ R J H'
def PI (X : Cx) (tg iter : Expr) (wi : TI) : Prop :=
  ∀ (pins : List (Addr × Obj)) (s : Shared) (σ : St) (H : Hp) (R : It → Hp → Prop), Inv X pins σ H s → wi σ H R →
    wpAny (model X.prog X.w) X.A (eval iter X.env) (fun v s1 => wpAny (model X.prog X.w) X.A (pyIter v) (PIE X pins σ tg R) X.xe s1) X.xe s
/-- the step ahead of the store is nothing for an iterator that keeps no tuple -/
theorem go_of {M : Model} {A : Around} {E : Value → Shared → Prop} {s : Shared} {tg : Expr} {it : Addr} {u : Value} {o : Obj} {n : String} {vs : Array Value} {Q : Unit → Shared → Prop} (ho : s.heap.get? it = some o) (hc : o.cls = .type n) (hd : o.data = .fields vs)
    (hn : ["enumerate", "zip", "dict_itemiterator", "dict_reverseitemiterator", "odict_iterator", "itertools.zip_longest", "itertools.pairwise"].contains n = false) (hQ : Q () s) : wpAny M A (letOwnedTupleGo tg (.ref it) u) Q E s := by
  unfold letOwnedTupleGo
  cases tg <;> first
    | exact wpAny_pure hQ
    | (cases u <;> first
        | exact wpAny_pure hQ
        | (refine wpAny_bind (wpAny_load ho ?_)
           rw [hc, hd]
           show wpAny M A (if (["enumerate", "zip", "dict_itemiterator", "dict_reverseitemiterator", "odict_iterator", "itertools.zip_longest", "itertools.pairwise"].contains n && vs[0]? == some (rawInt _)) = true then _ else _) Q E s
           rw [if_neg (by intro h; rw [hn, Bool.false_and] at h; cases h)]
           exact wpAny_pure hQ))
/-- the list at a, as it stands at each turn (a loop may append to it) -/
def Itl (K : PySem.W.Frag) (a : Addr) : It :=
  ⟨fun i H => ∃ xs x, SqL K H a xs ∧ xs[i]? = some x, fun i H x H' => H' = H ∧ ∀ xs, SqL K H a xs → xs[i]? = some x, fun i H => ∃ xs, SqL K H a xs ∧ xs.length ≤ i⟩
def Itt (K : PySem.W.Frag) (a : Addr) : It :=
  ⟨fun i H => ∃ xs x, SqT K H a xs ∧ xs[i]? = some x, fun i H x H' => H' = H ∧ ∀ xs, SqT K H a xs → xs[i]? = some x, fun i H => ∃ xs, SqT K H a xs ∧ xs.length ≤ i⟩
theorem turn_list {P : Program} {w : World} {K : PySem.W.Frag} {tg : Expr} (a it : Addr) : Turn P w K tg (Itl K a) [it] it (fun i h => h.IsListIter it a i) where
  mem := by simp
  obj := fun i h st b hb => by
    have e : b = it := by simpa using hb
    subst e
    obtain ⟨o, e, c, d⟩ := st
    exact ⟨o, e, fun v z => by rw [d] at z; cases z⟩
  keep := fun i h h' st k => st.at fun o e => k it (by simp) o e
  item := by
    intro X hP hw hK hc i pins s σ H E I hf st hg
    subst hP hw hK
    obtain ⟨xs, x, hq, hx⟩ := hg
    obtain ⟨its, rv, p, hz⟩ := I.list hq
    obtain ⟨u, hu, ru⟩ := rv.get hx
    obtain ⟨f0, f1, f2, f3, f4, f5⟩ := hf it (by simp)
    refine wpAny_pyNext_list_item st p.isList (x := u) (by simpa using hu) fun h' st' sb => ?_
    have I1 : Inv X pins σ H { s with heap := h' } := I.turned (t' := s.toks) (fun b o hb e => (sb.2 b hb).trans e) f0 f1 f3 f4 f5
    obtain ⟨o, e, c, d⟩ := id st'
    exact ⟨u, rfl, go_of (s := { s with heap := h' }) e c d (by decide) ⟨x, H, I1, ru, ⟨rfl, fun ys hy => by rw [I.list_inj hy hq]; exact hx⟩, st', fun b hb => (hf b hb).1⟩⟩
  done := by
    intro X hP hw hK hc i pins s σ H E I hf st hg
    subst hP hw hK
    obtain ⟨xs, hq, hx⟩ := hg
    obtain ⟨its, rv, p, hz⟩ := I.list hq
    obtain ⟨f0, f1, f2, f3, f4, f5⟩ := hf it (by simp)
    have hl := rv.length
    exact wpAny_pyNext_list_end (I.ok.hd hc) st p.isList (by simp; omega) fun h' eb => ⟨rfl, I.turned (t' := s.toks) (fun b o hb e => eb b o hb e) f0 f1 f3 f4 f5⟩
  self := fun _ _ _ _ _ st h => wpAny_pyIter_listiter st h
theorem turn_tuple {P : Program} {w : World} {K : PySem.W.Frag} {tg : Expr} (a it : Addr) : Turn P w K tg (Itt K a) [it] it (fun i h => h.IsTupleIter it a i) where
  mem := by simp
  obj := fun i h st b hb => by
    have e : b = it := by simpa using hb
    subst e
    obtain ⟨o, e, c, d⟩ := st
    exact ⟨o, e, fun v z => by rw [d] at z; cases z⟩
  keep := fun i h h' st k => st.at fun o e => k it (by simp) o e
  item := by
    intro X hP hw hK hc i pins s σ H E I hf st hg
    subst hP hw hK
    obtain ⟨xs, x, hq, hx⟩ := hg
    obtain ⟨its, rv, p, hz⟩ := I.tuple hq
    obtain ⟨u, hu, ru⟩ := rv.get hx
    obtain ⟨f0, f1, f2, f3, f4, f5⟩ := hf it (by simp)
    refine wpAny_pyNext_tuple_item st (show s.heap.IsTuple a its.toArray from p) (x := u) (by simpa using hu) fun h' st' sb => ?_
    have I1 : Inv X pins σ H { s with heap := h' } := I.turned (t' := s.toks) (fun b o hb e => (sb.2 b hb).trans e) f0 f1 f3 f4 f5
    obtain ⟨o, e, c, d⟩ := id st'
    exact ⟨u, rfl, go_of (s := { s with heap := h' }) e c d (by decide) ⟨x, H, I1, ru, ⟨rfl, fun ys hy => by rw [I.tuple_inj hy hq]; exact hx⟩, st', fun b hb => (hf b hb).1⟩⟩
  done := by
    intro X hP hw hK hc i pins s σ H E I hf st hg
    subst hP hw hK
    obtain ⟨xs, hq, hx⟩ := hg
    obtain ⟨its, rv, p, hz⟩ := I.tuple hq
    obtain ⟨f0, f1, f2, f3, f4, f5⟩ := hf it (by simp)
    have hl := rv.length
    exact wpAny_pyNext_tuple_end (I.ok.hd hc) st (show s.heap.IsTuple a its.toArray from p) (by simp; omega) fun h' eb => ⟨rfl, I.turned (t' := s.toks) (fun b o hb e => eb b o hb e) f0 f1 f3 f4 f5⟩
  self := fun _ _ _ _ _ st h => wpAny_pyIter_tupleiter st h
end L2
namespace L2
open PySem PySem.Spec PyProof.Rows
section
variable {X : Cx} {tg : Expr}
def iList (K : PySem.W.Frag) (tl : TE) : TI := fun σ H R => tl σ H fun x H1 => ∃ a, x = .ref a ∧ (∃ xs, SqL K H1 a xs) ∧ R (Itl K a) H1
def iTup (K : PySem.W.Frag) (tl : TE) : TI := fun σ H R => tl σ H fun x H1 => ∃ a, x = .ref a ∧ (∃ xs, SqT K H1 a xs) ∧ R (Itt K a) H1
theorem pi_list {l : Expr} {tl : TE} (hl : PE X l tl) : PI X tg l (iList X.K tl) := by
  intro pins s σ H R I h
  refine thn (hl pins s σ H _ I h) fun v s1 ⟨x, H1, I1, r1, q1⟩ => ?_
  obtain ⟨a, e, ⟨xs, hq⟩, q⟩ := q1
  subst e
  cases r1
  obtain ⟨its, rv, p, hz⟩ := I1.list hq
  refine wpAny_pyIter_list p.isList ?_
  refine ⟨s1.heap.objs.size, [s1.heap.objs.size], _, _, H1, rfl, I1.kept (t' := s1.toks) fun b o e => Heap.get?_push_of_some _ e, turn_list a _, ⟨_, Heap.get?_push_size _ rfl, rfl, rfl⟩, fun b hb => ?_, q⟩
  have e : b = s1.heap.objs.size := by simpa using hb
  subst e
  exact I1.fpOk (Nat.le_refl _) (I1.hok.fresh (Nat.le_refl _))
theorem pi_tup {l : Expr} {tl : TE} (hl : PE X l tl) : PI X tg l (iTup X.K tl) := by
  intro pins s σ H R I h
  refine thn (hl pins s σ H _ I h) fun v s1 ⟨x, H1, I1, r1, q1⟩ => ?_
  obtain ⟨a, e, ⟨xs, hq⟩, q⟩ := q1
  subst e
  cases r1
  obtain ⟨its, rv, p, hz⟩ := I1.tuple hq
  refine wpAny_pyIter_tuple (show s1.heap.IsTuple a its.toArray from p) ?_
  refine ⟨s1.heap.objs.size, [s1.heap.objs.size], _, _, H1, rfl, I1.kept (t' := s1.toks) fun b o e => Heap.get?_push_of_some _ e, turn_tuple a _, ⟨_, Heap.get?_push_size _ rfl, rfl, rfl⟩, fun b hb => ?_, q⟩
  have e : b = s1.heap.objs.size := by simpa using hb
  subst e
  exact I1.fpOk (Nat.le_refl _) (I1.hok.fresh (Nat.le_refl _))
/-! ### for -/
/-- W: the invariant by the turn and a measure; N: what the body is to reach -/
def tFor (wi : TI) (g : TG) (tb : TS) : TS := fun D σ H => wi σ H fun J H1 => ∃ W : Nat → Nat → St → Hp → Prop, (∃ m, W 0 m σ H1) ∧ ∀ i m σ H, W i m σ H →
  (J.stop i H ∧ D.nx σ H) ∨ (J.go i H ∧ ∃ N : St → Hp → Prop, (∀ σ' H', N σ' H' → ∃ m', m' < m ∧ W (i + 1) m' σ' H') ∧ ∀ x H', J.yld i H x H' → g x σ H' fun σ2 H2 => tb { D with nx := N, ct := N, bk := D.nx } σ2 H2)
/-- the records at fp as they stand -/
def pinsAt (fp : List Addr) (h : Heap) : List (Addr × Obj) := fp.filterMap fun b => (h.get? b).map fun o => (b, o)
theorem mem_pinsAt {fp : List Addr} {h : Heap} {b : Addr} {o : Obj} (hb : b ∈ fp) (e : h.get? b = some o) : (b, o) ∈ pinsAt fp h := List.mem_filterMap.mpr ⟨b, hb, by rw [e]; rfl⟩
theorem of_pinsAt {fp : List Addr} {h : Heap} {p : Addr × Obj} (hp : p ∈ pinsAt fp h) : p.1 ∈ fp ∧ h.get? p.1 = some p.2 := by
  obtain ⟨b, hb, e⟩ := List.mem_filterMap.mp hp
  cases q : h.get? b with
  | none => rw [q] at e; cases e
  | some o =>
    rw [q] at e
    have e' : (b, o) = p := Option.some.inj e
    subst e'
    exact ⟨hb, q⟩
theorem Inv.pinned {pins : List (Addr × Obj)} {σ : St} {H : Hp} {s : Shared} {fp : List Addr} (I : Inv X pins σ H s) (hf : ∀ b ∈ fp, FpOk X pins H b) (ho : ∀ b ∈ fp, ∃ o, s.heap.get? b = some o ∧ ∀ v, o.data ≠ .cell v) : Inv X (pins ++ pinsAt fp s.heap) σ H s :=
  I.pins_of fun p hp => (List.mem_append.mp hp).elim (fun z => I.pin p (List.mem_append_right _ z)) fun z => by
    obtain ⟨hb, e⟩ := of_pinsAt z
    obtain ⟨f0, f1, f2, _⟩ := hf p.1 hb
    obtain ⟨o, e', d⟩ := ho p.1 hb
    rw [e] at e'; cases e'
    exact ⟨e, f0, f1, f2, d⟩
theorem Inv.unpinned {pins pl : List (Addr × Obj)} {σ : St} {H : Hp} {s : Shared} (I : Inv X (pins ++ pl) σ H s) : Inv X pins σ H s := I.pins_of fun p hp => I.pin p (List.mem_append_right _ (List.mem_append_left _ hp))
theorem ps_for {iter : Expr} {body : List Stmt} {wi : TI} {g : TG} {tb : TS} {pos : Pos} (hp : PassesOwn (model X.prog X.w) X.A X.env X.xe) (hc : X.calm = true) (hi : PI X tg iter wi) (hg : PG X tg g) (hb : PSs X body tb)
    (hs : ∀ x, foldedSetIterable iter X.env x = pure x := by intro _; rfl) : PS X (.For tg iter body [] pos) (tFor wi g tb) := by
  intro pins s σ H D I h
  refine wpAny_For (thn (hi pins s σ H _ I h) fun v s1 h1 => thn h1 fun itv s2 h2 => ?_) hs
  obtain ⟨it, fp, tn, J, H2, e, I2, T, st2, f2, W, ⟨m0, w0⟩, turn⟩ := h2
  subst e
  -- what stays true of the iterator's objects through the loop
  have stat : ∀ {H' : Hp}, (∀ b ∈ fp, H' b = none) → ∀ b ∈ fp, FpOk X pins H' b := fun hn b hb => ⟨hn b hb, (f2 b hb).2⟩
  refine codeAny_forLoop_any (fun n s' => ∃ i σ' H', Inv X pins σ' H' s' ∧ tn i s'.heap ∧ (∀ b ∈ fp, H' b = none) ∧ W i n σ' H') ?_ m0 ⟨0, σ, H2, I2, st2, fun b hb => (f2 b hb).1, w0⟩
  rintro n s3 ⟨i, σ3, H3, I3, st3, fr3, w3⟩
  rcases turn i n σ3 H3 w3 with ⟨stop, qn⟩ | ⟨go, N, hN, step⟩
  · refine wpAny_passesOwn hp (thn (T.done X rfl rfl rfl hc i pins s3 σ3 H3 X.xe I3 (stat fr3) st3 stop) fun r s4 ⟨hr, I4⟩ => ?_)
    subst hr
    exact wpAny_execs_nil ⟨σ3, H3, I4, qn⟩
  · refine wpAny_passesOwn hp (thn (T.item X rfl rfl rfl hc i pins s3 σ3 H3 X.xe I3 (stat fr3) st3 go) fun r s4 ⟨u, hr, h4⟩ => ?_)
    subst hr
    refine wpAny_passesOwn hp (thn h4 fun _ s5 ⟨x, H5, I5, r5, y5, st5, fr5⟩ => ?_)
    have I5' := I5.pinned (stat fr5) (T.obj _ _ st5)
    refine wpAny_passesOwn hp (thn (hg _ s5 σ3 H5 x u _ I5' r5 (step x H5 y5)) fun _ s6 ⟨σ6, H6, I6, q6⟩ => ?_)
    refine wpAny_passesOwn hp (thn (hb _ s6 σ6 H6 _ I6 q6) fun f s7 q7 => ?_)
    have again : ∀ {σ7 : St} {H7 : Hp}, Inv X (pins ++ pinsAt fp s5.heap) σ7 H7 s7 → N σ7 H7 → ∃ m, m < n ∧ ∃ i σ' H', Inv X pins σ' H' s7 ∧ tn i s7.heap ∧ (∀ b ∈ fp, H' b = none) ∧ W i m σ' H' := fun {σ7 H7} I7 n7 => by
      obtain ⟨m', hm, w7⟩ := hN σ7 H7 n7
      refine ⟨m', hm, i + 1, σ7, H7, I7.unpinned, T.keep _ _ _ st5 fun b hb o e => (I7.pin (b, o) (List.mem_append_right _ (List.mem_append_right _ (mem_pinsAt hb e)))).1, fun b hb => ?_, w7⟩
      obtain ⟨o, e, d⟩ := T.obj _ _ st5 b hb
      exact (I7.pin (b, o) (List.mem_append_right _ (List.mem_append_right _ (mem_pinsAt hb e)))).2.1
    cases f with
    | next => obtain ⟨σ7, H7, I7, n7⟩ := q7; exact again I7 n7
    | cont => obtain ⟨σ7, H7, I7, n7⟩ := q7; exact again I7 n7
    | brk => obtain ⟨σ7, H7, I7, q7⟩ := q7; exact ⟨σ7, H7, I7.unpinned, q7⟩
    | ret v => obtain ⟨x7, σ7, H7, I7, r7, q7⟩ := q7; exact ⟨x7, σ7, H7, I7.unpinned, r7, q7⟩
end
/-! ### the forms one uses -/
end L2
namespace L2
open PySem PySem.Spec PyProof.Rows
abbrev R2 := V → V → Hp → VK → Prop
/-- a two-place operation on values: f is binaryOp op, inplaceOp op or compareOp op -/
def OpR (X : Cx) (f : Value → Value → Sem Value) (r : R2) : Prop :=
  ∀ (pins : List (Addr × Obj)) (s : Shared) (σ : St) (H : Hp) (x y : V) (v u : Value) (Q : VK), Inv X pins σ H s → RelV x v → RelV y u → r x y H Q →
    wpAny (model X.prog X.w) X.A (f v u) (EP X pins σ Q) X.xe s
/-- a call of a value that is known (a builtin, a type) with values -/
def CallR (X : Cx) (f : Value) (r : List V → Hp → VK → Prop) : Prop :=
  ∀ (pins : List (Addr × Obj)) (s : Shared) (σ : St) (H : Hp) (xs : List V) (us : List Value) (Q : VK), Inv X pins σ H s → Vals xs us → r xs H Q →
    wpAny (model X.prog X.w) X.A (call f us) (EP X pins σ Q) X.xe s
def tOp (r : R2) (ta tb : TE) : TE := fun σ H Q => ta σ H fun x H1 => tb σ H1 fun y H2 => r x y H2 Q
/-- ints in, under C, and a value out -/
def rI (C : Int → Int → Prop) (g : Int → Int → V) : R2 := fun x y H Q => ∃ i j, x = .int i ∧ y = .int j ∧ C i j ∧ Q (g i j) H
def rI0 (g : Int → Int → V) : R2 := fun x y H Q => ∃ i j, x = .int i ∧ y = .int j ∧ Q (g i j) H
section
variable {X : Cx} {a b c : Expr} {ta tb tc : TE} {pos : Pos}
theorem binT (ha : PE X a ta) (hb : PE X b tb) {pins : List (Addr × Obj)} {s : Shared} {σ : St} {H : Hp} {R : V → V → Hp → Prop} (I : Inv X pins σ H s)
    (h : ta σ H fun x H1 => tb σ H1 fun y H2 => R x y H2) {Q : Value → Shared → Prop} {f : Value → Value → Sem Value}
    (hf : ∀ v u s2 x y H2, Inv X pins σ H2 s2 → RelV x v → RelV y u → R x y H2 → wpAny (model X.prog X.w) X.A (f v u) Q X.xe s2) :
    wpAny (model X.prog X.w) X.A (eval a X.env) (fun v s₁ => wpAny (model X.prog X.w) X.A (eval b X.env) (fun u s₂ => wpAny (model X.prog X.w) X.A (f v u) Q X.xe s₂) X.xe s₁) X.xe s := by
  refine thn (ha pins s σ H _ I h) fun v s1 ⟨x, H1, I1, r1, q1⟩ => ?_
  refine thn (hb pins s1 σ H1 _ I1 q1) fun u s2 ⟨y, H2, I2, r2, q2⟩ => ?_
  exact hf v u s2 x y H2 I2 r1 r2 q2
theorem pe_op {op : Operator} {r : R2} (ho : OpR X (binaryOp op) r) (ha : PE X a ta) (hb : PE X b tb) : PE X (.BinOp a op b pos) (tOp r ta tb) := by
  intro pins s σ H Q I h
  exact wpAny_BinOp (binT ha hb I h fun v u s2 x y H2 I2 rx ry q => ho pins s2 σ H2 x y v u Q I2 rx ry q)
/-! ### ints -/
theorem opI {f : Value → Value → Sem Value} {C : Int → Int → Prop} {g : Int → Int → Int}
    (rule : ∀ (i j : Int) (t u : Tok) (s : Shared) (Q : Value → Shared → Prop) (E : Value → Shared → Prop), C i j → Q (.int (g i j) s.toks) { s with toks := s.toks + 1 } → wpAny (model X.prog X.w) X.A (f (.int i t) (.int j u)) Q E s) :
    OpR X f (rI C fun i j => .int (g i j)) := by
  intro pins s σ H x y v u Q I rx ry h
  obtain ⟨i, j, rfl, rfl, hc, q⟩ := h
  obtain ⟨t, rfl⟩ := rx
  obtain ⟨t', rfl⟩ := ry
  exact rule i j t t' s _ _ hc ⟨.int (g i j), H, I.tok _, ⟨_, rfl⟩, q⟩
theorem opI0 {f : Value → Value → Sem Value} {g : Int → Int → Int}
    (rule : ∀ (i j : Int) (t u : Tok) (s : Shared) (Q : Value → Shared → Prop) (E : Value → Shared → Prop), Q (.int (g i j) s.toks) { s with toks := s.toks + 1 } → wpAny (model X.prog X.w) X.A (f (.int i t) (.int j u)) Q E s) :
    OpR X f (rI0 fun i j => .int (g i j)) := by
  intro pins s σ H x y v u Q I rx ry h
  obtain ⟨i, j, rfl, rfl, q⟩ := h
  obtain ⟨t, rfl⟩ := rx
  obtain ⟨t', rfl⟩ := ry
  exact rule i j t t' s _ _ ⟨.int (g i j), H, I.tok _, ⟨_, rfl⟩, q⟩
theorem opB0 {f : Value → Value → Sem Value} {g : Int → Int → Bool}
    (rule : ∀ (i j : Int) (t u : Tok) (s : Shared) (Q : Value → Shared → Prop) (E : Value → Shared → Prop), Q (.bool (g i j)) s → wpAny (model X.prog X.w) X.A (f (.int i t) (.int j u)) Q E s) :
    OpR X f (rI0 fun i j => .bl (g i j)) := by
  intro pins s σ H x y v u Q I rx ry h
  obtain ⟨i, j, rfl, rfl, q⟩ := h
  obtain ⟨t, rfl⟩ := rx
  obtain ⟨t', rfl⟩ := ry
  exact rule i j t t' s _ _ ⟨.bl (g i j), H, I, rfl, q⟩
def CPow (i j : Int) : Prop := 0 ≤ j ∧ j ≤ 1000000 ∧ i.natAbs < 2 ^ 64
theorem op_add : OpR X (binaryOp .Add) (rI0 fun i j => .int (i + j)) := opI0 fun _ _ _ _ _ _ _ q => add_int q
theorem op_sub : OpR X (binaryOp .Sub) (rI0 fun i j => .int (i - j)) := opI0 fun _ _ _ _ _ _ _ q => sub_int q
/-- % by a positive divisor of any size -/
theorem op_mod : OpR X (binaryOp .Mod) (rI (fun _ j => 0 < j) fun i j => .int (i % j)) := opI fun i j _ _ _ _ _ hc q => by
  have h1 : (0 : Int) < j := hc
  exact mod_int' (by omega) (by rw [Int.fmod_eq_emod_of_nonneg i (by omega)]; exact q)
theorem op_pow : OpR X (binaryOp .Pow) (rI CPow fun i j => .int (i ^ j.toNat)) := opI fun _ _ _ _ _ _ _ hc q => pow_int_small hc.1 hc.2.1 hc.2.2 q
/-! ### bools among ints: n += (a < b) -/
end
/-! ### comparisons -/
/-- the scalars that == tells apart as data does -/
def scal : V → V → Bool
  | .non, .non => true | .non, .int _ => true | .int _, .non => true | .non, .bl _ => true | .bl _, .non => true | .non, .str _ => true | .str _, .non => true
  | .int _, .int _ => true | .bl _, .bl _ => true | .str _, .str _ => true | .byt _, .byt _ => true
  | .int _, .str _ => true | .str _, .int _ => true | .bl _, .str _ => true | .str _, .bl _ => true
  | _, _ => false
def rEq : R2 := fun x y H Q => scal x y = true ∧ Q (.bl (decide (x = y))) H
def rNe : R2 := fun x y H Q => scal x y = true ∧ Q (.bl (!decide (x = y))) H
theorem dec_int {i j : Int} : decide (V.int i = V.int j) = (i == j) := by
  rw [Bool.eq_iff_iff]
  simp
theorem dec_bl {i j : Bool} : decide (V.bl i = V.bl j) = (i == j) := by
  rw [Bool.eq_iff_iff]
  simp
theorem dec_str {i j : Str} : decide (V.str i = V.str j) = (i == j) := by
  rw [Bool.eq_iff_iff]
  simp
theorem dec_byt {i j : Array UInt8} : decide (V.byt i = V.byt j) = (i.toList == j.toList) := by
  rw [Bool.eq_iff_iff]
  cases i
  cases j
  simp
section
variable {X : Cx} {a b c : Expr} {ta tb tc : TE} {pos : Pos}
theorem fin_bl {pins : List (Addr × Obj)} {σ : St} {H : Hp} {s : Shared} {Q : VK} {k k' : Bool} (I : Inv X pins σ H s) (q : Q (.bl k) H) (e : k = k') : EP X pins σ Q (.bool k') s := by
  subst e
  exact ⟨.bl k, H, I, rfl, q⟩
theorem op_eq : OpR X (compareOp .Eq) rEq := by
  intro pins s σ H x y v u Q I rx ry h
  obtain ⟨hs, q⟩ := h
  cases x with
  | non =>
    cases rx
    cases y with
    | non => cases ry; exact PySem.EqNone.eq_none_none (fin_bl I q (by simp))
    | bl j => cases ry; exact PySem.EqNone.eq_none_bool (fin_bl I q (by simp))
    | int j => obtain ⟨t', rfl⟩ := ry; exact PySem.EqNone.eq_none_int (fin_bl I q (by simp))
    | str j => obtain ⟨t', rfl⟩ := ry; exact PySem.EqNone.eq_none_str (fin_bl I q (by simp))
    | _ => exact absurd (show false = true from hs) Bool.false_ne_true
  | bl i =>
    cases rx
    cases y with
    | non => cases ry; exact PySem.EqNone.eq_bool_none (fin_bl I q (by simp))
    | bl j => cases ry; exact eq_bool (fin_bl I q dec_bl)
    | str j => obtain ⟨t', rfl⟩ := ry; exact PySem.EqMixed.eq_bool_str (fin_bl I q (by simp))
    | _ => exact absurd (show false = true from hs) Bool.false_ne_true
  | int i =>
    obtain ⟨t, rfl⟩ := rx
    cases y with
    | non => cases ry; exact PySem.EqNone.eq_int_none (fin_bl I q (by simp))
    | int j => obtain ⟨t', rfl⟩ := ry; exact eq_int (fin_bl I q dec_int)
    | str j => obtain ⟨t', rfl⟩ := ry; exact PySem.EqMixed.eq_int_str (fin_bl I q (by simp))
    | _ => exact absurd (show false = true from hs) Bool.false_ne_true
  | str i =>
    obtain ⟨t, rfl⟩ := rx
    cases y with
    | non => cases ry; exact PySem.EqNone.eq_str_none (fin_bl I q (by simp))
    | bl j => cases ry; exact PySem.EqMixed.eq_str_bool (fin_bl I q (by simp))
    | int j => obtain ⟨t', rfl⟩ := ry; exact PySem.EqMixed.eq_str_int (fin_bl I q (by simp))
    | str j => obtain ⟨t', rfl⟩ := ry; exact eq_str (fin_bl I q dec_str)
    | _ => exact absurd (show false = true from hs) Bool.false_ne_true
  | byt i =>
    obtain ⟨t, rfl⟩ := rx
    cases y with
    | byt j => obtain ⟨t', rfl⟩ := ry; exact PySem.W.eq_bytes (fin_bl I q dec_byt)
    | _ => exact absurd (show false = true from hs) Bool.false_ne_true
  | _ => cases y <;> exact absurd (show false = true from hs) Bool.false_ne_true
theorem op_ne : OpR X (compareOp .NotEq) rNe := by
  intro pins s σ H x y v u Q I rx ry h
  obtain ⟨hs, q⟩ := h
  cases x with
  | non =>
    cases rx
    cases y with
    | non => cases ry; exact PySem.EqNone.ne_none_none (fin_bl I q (by simp))
    | bl j => cases ry; exact PySem.EqNone.ne_none_bool (fin_bl I q (by simp))
    | int j => obtain ⟨t', rfl⟩ := ry; exact PySem.EqNone.ne_none_int (fin_bl I q (by simp))
    | str j => obtain ⟨t', rfl⟩ := ry; exact PySem.EqNone.ne_none_str (fin_bl I q (by simp))
    | _ => exact absurd (show false = true from hs) Bool.false_ne_true
  | bl i =>
    cases rx
    cases y with
    | non => cases ry; exact PySem.EqNone.ne_bool_none (fin_bl I q (by simp))
    | bl j => cases ry; exact ne_bool (fin_bl I q (congrArg not dec_bl))
    | str j => obtain ⟨t', rfl⟩ := ry; exact PySem.EqMixed.ne_bool_str (fin_bl I q (by simp))
    | _ => exact absurd (show false = true from hs) Bool.false_ne_true
  | int i =>
    obtain ⟨t, rfl⟩ := rx
    cases y with
    | non => cases ry; exact PySem.EqNone.ne_int_none (fin_bl I q (by simp))
    | int j => obtain ⟨t', rfl⟩ := ry; exact ne_int (fin_bl I q (congrArg not dec_int))
    | str j => obtain ⟨t', rfl⟩ := ry; exact PySem.EqMixed.ne_int_str (fin_bl I q (by simp))
    | _ => exact absurd (show false = true from hs) Bool.false_ne_true
  | str i =>
    obtain ⟨t, rfl⟩ := rx
    cases y with
    | non => cases ry; exact PySem.EqNone.ne_str_none (fin_bl I q (by simp))
    | bl j => cases ry; exact PySem.EqMixed.ne_str_bool (fin_bl I q (by simp))
    | int j => obtain ⟨t', rfl⟩ := ry; exact PySem.EqMixed.ne_str_int (fin_bl I q (by simp))
    | str j => obtain ⟨t', rfl⟩ := ry; exact ne_str (fin_bl I q (congrArg not dec_str))
    | _ => exact absurd (show false = true from hs) Bool.false_ne_true
  | byt i =>
    obtain ⟨t, rfl⟩ := rx
    cases y with
    | byt j => obtain ⟨t', rfl⟩ := ry; exact PySem.W.ne_bytes (fin_bl I q (congrArg not dec_byt))
    | _ => exact absurd (show false = true from hs) Bool.false_ne_true
  | _ => cases y <;> exact absurd (show false = true from hs) Bool.false_ne_true
theorem op_lt : OpR X (compareOp .Lt) (rI0 fun i j => .bl (decide (i < j))) := opB0 fun _ _ _ _ _ _ _ q => lt_int q
theorem op_le : OpR X (compareOp .LtE) (rI0 fun i j => .bl (decide (i ≤ j))) := opB0 fun _ _ _ _ _ _ _ q => le_int q
theorem op_gt : OpR X (compareOp .Gt) (rI0 fun i j => .bl (decide (j < i))) := opB0 fun _ _ _ _ _ _ _ q => gt_int q
/-- the one string within the other -/
theorem op_in_str : OpR X (compareOp .In) (fun x y H Q => ∃ i j, x = .str i ∧ y = .str j ∧ Q (.bl (!(Builtin.Str.occurrences j i 0 j.length 1).isEmpty)) H) := by
  intro pins s σ H x y v u Q I rx ry h
  obtain ⟨i, j, rfl, rfl, q⟩ := h
  obtain ⟨t, rfl⟩ := rx
  obtain ⟨t', rfl⟩ := ry
  exact in_str (fin_bl I q rfl)
/-- is None, is not None: the right side a value none -/
theorem op_isN : OpR X (compareOp .Is) (fun x y H Q => y = .non ∧ Q (.bl (decide (x = .non))) H) := by
  intro pins s σ H x y v u Q I rx ry h
  obtain ⟨rfl, q⟩ := h
  cases ry
  refine is_none_gen (fin_bl I q ?_)
  cases x <;> first
    | (cases rx; rfl)
    | (obtain ⟨t, rfl⟩ := rx; rfl)
theorem op_notin_str : OpR X (compareOp .NotIn) (fun x y H Q => ∃ i j, x = .str i ∧ y = .str j ∧ Q (.bl (!(!(Builtin.Str.occurrences j i 0 j.length 1).isEmpty))) H) := by
  intro pins s σ H x y v u Q I rx ry h
  obtain ⟨i, j, rfl, rfl, q⟩ := h
  obtain ⟨t, rfl⟩ := rx
  obtain ⟨t', rfl⟩ := ry
  exact notIn_str (fin_bl I q rfl)
theorem nomark (b : Expr) {op : CmpOp} (h : op ≠ .In := by decide) (h2 : op ≠ .NotIn := by decide) : behindInMarks op b = false := by
  have e1 : (op == CmpOp.In) = false := by cases op <;> first | rfl | exact absurd rfl h
  have e2 : (op == CmpOp.NotIn) = false := by cases op <;> first | rfl | exact absurd rfl h2
  cases b <;> simp [behindInMarks, e1, e2]
/-- a comparison as a value; hm: nomark b, or (for in, not in) by with_unfolding_all rfl -/
theorem pe_cmpR {op : CmpOp} {r : R2} (ho : OpR X (compareOp op) r) (ha : PE X a ta) (hb : PE X b tb) (hm : behindInMarks op b = false) : PE X (.Compare a [op] [b] pos) (tOp r ta tb) := by
  intro pins s σ H Q I h
  exact wpAny_Compare1 (binT ha hb I h fun v u s2 x y H2 I2 rx ry q => ho pins s2 σ H2 x y v u Q I2 rx ry q) hm
/-- a reading of a value as a test -/
def tTest (t : TE) : TT := fun σ H Q => t σ H fun x H' => ∃ k, x = .bl k ∧ Q k H'
theorem pt_cmpR {op : CmpOp} {r : R2} (ho : OpR X (compareOp op) r) (ha : PE X a ta) (hb : PE X b tb) (hm : behindInMarks op b = false) : PT X (.Compare a [op] [b] pos) (tTest (tOp r ta tb)) := by
  intro pins s σ H Q I h
  refine wpAny_isTrue_Compare1 (thn (ha pins s σ H _ I h) fun v s1 ⟨x, H1, I1, r1, q1⟩ => thn (hb pins s1 σ H1 _ I1 q1) fun u s2 ⟨y, H2, I2, r2, q2⟩ =>
    thn (ho pins s2 σ H2 x y v u _ I2 r1 r2 q2) fun c s3 ⟨z, H3, I3, r3, k, e, q3⟩ => ?_) hm
  subst e
  cases r3
  exact wpAny_truthy_bool ⟨H3, I3, q3⟩
/-- a op1 b op2 c -/
def tChain (r r' : R2) (ta tb tc : TE) : TE := fun σ H Q => ta σ H fun x H1 => tb σ H1 fun y H2 => r x y H2 fun z H3 => ∃ k, z = .bl k ∧
  (if k = true then tc σ H3 fun w' H4 => r' y w' H4 Q else Q (.bl false) H3)
theorem pe_chain {op op' : CmpOp} {r r' : R2} (ho : OpR X (compareOp op) r) (ho' : OpR X (compareOp op') r') (ha : PE X a ta) (hb : PE X b tb) (hc : PE X c tc)
    (hm : lastMarks [op, op'] [b, c] = false := by with_unfolding_all rfl) : PE X (.Compare a [op, op'] [b, c] pos) (tChain r r' ta tb tc) := by
  intro pins s σ H Q I h
  refine Compare_chain (thn (ha pins s σ H _ I h) fun v s1 ⟨x, H1, I1, r1, q1⟩ => chain_link (thn (hb pins s1 σ H1 _ I1 q1) fun u s2 ⟨y, H2, I2, r2, q2⟩ =>
    thn (ho pins s2 σ H2 x y v u _ I2 r1 r2 q2) fun d s3 ⟨z, H3, I3, r3, k, e, q3⟩ => ?_)) hm
  subst e
  cases r3
  refine wpAny_truthy_bool ?_
  cases k with
  | false => exact ite_ff ⟨.bl false, H3, I3, rfl, q3⟩
  | true => exact ite_tt (chain_last (thn (hc pins s3 σ H3 _ I3 q3) fun w' s4 ⟨z', H4, I4, r4, q4⟩ => ho' pins s4 σ H4 y z' u w' Q I4 r2 r4 q4))
/-! ### truth -/
theorem line63 : (sizeLine : Nat) < 2 ^ 63 := by rw [sizeLine_eq]; decide
/-! ### strs and bytes -/
theorem op_add_str : OpR X (binaryOp .Add) (fun x y H Q => ∃ i j, x = .str i ∧ y = .str j ∧ i.length + j.length ≤ sizeLine ∧ Q (.str (i ++ j)) H) := by
  intro pins s σ H x y v u Q I rx ry h
  obtain ⟨i, j, rfl, rfl, hz, q⟩ := h
  obtain ⟨t, rfl⟩ := rx
  obtain ⟨t', rfl⟩ := ry
  exact add_str (fun t' tk => ⟨.str (i ++ j), H, I.tok _, ⟨_, rfl⟩, q⟩) hz
/-! ### scalar builtins, by CallR -/
theorem vals1 {x : V} {us : List Value} (r : Vals [x] us) : ∃ u, us = [u] ∧ RelV x u := by
  cases r with
  | cons r1 r2 => cases r2; exact ⟨_, rfl, r1⟩
theorem vals2 {x y : V} {us : List Value} (r : Vals [x, y] us) : ∃ u w', us = [u, w'] ∧ RelV x u ∧ RelV y w' := by
  cases r with
  | cons r1 r2 =>
    cases r2 with
    | cons r3 r4 => cases r4; exact ⟨_, _, rfl, r1, r3⟩
theorem call_str_int : CallR X (.type "str") (fun xs H Q => ∃ i, xs = [.int i] ∧ i.natAbs.log2 < 1920 ∧ Q (.str (toString i)) H) := by
  intro pins s σ H xs us Q I r h
  obtain ⟨i, rfl, hz, q⟩ := h
  obtain ⟨u, rfl, t, rfl⟩ := vals1 r
  exact PySem.P.str_of_int hz ⟨.str _, H, I.tok _, ⟨_, rfl⟩, q⟩
end
end L2
namespace L2
open PySem PySem.Spec PyProof.Rows
/-! ### an instance, its attributes a map -/
structure ObjM (h : Heap) (x dx C : Addr) (mA : Str → Option Value) : Prop where
  obj : h.get? x = some (PySem.W.instObj C dx)
  ns : h.Ns1 dx mA
  ne : dx ≠ x
theorem lookIn_ns {h : Heap} {dx : Addr} {mA : Str → Option Value} (n : h.Ns1 dx mA) : ∃ od, h.get? dx = some od ∧ ∀ name, PySem.W.lookIn name od = some (mA name) := by
  obtain ⟨o, es, ep, ho, hd, hk, _, hm⟩ := n
  refine ⟨o, ho, fun name => ?_⟩
  have e := hm name
  unfold nsFind findBy at e
  rw [← Array.find?_toList] at e
  unfold PySem.W.lookIn
  rw [hd]
  dsimp only
  split
  · rename_i y q
    rw [q] at e
    exact congrArg some e
  · rename_i q
    rw [q] at e
    have a : es.toList.any (·.refKey) = false := by
      rw [List.any_eq_false]
      intro y hy
      obtain ⟨z, t, hkey⟩ := hk y (Array.mem_toList_iff.mp hy)
      simp [DictEntry.refKey, hkey]
    have a' : ¬ es.toList.any (·.refKey) = true := by rw [a]; exact Bool.false_ne_true
    rw [if_neg a']
    exact congrArg some e
theorem ObjM.look {h : Heap} {x dx C : Addr} {mA : Str → Option Value} (I : ObjM h x dx C mA) : ∃ od, PySem.W.InstAt h x (PySem.W.instObj C dx) C (some od) ∧ ∀ name, PySem.W.lookIn name od = some (mA name) :=
  let ⟨od, ho, hl⟩ := lookIn_ns I.ns
  ⟨od, ⟨I.obj, rfl, rfl, ho⟩, hl⟩
section
variable {prog : Program} {w : World} {A : Around} {E : Value → Shared → Prop} {s : Shared} {K : PySem.W.Frag} {x dx C f : Addr} {mA : Str → Option Value} {name : Str} {v : Value}
end
/-! ### the attributes as a list of pairs -/
section
variable {P : Program} {w : World} {H H' : Hp} {h h' : Heap} {a C dx : Addr} {fs fs' : List (Str × V)}
theorem ins_get (hok : HOk P w H h) (e : H a = some (.ins C dx fs)) : ∃ mA, ObjM h a dx C mA ∧ (∀ f, RelO (fs.lookup f) (mA f)) ∧ PySem.Within mA (fs.map (·.1)) ∧ fs.length ≤ 1000 ∧ H dx = some (.own a) := by
  obtain ⟨d, z, ne, ob, mA, n, r, q⟩ := (show ObjOk P w H h a (.ins C dx fs) from hok a _ e)
  exact ⟨mA, ⟨ob, n, ne⟩, r, q, z, d⟩
end
/-! ### what of the text a class must have -/
structure Cls (K : PySem.W.Frag) (C : Addr) : Prop where
  pg : PySem.W.plainGet K C Str.empty = true
  hd : PySem.W.hasDictIn K C = true
  po : PySem.W.plainOver K C = true
  sa : PySem.W.findIn K (.ref C) "__setattr__" = some (some (.builtin "object.__setattr__"))
theorem Cls.get {K : PySem.W.Frag} {C : Addr} (c : Cls K C) (f : Str) : PySem.W.plainGet K C f = true := c.pg
section
variable {X : Cx} {pins : List (Addr × Obj)} {σ : St} {H : Hp} {s : Shared} {a C dx : Addr} {fs : List (Str × V)} {f : Str} {v : V} {A : Around} {E : Value → Shared → Prop}
end
/-! ### readings and rules -/
section
variable {X : Cx} {o e value : Expr} {f : Str} {pos pos' tpos : Pos} {ta tv : TE}
end
/-! ### isinstance -/
section
variable {X : Cx} {pins : List (Addr × Obj)} {σ : St} {H : Hp} {s : Shared} {A : Around} {E : Value → Shared → Prop} {Q : Value → Shared → Prop} {c : Value} {b : Bool}
/-- the type of a value, as the fragment's deciders take it; for an instance its class -/
inductive TyOf (K : PySem.W.Frag) (H : Hp) : V → Value → Prop where
  | non : TyOf K H .non (.type "NoneType")
  | bl (x : Bool) : TyOf K H (.bl x) (.type "bool")
  | int (i : Int) : TyOf K H (.int i) (.type "int")
  | str (x : Str) : TyOf K H (.str x) (.type "str")
  | flt (x : UInt64) : TyOf K H (.flt x) (.type "float")
  | lst {a : Addr} {xs : List V} (e : H a = some (.lst xs)) : TyOf K H (.ref a) (.type "list")
  | frz {a : Addr} {o : Obj} {xs : List V} (e : H a = some (.frz o (.lst xs))) : TyOf K H (.ref a) (.type "list")
  | tup {a : Addr} {xs : List V} (e : H a = some (.tup xs)) : TyOf K H (.ref a) (.type "tuple")
  | dK {a : Addr} {kvs : List (Key × V)} (e : H a = some (.dK kvs)) : TyOf K H (.ref a) (.type "dict")
  | dT {a : Addr} {kvs : List (List Key × V)} (e : H a = some (.dT kvs)) : TyOf K H (.ref a) (.type "dict")
  | ins {a C dx : Addr} {fs : List (Str × V)} (e : H a = some (.ins C dx fs)) (cl : Cls K C) (ha : PySem.W.findIn K (.ref C) "__class__" = some (some (.builtin "object.__class__")))
      (hn : PySem.W.specialIn K (.builtin "object.__class__") "__get__" = some (some (.builtin "getset_descriptor.__get__"))) (htk : PySem.W.takesIn K (.builtin "object.__class__") = some true)
      (hm : PySem.W.mroIn K C (.type "object") = some true) : TyOf K H (.ref a) (.ref C)
/-- isinstance(x, c) for one class c, a built-in or an own one: kitOne's answer -/
theorem isinst_ok {x : V} {u t : Value} (I : Inv X pins σ H s) (rx : RelV x u) (ty : TyOf X.K H x t) (e : PySem.W.kitOne X.K t c = some b) (h : ∀ tk, Q (.bool b) { s with toks := tk }) :
    wpAny (model X.prog X.w) A (call (.builtin "isinstance") [u, c]) Q E s := by
  cases ty with
  | non => cases (show u = Value.none from rx); exact PySem.W.kia_one PySem.W.kitx_none I.kIn True.intro e (fun z => nomatch z) h
  | bl y => cases (show u = Value.bool y from rx); exact PySem.W.kia_one PySem.W.kitx_bool I.kIn True.intro e (fun z => nomatch z) h
  | int i => obtain ⟨t, q⟩ := (show ∃ t, u = Value.int i t from rx); cases q; exact PySem.W.kia_one PySem.W.kitx_int I.kIn True.intro e (fun z => nomatch z) h
  | str y => obtain ⟨t, q⟩ := (show ∃ t, u = Value.str y t from rx); cases q; exact PySem.W.kia_one PySem.W.kitx_str I.kIn True.intro e (fun z => nomatch z) h
  | flt y => obtain ⟨t, q⟩ := (show ∃ t, u = Value.float y t from rx); cases q; exact PySem.W.kia_one PySem.W.kitx_float I.kIn True.intro e (fun z => nomatch z) h
  | @lst a xs ea =>
    cases (show u = Value.ref a from rx)
    obtain ⟨_, _, n, _, h1⟩ := (show ObjOk X.prog X.w H s.heap a (.lst xs) from I.hok a _ ea)
    exact PySem.W.kia_one PySem.W.kitx_list I.kIn ⟨_, h1, rfl⟩ e (fun z => nomatch z) h
  | @frz a ob xs ea =>
    cases (show u = Value.ref a from rx)
    obtain ⟨_, _, _, n, _, h1⟩ := (show ObjOk X.prog X.w H s.heap a (.frz ob (.lst xs)) from I.hok a _ ea)
    exact PySem.W.kia_one PySem.W.kitx_list I.kIn ⟨_, h1, rfl⟩ e (fun z => nomatch z) h
  | @tup a xs ea =>
    cases (show u = Value.ref a from rx)
    obtain ⟨_, _, _, p⟩ := (show ObjOk X.prog X.w H s.heap a (.tup xs) from I.hok a _ ea)
    obtain ⟨o, h1, h2, _⟩ := p
    exact PySem.W.kia_one PySem.W.kitx_tuple I.kIn ⟨o, h1, h2⟩ e (fun z => nomatch z) h
  | @dK a kvs ea =>
    cases (show u = Value.ref a from rx)
    obtain ⟨_, _, vs, _, p⟩ := (show ObjOk X.prog X.w H s.heap a (.dK kvs) from I.hok a _ ea)
    obtain ⟨o, es, ep, h1, h2, _⟩ := p
    exact PySem.W.kia_one PySem.W.kitx_dict I.kIn ⟨o, h1, h2.1⟩ e (fun z => nomatch z) h
  | @dT a kvs ea =>
    cases (show u = Value.ref a from rx)
    obtain ⟨_, _, xs, _, o, es, ep, h1, h2, _⟩ := (show ObjOk X.prog X.w H s.heap a (.dT kvs) from I.hok a _ ea)
    exact PySem.W.kia_one PySem.W.kitx_dict I.kIn ⟨o, h1, h2.1⟩ e (fun z => nomatch z) h
  | @ins a C dx fs ea cl ha hn htk hm =>
    cases (show u = Value.ref a from rx)
    obtain ⟨mA, O, _⟩ := ins_get I.hok ea
    obtain ⟨od, J, _⟩ := O.look
    exact PySem.W.kia_one (PySem.W.kitx_own (cl.get _) cl.hd ha hn htk hm) I.kIn J e (fun z => nomatch z) h
end
end L2
namespace L2
open PySem PySem.Spec PyProof.Rows
/-! ### room -/
structure Room (k : Nat) (A : Around) : Prop where
  hd : A.handled = none
  dp : A.depth + 3 * k + 5 < recursionLimit
  un : A.units + 16 * k + 200 < cLine
theorem Room.mono {j k : Nat} {A : Around} (r : Room k A) (h : j ≤ k) : Room j A := ⟨r.hd, by have := r.dp; omega, by have := r.un; omega⟩
theorem Room.deeper {k : Nat} {A : Around} (r : Room (k + 1) A) (env : Env) : Room k (A.deeper env) :=
  ⟨r.hd, by have := r.dp; show A.depth + 1 + 3 * k + 5 < _; omega, by have := r.un; show A.units + 3 + 16 * k + 200 < _; omega⟩
theorem Room.depth {k : Nat} {A : Around} (r : Room k A) : A.depth < recursionLimit := by have := r.dp; omega
/-! ### argument lists and displays -/
def tNil : TA := fun _ H Q => Q [] H
def tCons (ta : TE) (tr : TA) : TA := fun σ H Q => ta σ H fun x H1 => tr σ H1 fun xs H2 => Q (x :: xs) H2
section
variable {X : Cx} {e : Expr} {es : List Expr} {te : TE} {t : TA} {pos : Pos}
theorem pa_nil : PA X [] tNil := fun _ _ _ _ H Q I h => Calls.spliced_nil ⟨[], H, I, .nil, h⟩
theorem pa_cons (ha : PE X e te) (hr : PA X es t) (hs : starEach (e :: es) X.env = (false, eval e X.env) :: starEach es X.env := by rfl) : PA X (e :: es) (tCons te t) := by
  intro pos pins s σ H Q I h
  rw [hs]
  show wpAny _ _ (spliced ((false, eval e X.env) :: backTo pos (starEach es X.env))) _ _ s
  refine Calls.spliced_cons (thn (ha pins s σ H _ I h) fun u s1 ⟨x, H1, I1, r1, q1⟩ => ?_)
  exact thn (hr pos pins s1 σ H1 _ I1 q1) fun us s2 ⟨xs, H2, I2, r2, q2⟩ => ⟨x :: xs, H2, I2, .cons r1 r2, q2⟩
/-- a tuple, a list of written items -/
def tTup (t : TA) : TE := fun σ H Q => t σ H fun xs H1 => xs.length ≤ sizeLine ∧ ∀ p, H1 p = none → Q (.ref p) (upd H1 p (.tup xs))
def tLst (t : TA) : TE := fun σ H Q => t σ H fun xs H1 => xs.length ≤ sizeLine ∧ ∀ p, H1 p = none → Q (.ref p) (upd H1 p (.lst xs))
theorem pe_tup {x1} (h : PA X es t) : PE X (.Tuple es x1 pos) (tTup t) := by
  intro pins s σ H Q I hq
  refine wpAny_Tuple_spliced (thn (h pos pins s σ H _ I hq) fun us s1 ⟨xs, H1, I1, r, z, q⟩ => ⟨by rw [← r.length]; exact z, ?_⟩)
  have hf : H1 s1.heap.objs.size = none := I1.hok.fresh (Nat.le_refl _)
  refine ⟨.ref s1.heap.objs.size, upd H1 s1.heap.objs.size (.tup xs), I1.laid (t' := s1.toks) (fun b u e => Heap.get?_push_of_some _ e) (Nat.le_refl _) ?_, rfl, q _ hf⟩
  exact ⟨z, us, r, ⟨_, Heap.get?_push_size _ rfl, rfl, _, rfl⟩⟩
theorem pe_lst (h : PA X es t) : PE X (.List es pos) (tLst t) := by
  intro pins s σ H Q I hq
  refine wpAny_List_spliced (thn (h pos pins s σ H _ I hq) fun us s1 ⟨xs, H1, I1, r, z, q⟩ => ⟨by rw [← r.length]; exact z, ?_⟩)
  have hf : H1 s1.heap.objs.size = none := I1.hok.fresh (Nat.le_refl _)
  refine ⟨.ref s1.heap.objs.size, upd H1 s1.heap.objs.size (.lst xs), I1.laid (t' := s1.toks) (fun b u e => Heap.get?_push_of_some _ e) (Nat.le_refl _) ?_, rfl, q _ hf⟩
  exact ⟨z, us, 0, r, Heap.get?_push_size _ rfl⟩
end
/-! ### what a def promises -/
/-- a def's promise: the bound arguments in the parameters' order, the heap, the wanted end, the wanted exception -/
abbrev Sp := List V → Hp → VK → XK → Prop
/-- how an exception lies behind a call (file 08 gives it): the callers' frames, abstract heap and state ahead of the call, the wish, the exception, the state -/
abbrev CXT := List Env → Hp → Shared → XK → Value → Shared → Prop
/-- the state at a call -/
structure Env0 (P : Program) (w : World) (K : PySem.W.Frag) (mg : Str → Option Value) (base : Heap) (A : Around) (outer : List Env) (s : Shared) (H : Hp) : Prop where
  frames : A.frames = some outer
  mod : Mod K mg base
  bs : ∀ b o, base.get? b = some o → s.heap.get? b = some o ∧ H b = none
  bsz : base.objs.size ≤ s.heap.objs.size
  funs : s.heap.FunFrames base outer
  frf : ∀ b ∈ frs outer, H b = none
  hok : HOk P w H s.heap
  bare : AllBare s.gens
/-- a call's end -/
def CE (outer : List Env) (P : Program) (w : World) (H : Hp) (s : Shared) (Q : VK) (u : Value) (s' : Shared) : Prop :=
  ∃ v H', s'.os = s.os ∧ AllBare s'.gens ∧ Un (frs outer) [] H H' s.heap s'.heap ∧ HOk P w H' s'.heap ∧ RelV v u ∧ Q v H'
def CR (CX : CXT) (outer : List Env) (P : Program) (w : World) (H : Hp) (s : Shared) (Q : VK) (E : XK) (r : Result) (s' : Shared) : Prop :=
  match r with
  | .ok (.ret u) => CE outer P w H s Q u s'
  | .ok _ => False
  | .error e => CX outer H s E e s'
structure FnOk (P : Program) (w : World) (K : PySem.W.Frag) (mg : Str → Option Value) (base : Heap) (CX : CXT) (k : Nat) (f : Addr) (fd : FuncData) (ps : List Str) (sp : Sp) : Prop where
  len : ∀ vs H Q E, sp vs H Q E → vs.length = ps.length
  run : ∀ (A : Around) (outer : List Env) (s : Shared) (H : Hp) (args : Args) (us : List Value) (vs : List V) (Q : VK) (E : XK), Room k A → Env0 P w K mg base A outer s H → BindsTo s fd args (ps.zip us) → Vals vs us → sp vs H Q E →
    codeAny (model P w) A (.call (.ref f) args) (CR CX outer P w H s Q E) s
theorem FnOk.mono {P : Program} {w : World} {K : PySem.W.Frag} {mg : Str → Option Value} {base : Heap} {CX : CXT} {j k : Nat} {f : Addr} {fd : FuncData} {ps : List Str} {sp : Sp} (F : FnOk P w K mg base CX j f fd ps sp) (h : j ≤ k) :
    FnOk P w K mg base CX k f fd ps sp := ⟨F.len, fun A outer s H args us vs Q E hr => F.run A outer s H args us vs Q E (hr.mono h)⟩
section
variable {X : Cx} {pins : List (Addr × Obj)} {σ : St} {H : Hp} {s s' : Shared}
/-- from a body: what a callee wants -/
theorem Inv.env0 (I : Inv X pins σ H s) : Env0 X.prog X.w X.K X.mg X.base X.A X.stack s H :=
  ⟨I.ok.frames, I.ok.mod, I.bs, Nat.le_trans I.ok.bsz I.sz, I.stack, I.stkFree, I.hok, I.bare⟩
/-- behind a call -/
theorem Inv.after {Q : VK} {u : Value} (I : Inv X pins σ H s) (h : CE X.stack X.prog X.w H s Q u s') : EP X pins σ Q u s' := by
  obtain ⟨v, H', os, bare, un, hok, r, q⟩ := h
  obtain ⟨hh, g, d, t, os'⟩ := s'
  obtain rfl : os' = s.os := os
  exact ⟨v, H', I.call (h' := hh) (g' := g) (d' := d) (t' := t) (ch := []) un hok bare (fun b z => absurd z (by simp)), r, q⟩
end
/-! ### calls -/
/-- f(..): the written arguments, then the defaults dvs; E: what is wanted of an exception -/
def tCall (sp : Sp) (dvs : List V) (E : XK) (t : TA) : TE := fun σ H Q => t σ H fun vs H1 => sp (vs ++ dvs) H1 Q E
/-- how the parameters are bound: us the positional arguments, kw the keywords' values by name, ds the defaults that fill up -/
def Binds (K : PySem.W.Frag) (fd : FuncData) (ps : List Str) (ds : List Value) : Prop :=
  ∀ (s : Shared) (us : List Value), K.In s.heap → (us ++ ds).length = ps.length → BindsTo s fd ⟨us, []⟩ (ps.zip (us ++ ds))
/-- every parameter is given -/
theorem Binds.all {K : PySem.W.Frag} {fd : FuncData} {ps : List Str} (h : ∀ us : List Value, us.length = ps.length → bindArgs fd ⟨us, []⟩ = pure (ps.zip us)) : Binds K fd ps [] := fun s us _ hl => by
  rw [List.append_nil] at hl ⊢
  exact .of_eq (h us hl)
/-- an exception of a callee reaches what this body wants of exceptions -/
def Passes (CX : CXT) (X : Cx) (E : XK) : Prop := ∀ (pins : List (Addr × Obj)) (σ : St) (H : Hp) (s : Shared) (e : Value) (s' : Shared), Inv X pins σ H s → CX X.stack H s E e s' → X.xe e s'
section
variable {X : Cx} {CX : CXT} {k : Nat} {f C : Addr} {fd : FuncData} {ps : List Str} {sp : Sp} {dvs : List V} {ds : List Value} {E : XK} {x m : Str} {p pos apos : Pos} {e o : Expr} {es : List Expr} {ta : TE} {t : TA}
/-- the callee runs -/
theorem run_fn {pins : List (Addr × Obj)} {σ : St} {H : Hp} {s : Shared} {Q : VK} {us : List Value} {vs : List V} (F : FnOk X.prog X.w X.K X.mg X.base CX k f fd ps sp) (hr : Room k X.A) (hb : Binds X.K fd ps ds) (hd : Vals dvs ds) (hx : Passes CX X E)
    (I : Inv X pins σ H s) (r : Vals vs us) (h : sp (vs ++ dvs) H Q E) : wpAny (model X.prog X.w) X.A (call (.ref f) us) (EP X pins σ Q) X.xe s := by
  have r2 : Vals (vs ++ dvs) (us ++ ds) := r.append hd
  have hl : (us ++ ds).length = ps.length := by rw [← r2.length]; exact F.len _ _ _ _ h
  refine wpAny_call (codeAny_mono (F.run X.A X.stack s H ⟨us, []⟩ (us ++ ds) (vs ++ dvs) Q E hr I.env0 (hb s us I.kIn hl) r2 h) fun r s' hq => ?_)
  cases r with
  | error e => exact hx pins σ H s e s' I hq
  | ok fl =>
    cases fl with
    | ret u => exact I.after hq
    | next => exact False.elim hq
    | brk => exact False.elim hq
    | cont => exact False.elim hq
theorem pe_call (F : FnOk X.prog X.w X.K X.mg X.base CX k f fd ps sp) (hr : Room k X.A) (hg : Gl X x) (hm : X.mg x = some (.ref f)) (hk : PySem.W.keepIn X.K (.ref f) = true) (hb : Binds X.K fd ps ds) (hd : Vals dvs ds) (hx : Passes CX X E)
    (ha : PA X (e :: es) t) (hdb : (x == ("__debug__" : Str)) = false := by decide) (he : starEach (e :: es) X.env = (false, eval e X.env) :: starEach es X.env := by rfl) (hpl : (backTo pos (starEach es X.env)).any (·.1) = false := by rfl) :
    PE X (.Call (.Name x p) (e :: es) [] pos) (tCall sp dvs E t) := by
  intro pins s σ H Q I h
  refine wpAny_Call_Name_kw (ld_glob I hg hm ?_ hdb)
  refine PySem.W.callWith_K (h₀ := X.base) I.ok.mod.kin hk (thn (ha pos pins s σ H _ I h) fun us s1 ⟨vs, H1, I1, r, q⟩ => ⟨I1.kIn, ?_⟩) he hpl
  exact run_fn F hr hb hd hx I1 r q
theorem pe_call0 (F : FnOk X.prog X.w X.K X.mg X.base CX k f fd ps sp) (hr : Room k X.A) (hg : Gl X x) (hm : X.mg x = some (.ref f)) (hk : PySem.W.keepIn X.K (.ref f) = true) (hb : Binds X.K fd ps ds) (hd : Vals dvs ds) (hx : Passes CX X E)
    (hdb : (x == ("__debug__" : Str)) = false := by decide) : PE X (.Call (.Name x p) [] [] pos) (tCall sp dvs E tNil) := by
  intro pins s σ H Q I h
  refine wpAny_Call_Name_kw (ld_glob I hg hm ?_ hdb)
  exact PySem.W.callWith_K0 I.kIn hk (run_fn (us := []) F hr hb hd hx I .nil h)
end
/-! ### keywords -/
section
variable {X : Cx} {CX : CXT} {k : Nat} {f C : Addr} {fd : FuncData} {ps ks : List Str} {sp : Sp} {E : XK} {x m : Str} {p pos apos kpos : Pos} {e o : Expr} {es : List Expr} {kws : List Keyword} {te ta : TE} {t tk : TA} {nm : Option Str}
variable {g : List Value → List Value → List Value} {gV : List V → List V → List V}
end
/-! ### a def's body keeps its promise -/
/-- names: the parameters first -/
structure FnScope (N P : List Str) (sc : Scope) : Prop where
  kind : sc.kind = .function
  co : sc.isCoroutine = false
  gen : sc.isGenerator = false
  nd : N.Nodup
  pre : N.take P.length = P
  par : ∀ x ∈ P, sc.names.lookup x = some .local ∨ sc.names.lookup x = some .cell
  nofree : ∀ y ∈ sc.names, y.2 ≠ .free
theorem bindL_out {kindOf : Str → Option NameKind} {x : Str} : ∀ {binds : List (Str × Value)} {m : Str → Option Value}, (∀ v, (x, v) ∉ binds) → bindL kindOf binds m x = m x
  | [], _, _ => rfl
  | (n, v) :: r, m, h => by
    unfold bindL
    rw [bindL_out fun w hw => h w (List.mem_cons_of_mem _ hw)]
    split
    · have : x ≠ n := by rintro rfl; exact h v List.mem_cons_self
      simp [this]
    · rfl
theorem bindC_out {kindOf : Str → Option NameKind} {x : Str} : ∀ {binds : List (Str × Value)} {m : Str → Option Value}, (∀ v, (x, v) ∉ binds) → bindC kindOf binds m x = m x
  | [], _, _ => rfl
  | (n, v) :: r, m, h => by
    unfold bindC
    rw [bindC_out fun w hw => h w (List.mem_cons_of_mem _ hw)]
    split
    · rfl
    · have : x ≠ n := by rintro rfl; exact h v List.mem_cons_self
      simp [this]
theorem bindL_get {kindOf : Str → Option NameKind} {x : Str} {v : Value} : ∀ {P : List Str} {vs : List Value} {i : Nat} {m : Str → Option Value}, P.Nodup → P[i]? = some x → vs[i]? = some v → kindOf x = some .local →
    bindL kindOf (P.zip vs) m x = some v
  | [], _, _, _, _, h, _, _ => by simp at h
  | _ :: _, [], _, _, _, _, h, _ => by simp at h
  | p :: P, w :: vs, 0, m, nd, h1, h2, hk => by
    simp at h1 h2; subst h1; subst h2
    show bindL kindOf ((p, w) :: P.zip vs) m p = _
    unfold bindL
    rw [bindL_out fun v hv => (List.nodup_cons.mp nd).1 (List.of_mem_zip hv).1, if_pos hk]
    simp
  | p :: P, w :: vs, i + 1, m, nd, h1, h2, hk => by
    show bindL kindOf ((p, w) :: P.zip vs) m x = _
    unfold bindL
    exact bindL_get (i := i) (List.nodup_cons.mp nd).2 (by simpa using h1) (by simpa using h2) hk
theorem bindC_get {kindOf : Str → Option NameKind} {x : Str} {v : Value} : ∀ {P : List Str} {vs : List Value} {i : Nat} {m : Str → Option Value}, P.Nodup → P[i]? = some x → vs[i]? = some v → kindOf x ≠ some .local →
    bindC kindOf (P.zip vs) m x = some v
  | [], _, _, _, _, h, _, _ => by simp at h
  | _ :: _, [], _, _, _, _, h, _ => by simp at h
  | p :: P, w :: vs, 0, m, nd, h1, h2, hk => by
    simp at h1 h2; subst h1; subst h2
    show bindC kindOf ((p, w) :: P.zip vs) m p = _
    unfold bindC
    rw [bindC_out fun v hv => (List.nodup_cons.mp nd).1 (List.of_mem_zip hv).1, if_neg hk]
    simp
  | p :: P, w :: vs, i + 1, m, nd, h1, h2, hk => by
    show bindC kindOf ((p, w) :: P.zip vs) m x = _
    unfold bindC
    exact bindC_get (i := i) (List.nodup_cons.mp nd).2 (by simpa using h1) (by simpa using h2) hk
/-- the names' values at the entry -/
def start (N : List Str) (vs : List V) : St := vs.map some ++ List.replicate (N.length - vs.length) none
/-- the context of a def's body, at its entry; an exception leaves the frame, then lies as CX says -/
def cxOf (CX : CXT) (P : Program) (w : World) (K : PySem.W.Frag) (mg : Str → Option Value) (base : Heap) (N : List Str) (qual : Str) (scope : Scope) (f : Addr) (cd : Value) (A : Around) (outer : List Env) (s : Shared) (H : Hp) (E : XK) : Cx where
  prog := P
  w := w
  K := K
  mg := mg
  base := base
  A := A.deeper (envOfC qual scope s.heap.objs.size f cd)
  N := N
  s₀ := s
  H₀ := H
  env := envOfC qual scope s.heap.objs.size f cd
  outer := outer
  stack := envOfC qual scope s.heap.objs.size f cd :: outer
  ex := []
  calm := true
  fn := fun _ => true
  pn := []
  xe := fun e s' => wpAny (model P w) (A.deeper (envOfC qual scope s.heap.objs.size f cd)) (leaving (envOfC qual scope s.heap.objs.size f cd) e) (fun _ s'' => CX outer H s E e s'') (fun e' s'' => CX outer H s E e' s'') s'
theorem cell_has {sc : Scope} {n : Nat} {x : Str} (h : sc.names.lookup x = some .cell) : ∃ c, (cellsFrom n sc.names []).lookup x = some c := by
  have q := PySem.W.cellsFrom_some sc.names n [] (.inl h)
  exact Option.isSome_iff_exists.mp q
theorem inv_start {CX : CXT} {P : Program} {w : World} {K : PySem.W.Frag} {mg : Str → Option Value} {base : Heap} {N ps : List Str} {qual : Str} {scope : Scope} {f : Addr} {cd : Value} {A : Around} {outer : List Env} {s s1 : Shared} {H : Hp} {E : XK} {us : List Value} {vs : List V}
    (S : FnScope N ps scope) (hd : A.handled = none) (e0 : Env0 P w K mg base A outer s H) (hl : vs.length = ps.length) (r : Vals vs us)
    (x : InCallC s s.heap.objs.size (bindL (envOfC qual scope s.heap.objs.size f cd).kindOf (ps.zip us) fun _ => none) (cellsFrom (s.heap.objs.size + 1) scope.names []) (bindC (envOfC qual scope s.heap.objs.size f cd).kindOf (ps.zip us) fun _ => none) s1) :
    Inv (cxOf CX P w K mg base N qual scope f cd A outer s H E) [] (start N vs) H s1 := by
  have hpl : ps.length ≤ N.length := by have := congrArg List.length S.pre; rw [List.length_take] at this; omega
  obtain ⟨h1, tk, rfl, hk⟩ := x.done
  have noA : ∀ b : Addr, b ∉ (cxOf CX P w K mg base N qual scope f cd A outer s H E).ex := fun b z => absurd (show b ∈ ([] : List Addr) from z) (by simp)
  refine ⟨⟨e0.mod, S.kind, rfl, rfl, Nat.le_refl _, fun y z c h1 h2 => ?_, fun y hy => ?_, fun y c _ h => ?_, fun _ => hd, Around.frames_deeper e0.frames, .inr ⟨rfl, rfl⟩, fun b z => absurd z (noA b), e0.bs, e0.bsz, fun b _ _ => noA b, fun b z => absurd z (noA b), e0.funs, e0.frf⟩,
    rfl, e0.bare, Un.kept hk, ⟨_, x.toInCall.ns, fun i y v h1 h2 h3 => ?_⟩, fun y c h => ⟨_, x.cell y c h⟩, e0.hok.fresh (Nat.le_refl _), fun y c h => ?_, fun p hp => absurd (show p ∈ ([] : List (Addr × Obj)) from hp) (by simp), e0.hok.kept hk, ?_⟩
  · exact name_of_addr x.apart (PySem.mem_of_lookup h1) (PySem.mem_of_lookup h2)
  · have hy : scope.names.lookup y = some .cell ∨ scope.names.lookup y = some .free := hy
    rcases hy with hy | hy
    · exact cell_has hy
    · exact absurd rfl (S.nofree _ (PySem.mem_of_lookup hy))
  · exact Nat.le_of_lt (x.above y c (PySem.mem_of_lookup h))
  · have hi : i < vs.length := by
      unfold start at h2
      by_cases hi : i < vs.length
      · exact hi
      · rw [List.getElem?_append_right (by simpa using hi)] at h2
        rw [List.getElem?_replicate] at h2
        split at h2 <;> cases h2
    have ha : vs[i]? = some v := by
      unfold start at h2
      rw [List.getElem?_append_left (by simpa using hi), List.getElem?_map] at h2
      cases e : vs[i]? with
      | none => rw [e] at h2; cases h2
      | some a => rw [e] at h2; cases h2; rfl
    obtain ⟨u, hu, rv⟩ := r.get ha
    have hp : ps[i]? = some y := by
      rw [← S.pre, List.getElem?_take_of_lt (by omega)]; exact h1
    have ndP : ps.Nodup := by rw [← S.pre]; exact S.nd.sublist (List.take_sublist _ _)
    refine ⟨u, rv, ?_⟩
    rcases S.par y (List.mem_of_getElem? hp) with k | k
    · exact .inl ⟨k, bindL_get ndP hp hu k⟩
    · obtain ⟨c, e⟩ := cell_has (n := s.heap.objs.size + 1) k
      refine .inr ⟨.inl k, c, e, ?_⟩
      have q := x.cell y c e
      rw [bindC_get ndP hp hu (by show scope.names.lookup y ≠ _; rw [k]; decide)] at q
      exact q
  · exact e0.hok.fresh (Nat.le_of_lt (x.above y c (PySem.mem_of_lookup h)))
  · unfold start
    show _ = N.length
    rw [List.length_append, List.length_map, List.length_replicate]
    omega
/-- THE RULE: a def (or a method) of the text, by its body. The body's reading t is chosen for each entry; it is run at the parameters' values -/
theorem fn_of {CX : CXT} {P : Program} {w : World} {K : PySem.W.Frag} {mg : Str → Option Value} {base : Heap} {k : Nat} {f : Addr} {name qual : Str} {params : Arguments} {body : List Stmt} {scope : Scope} {dV kV doc pm cdv ct oc : Value} {an od : Option Addr}
    {osl : Array (Option Value)} {N ps : List Str} {sp : Sp} (lk : K.lookup f = some ⟨oc, od, .func (PySem.W.fnOf name qual params body scope dV kV doc pm an cdv ct), osl⟩) (hcd : PySem.W.codeIn K cdv qual = true) (S : FnScope N ps scope)
    (len : ∀ vs H Q E, sp vs H Q E → vs.length = ps.length)
    (hbody : ∀ (A : Around) (outer : List Env) (s : Shared) (H : Hp) (vs : List V) (Q : VK) (E : XK), Room k (A.deeper (envOfC qual scope s.heap.objs.size f cdv)) → sp vs H Q E →
      ∃ t, PSs (cxOf CX P w K mg base N qual scope f cdv A outer s H E) body t ∧ t { nx := fun _ H' => Q .non H', rt := Q } (start N vs) H) :
    FnOk P w K mg base CX (k + 1) f (PySem.W.fnOf name qual params body scope dV kV doc pm an cdv ct) ps sp := by
  refine ⟨len, fun A outer s H args us vs Q E hr e0 hb r hsp => ?_⟩
  have hl := len _ _ _ _ hsp
  have KX : K.In s.heap := e0.mod.kin.keeps fun b o e => (e0.bs b o e).1
  have lim : s.heap.NoLimit := e0.mod.nolimit.keeps fun b o e => (e0.bs b o e).1
  have hkind : ∀ y ∈ ps.zip us, scope.names.lookup y.1 = some .local ∨ (scope.names.lookup y.1 = some .cell ∧ ((cellsFrom (s.heap.objs.size + 1) scope.names []).lookup y.1).isSome = true) := fun ⟨n, v⟩ hy => by
    rcases S.par n (List.of_mem_zip hy).1 with q | q
    · exact .inl q
    · exact .inr ⟨q, PySem.W.cellsFrom_some _ _ _ (.inl q)⟩
  refine codeAny_call_function hr.depth (KX _ _ lk) rfl S.co S.gen rfl (PySem.W.codeRec_of KX hcd) (hb _ _ _ _ ?_)
  refine wpAny_newFunctionEnv_cells S.kind hkind fun env he s1 x => ?_
  subst he
  refine ⟨lim.keeps x.toInCall.keep, codeAny_func ?_⟩
  obtain ⟨t, ht, hq⟩ := hbody A outer s H vs Q E (hr.deeper _) hsp
  have I : Inv (cxOf CX P w K mg base N qual scope f cdv A outer s H E) [] (start N vs) H s1 := inv_start S hr.hd e0 hl r x
  refine wpAny_mono (ht [] s1 (start N vs) H _ I hq) (fun fl s' hs => ?_) fun e s' hs => hs
  have fin : ∀ {σ' : St} {H' : Hp} {v : V} {u : Value}, Inv (cxOf CX P w K mg base N qual scope f cdv A outer s H E) [] σ' H' s' → RelV v u → Q v H' → CE outer P w H s Q u s' :=
    fun {σ' H' v u} J rv q => ⟨v, H', J.os, J.bare, J.base, J.hok, rv, q⟩
  cases fl with
  | ret u =>
    obtain ⟨v, σ', H', J, rv, q⟩ := hs
    exact fin J rv q
  | next =>
    obtain ⟨σ', H', J, q⟩ := hs
    exact fin (v := V.non) (u := Value.none) J rfl q
  | brk =>
    obtain ⟨_, _, _, q⟩ := hs
    exact False.elim q
  | cont =>
    obtain ⟨_, _, _, q⟩ := hs
    exact False.elim q
end L2
namespace L2
open PySem PySem.Spec PyProof.Rows
section
variable {X : Cx} {x : Str} {p pos : Pos} {e : Expr} {es : List Expr} {t : TA} {id T : String} {r : List V → Hp → VK → Prop}
def tCB (r : List V → Hp → VK → Prop) (t : TA) : TE := fun σ H Q => t σ H fun vs H1 => r vs H1 Q
/-- f(e, ..), f a built-in function -/
theorem pe_callB (hc : CallR X (.builtin id) r) (hg : Gl X x) (hm : X.mg x = none) (hv : bootBuiltins x = some (.builtin id)) (ha : PA X (e :: es) t) (hn : x ≠ "__name__" := by decide) (hdb : (x == ("__debug__" : Str)) = false := by decide)
    (he : starEach (e :: es) X.env = (false, eval e X.env) :: starEach es X.env := by rfl) (hpl : (backTo pos (starEach es X.env)).any (·.1) = false := by rfl) : PE X (.Call (.Name x p) (e :: es) [] pos) (tCB r t) := by
  intro pins s σ H Q I h
  refine wpAny_Call_Name_kw (ld_blt I hg hm hv ?_ hn hdb)
  exact PyProof.Rows.callWith_builtin1 (thn (ha pos pins s σ H _ I h) fun us s1 ⟨vs, H1, I1, r1, q1⟩ => hc pins s1 σ H1 vs us Q I1 r1 q1) he hpl
/-- T(e, ..), T a built-in type -/
theorem pe_callTy (hc : CallR X (.type T) r) (hg : Gl X x) (hm : X.mg x = none) (hv : bootBuiltins x = some (.type T)) (ha : PA X (e :: es) t) (hn : x ≠ "__name__" := by decide) (hdb : (x == ("__debug__" : Str)) = false := by decide)
    (he : starEach (e :: es) X.env = (false, eval e X.env) :: starEach es X.env := by rfl) (hpl : (backTo pos (starEach es X.env)).any (·.1) = false := by rfl) : PE X (.Call (.Name x p) (e :: es) [] pos) (tCB r t) := by
  intro pins s σ H Q I h
  refine wpAny_Call_Name_kw (ld_blt I hg hm hv ?_ hn hdb)
  exact PyProof.Rows.callWith_type1 (thn (ha pos pins s σ H _ I h) fun us s1 ⟨vs, H1, I1, r1, q1⟩ => hc pins s1 σ H1 vs us Q I1 r1 q1) he hpl
end
end L2
namespace HT
open PySem PyProof.Rows
section
open PySem.SeqAt
open PySem.AutoSeq1 (wpAny_loadPart')
open PySem.MeetsSeq PySem.MeetsSeq2 PySem.MeetsSeq3
end
section
variable {prog : Program} {w : World} {A : Around} {E : Value → Shared → Prop} {s : Shared}
/-! ### t[a:b], not the whole -/
/-- a slice's bound as a place among n (d where it is left out) -/
def sIx (n d : Nat) : Option Int → Nat
  | none => d
  | some v => if v < 0 then (v + (n : Int)).toNat else min v.toNat n
theorem sIx_none (n d : Nat) : sIx n d none = d := rfl
theorem sIx_nat (n d k : Nat) : sIx n d (some (k : Int)) = min k n := by
  show (if (k : Int) < 0 then ((k : Int) + (n : Int)).toNat else min (k : Int).toNat n) = min k n
  rw [if_neg (by omega), Int.toNat_natCast]
end
end HT
namespace L2
open PySem PySem.Spec PyProof.Rows
/-! ### the parts of a slice -/
abbrev TO := St → Hp → (Option Int → Hp → Prop) → Prop
/-- a slice's part (left out, or an int) -/
def PO (X : Cx) (e : Option Expr) (t : TO) : Prop :=
  ∀ (pins : List (Addr × Obj)) (s : Shared) (σ : St) (H : Hp) (Q : Option Int → Hp → Prop), Inv X pins σ H s → t σ H Q →
    wpAny (model X.prog X.w) X.A (evalPart e X.env) (fun u s' => ∃ o H', Inv X pins σ H' s' ∧ IsPart u o ∧ Q o H') X.xe s
def tNoPart : TO := fun _ H Q => Q none H
def tPart (t : TE) : TO := fun σ H Q => t σ H fun x H1 => ∃ i, x = .int i ∧ Q (some i) H1
section
variable {X : Cx} {e : Expr} {te : TE} {lo hi : Option Expr} {tl th : TO} {pos p2 : Pos}
theorem po_none : PO X none tNoPart := by
  intro pins s σ H Q I h
  rw [evalPart_none]
  exact wpAny_pure ⟨none, H, I, .none, h⟩
theorem po_some (h : PE X e te) : PO X (some e) (tPart te) := by
  intro pins s σ H Q I hw
  rw [evalPart_some]
  refine thn (h pins s σ H _ I hw) fun u s1 ⟨x, H1, I1, r1, q1⟩ => ?_
  obtain ⟨i, rfl, q⟩ := q1
  obtain ⟨t, rfl⟩ := r1
  exact ⟨some i, H1, I1, .int i t, q⟩
/-- what a slice of a value is, by values: the slice object stands at sl -/
def SlR (X : Cx) (r : V → Option Int → Option Int → Hp → VK → Prop) : Prop :=
  ∀ (pins : List (Addr × Obj)) (s : Shared) (σ : St) (H : Hp) (x : V) (v vl vu : Value) (lo hi : Option Int) (sl : Addr) (Q : VK), Inv X pins σ H s → RelV x v → s.heap.IsSliceOf sl vl vu .none → IsPart vl lo → IsPart vu hi → r x lo hi H Q →
    ∃ T id, typeLookup (.type T) "__getitem__" = pure (some (.builtin id)) ∧ s.TypeIs v T ∧ wpAny (model X.prog X.w) X.A (getItem v (.ref sl)) (EP X pins σ Q) X.xe s
def tSl (r : V → Option Int → Option Int → Hp → VK → Prop) (te : TE) (tl th : TO) : TE := fun σ H Q => te σ H fun x H1 => tl σ H1 fun l H2 => th σ H2 fun u H3 => r x l u H3 Q
/-- a[lo:hi], any a -/
theorem pe_slice {r : V → Option Int → Option Int → Hp → VK → Prop} (hr : SlR X r) (he : PE X e te) (hl : PO X lo tl) (hu : PO X hi th) : PE X (.Subscript e (.Slice lo hi none p2) pos) (tSl r te tl th) := by
  intro pins s σ H Q I h
  refine Subscript_ (thn (he pins s σ H _ I h) fun v s1 ⟨x, H1, I1, r1, q1⟩ => ?_)
  refine wpAny_Slice (thn (hl pins s1 σ H1 _ I1 q1) fun vl s2 ⟨l, H2, I2, pl, q2⟩ => thn (hu pins s2 σ H2 _ I2 q2) fun vu s3 ⟨u, H3, I3, pu, q3⟩ => ?_)
  rw [evalPart_none]
  refine wpAny_pure ?_
  have I4 : Inv X pins σ H3 { s3 with heap := s3.heap.push { cls := .type "slice", data := .fields #[vl, vu, .none] } } := I3.kept (t' := s3.toks) fun b ob q => Heap.get?_push_of_some _ q
  obtain ⟨T, id, hT, ht, hg⟩ := hr pins { s3 with heap := s3.heap.push { cls := .type "slice", data := .fields #[vl, vu, .none] } } σ H3 x v vl vu l u s3.heap.objs.size Q I4 r1 (Heap.IsSliceOf.new ..) pl pu q3
  show wpAny (model X.prog X.w) X.A (subscriptTail e (.Slice lo hi none p2) v (.ref s3.heap.objs.size)) (EP X pins σ Q) X.xe { s3 with heap := s3.heap.push { cls := .type "slice", data := .fields #[vl, vu, .none] } }
  exact tail_any (ops := [.ref s3.heap.objs.size, v]) ht hT hg (by with_unfolding_all rfl)
/-- the items of xs[lo:hi] -/
def cutV (xs : List V) (lo hi : Option Int) : List V := (xs.drop (HT.sIx xs.length 0 lo)).take (HT.sIx xs.length xs.length hi - HT.sIx xs.length 0 lo)
theorem cutV_length (xs : List V) (lo hi : Option Int) : (cutV xs lo hi).length ≤ xs.length := by
  unfold cutV
  rw [List.length_take, List.length_drop]
  omega
/-! ### t < u, t + u -/
end
end L2
namespace L2
open PySem PySem.Spec PyProof.Rows
/-! ### places -/
/-- the place that an index of any sign means -/
def ixN (n : Nat) (i : Int) : Option Nat := if 0 ≤ i then (if i < n then some i.toNat else none) else if -(n : Int) ≤ i then some (i + n).toNat else none
def atI {α : Type} (xs : List α) (i : Int) : Option α := (ixN xs.length i).bind fun j => xs[j]?
theorem ixN_seq {n : Nat} {i : Int} {j : Nat} (h : ixN n i = some j) : seqIndex? i n = some j ∧ j < n ∧ -(n : Int) ≤ i ∧ i < n := by
  unfold ixN at h
  by_cases h0 : 0 ≤ i
  · rw [if_pos h0] at h
    by_cases h1 : i < n
    · rw [if_pos h1] at h
      have e : i.toNat = j := Option.some.inj h
      exact ⟨by rw [seqIndex_of h0 h1, e], by omega, by omega, h1⟩
    · rw [if_neg h1] at h; cases h
  · rw [if_neg h0] at h
    by_cases h1 : -(n : Int) ≤ i
    · rw [if_pos h1] at h
      have e : (i + n).toNat = j := Option.some.inj h
      exact ⟨by rw [seqIndex_neg (by omega) h1, e], by omega, h1, by omega⟩
    · rw [if_neg h1] at h; cases h
theorem atI_get {α : Type} {xs : List α} {i : Int} {v : α} (h : atI xs i = some v) : ∃ j, seqIndex? i xs.length = some j ∧ xs[j]? = some v ∧ j < xs.length ∧ -(xs.length : Int) ≤ i ∧ i < xs.length := by
  unfold atI at h
  cases e : ixN xs.length i with
  | none => rw [e] at h; cases h
  | some j =>
    rw [e] at h
    obtain ⟨h1, h2, h3, h4⟩ := ixN_seq e
    exact ⟨j, h1, h, h2, h3, h4⟩
theorem atI_nat {α : Type} {xs : List α} {j : Nat} {v : α} (h : xs[j]? = some v) : atI xs (j : Int) = some v := by
  have hj : j < xs.length := (List.getElem?_eq_some_iff.mp h).1
  have e : ixN xs.length (j : Int) = some j := by
    unfold ixN
    rw [if_pos (by omega), if_pos (by omega)]; simp
  unfold atI; rw [e]; exact h
/-! ### what may be subscripted -/
/-- what stands as an index of a plain subscript -/
def PlainIx (b : Expr) : Prop := ∀ o i, subscripted b false o i = operate [o, i] (getItem o i)
/-- a subscript by values -/
def IxR (X : Cx) (r : R2) : Prop :=
  ∀ (value slice : Expr) (pins : List (Addr × Obj)) (s : Shared) (σ : St) (H : Hp) (x y : V) (v u : Value) (Q : VK), Inv X pins σ H s → RelV x v → RelV y u → r x y H Q →
    subscripted slice false v u = operate [v, u] (getItem v u) → wpAny (model X.prog X.w) X.A (subscriptTail value slice v u) (EP X pins σ Q) X.xe s
/-- a call of a builtin's method by values: the receiver, the arguments -/
def MtR (X : Cx) (id : String) (r : V → List V → Hp → VK → Prop) : Prop :=
  ∀ (pins : List (Addr × Obj)) (s : Shared) (σ : St) (H : Hp) (x : V) (xs : List V) (v : Value) (us : List Value) (Q : VK), Inv X pins σ H s → RelV x v → Vals xs us → r x xs H Q →
    wpAny (model X.prog X.w) X.A (call (.builtin id) (v :: us)) (EP X pins σ Q) X.xe s
section
variable {X : Cx} {a b : Expr} {ta tb : TE} {pos : Pos}
/-- a[b] -/
theorem pe_ix {r : R2} (hr : IxR X r) (ha : PE X a ta) (hb : PE X b tb) (hs : PlainIx b) : PE X (.Subscript a b pos) (tOp r ta tb) := by
  intro pins s σ H Q I h
  exact Subscript_ (binT ha hb I h fun v u s2 x y H2 I2 rx ry q => hr a b pins s2 σ H2 x y v u Q I2 rx ry q (hs _ _))
def rIxL (K : PySem.W.Frag) : R2 := fun x y H Q => ∃ p xs i v, x = .ref p ∧ y = .int i ∧ SqL K H p xs ∧ atI xs i = some v ∧ Q v H
def rIxT (K : PySem.W.Frag) : R2 := fun x y H Q => ∃ p xs i v, x = .ref p ∧ y = .int i ∧ SqT K H p xs ∧ atI xs i = some v ∧ Q v H
def rIxS : R2 := fun x y H Q => ∃ z i c, x = .str z ∧ y = .int i ∧ z.length ≤ sizeLine ∧ atI z.cps.toList i = some c ∧ Q (.str ⟨#[c]⟩) H
theorem ix_list : IxR X (rIxL X.K) := by
  intro value slice pins s σ H x y v u Q I rx ry h hs
  obtain ⟨p, xs, i, z, rfl, rfl, hq, he, q⟩ := h
  cases rx
  obtain ⟨t, rfl⟩ := ry
  obtain ⟨its, r, pl, hz⟩ := I.list hq
  obtain ⟨j, h1, h2, h3, h4, h5⟩ := atI_get he
  obtain ⟨w, ew, rw'⟩ := r.get h2
  have hl := r.length
  have hn := line63
  have fin : EP X pins σ Q w s := ⟨z, H, I, rw', q⟩
  by_cases h0 : 0 ≤ i
  · have hj : i.toNat = j := by
      rw [seqIndex_of h0 h5] at h1
      exact Option.some.inj h1
    exact item_listR pl.isList h0 (by omega) (by rw [hj]; simpa using ew) fin hs
  · have hj : (i + (its.toArray.size : Int)).toNat = j := by
      rw [seqIndex_neg (by omega) h4] at h1
      rw [List.size_toArray, ← hl]
      exact Option.some.inj h1
    exact subscriptTail_builtinR (x := w) pl.isList.typeIs slot_list_getitem.lookup
      (wpAny_getItem_list_neg (Q := fun r s' => r = w ∧ EP X pins σ Q r s') pl.isList (by omega) (by rw [List.size_toArray] <;> omega) (by omega) (by rw [hj]; simpa using ew) ⟨rfl, fin⟩) hs
theorem ix_tup : IxR X (rIxT X.K) := by
  intro value slice pins s σ H x y v u Q I rx ry h hs
  obtain ⟨p, xs, i, z, rfl, rfl, hq, he, q⟩ := h
  cases rx
  obtain ⟨t, rfl⟩ := ry
  obtain ⟨its, r, pl, hz⟩ := I.tuple hq
  obtain ⟨j, h1, h2, h3, h4, h5⟩ := atI_get he
  obtain ⟨w, ew, rw'⟩ := r.get h2
  have hl := r.length
  have hn := line63
  have fin : EP X pins σ Q w s := ⟨z, H, I, rw', q⟩
  exact subscriptTail_builtinR (x := w) pl.typeIs slot_tuple_getitem.lookup
    (getItem_tuple (j := j) (Q := fun r s' => r = w ∧ EP X pins σ Q r s') pl (by omega) (by omega) (by rw [List.size_toArray, ← hl]; exact h1) (by simpa using ew) ⟨rfl, fin⟩) hs
theorem ix_str : IxR X rIxS := by
  intro value slice pins s σ H x y v u Q I rx ry h hs
  obtain ⟨z, i, c, rfl, rfl, hz, he, q⟩ := h
  obtain ⟨t, rfl⟩ := rx
  obtain ⟨t', rfl⟩ := ry
  obtain ⟨j, h1, h2, h3, h4, h5⟩ := atI_get he
  have hl : z.cps.toList.length = z.length := by simp [Str.length]
  rw [hl] at h1 h4 h5
  have hn := line63
  exact tail_any (typeIs_str s z t) slot_str_getitem.lookup (getItem_str (c := c) (by
    have e1 : decide (i < -(2 ^ 63 : Int)) = false := decide_eq_false (by omega)
    have e2 : decide (i ≥ 2 ^ 63) = false := decide_eq_false (by omega)
    rw [e1, e2, Bool.or_false]) (by rw [h1]; simpa using h2) ⟨.str ⟨#[c]⟩, H, I.tok _, ⟨_, rfl⟩, q⟩) hs
/-! ### xs[i] = v, any sign -/
/-- the list's object behind a store -/
theorem mapSeq_set (its : List Value) (n j : Nat) (u : Value) : Obj.mapSeq (·.setIfInBounds j u) { cls := .type "list", data := .seq its.toArray n } = { cls := .type "list", data := .seq (its.set j u).toArray n } := by
  simp [Obj.mapSeq]
theorem Inv.lst {pins : List (Addr × Obj)} {σ : St} {H : Hp} {s : Shared} {p : Addr} {xs : List V} (I : Inv X pins σ H s) (h : H p = some (.lst xs)) :
    ∃ (its : List Value) (n : Nat), Vals xs its ∧ s.heap.get? p = some { cls := .type "list", data := .seq its.toArray n } ∧ xs.length ≤ sizeLine := by
  obtain ⟨z, its, n, r, e⟩ := I.hok p _ h
  exact ⟨its, n, r, e, z⟩
/-- the list at p is written by an update of its object -/
theorem Inv.lstUpd {pins : List (Addr × Obj)} {σ : St} {H : Hp} {s : Shared} {p : Addr} {xs ys : List V} {its its' : List Value} {n n' : Nat} {f : Obj → Obj} (I : Inv X pins σ H s) (h : H p = some (.lst xs))
    (ho : s.heap.get? p = some { cls := .type "list", data := .seq its.toArray n }) (hf : f { cls := .type "list", data := .seq its.toArray n } = { cls := .type "list", data := .seq its'.toArray n' }) (r : Vals ys its') (hz : ys.length ≤ sizeLine) (t : Nat) :
    Inv X pins σ (upd H p (.lst ys)) { s with heap := s.heap.update p f, toks := t } := by
  have e : (s.heap.update p f).get? p = some { cls := .type "list", data := .seq its'.toArray n' } := by
    rw [Heap.get?_update_self f ho (by rw [hf] <;> rfl), hf]
  refine I.write (x := p) (e := p) (by rw [h]; trivial) (.inl rfl) (fun b u hb q => (Heap.get?_update_other _ _ (Ne.symm hb)).trans q) ⟨_, e⟩ ?_
  exact ⟨hz, its', n', r, e⟩
def rSetL : V → V → V → Hp → (Hp → Prop) → Prop := fun o i v H Q => ∃ p xs k j, o = .ref p ∧ i = .int k ∧ H p = some (.lst xs) ∧ ixN xs.length k = some j ∧ Q (upd H p (.lst (xs.set j v)))
theorem set_list : PSet X rSetL := by
  intro pins s σ H o i v ov iv u Q I ro ri rv h
  obtain ⟨p, xs, k, j, rfl, rfl, hp, hj, q⟩ := h
  cases ro
  obtain ⟨t, rfl⟩ := ri
  obtain ⟨its, n, r, ho, hz⟩ := I.lst hp
  obtain ⟨h1, h2, h3, h4⟩ := ixN_seq hj
  have hl := r.length
  have hn := line63
  have I' : Inv X pins σ (upd H p (.lst (xs.set j v))) { s with heap := s.heap.update p (Obj.mapSeq (·.setIfInBounds j u)) } :=
    I.lstUpd hp ho (mapSeq_set its n j u) (r.set rv j) (by rw [List.length_set]; exact hz) s.toks
  by_cases h0 : 0 ≤ k
  · have hk : k.toNat = j := by
      rw [seqIndex_of h0 h4] at h1
      exact Option.some.inj h1
    exact PySem.W.ki_setAt ho h0 (by omega) (by rw [List.size_toArray, ← hl]; exact h4) (by rw [hk]; exact ⟨_, I', q⟩)
  · have hk : (k + (its.toArray.size : Int)).toNat = j := by
      rw [seqIndex_neg (by omega) h3] at h1
      rw [List.size_toArray, ← hl]
      exact Option.some.inj h1
    exact PySem.W.ki_setBack ho (by omega) (by rw [List.size_toArray, ← hl]; exact h3) (by omega) (by rw [hk]; exact ⟨_, I', q⟩)
/-! ### slices -/
theorem slice_bounds (lo hi : Option Int) (n : Nat) : (sliceBounds lo hi none n).1 = ((HT.sIx n 0 lo : Nat) : Int) ∧ (sliceBounds lo hi none n).2.1 = ((HT.sIx n n hi : Nat) : Int) ∧ (sliceBounds lo hi none n).2.2 = 1 := by
  refine ⟨?_, ?_, rfl⟩
  · cases lo with
    | none => simp [sliceBounds, HT.sIx]
    | some i =>
      simp only [sliceBounds, HT.sIx, Option.getD_none, show (1 : Int) > 0 by decide, if_true]
      by_cases h : i < 0
      · simp only [h, if_true] <;> omega
      · simp only [h, if_false] <;> omega
  · cases hi with
    | none => simp [sliceBounds, HT.sIx]
    | some i =>
      simp only [sliceBounds, HT.sIx, Option.getD_none, show (1 : Int) > 0 by decide, if_true]
      by_cases h : i < 0
      · simp only [h, if_true] <;> omega
      · simp only [h, if_false] <;> omega
theorem slicePick_cut (its : List Value) (lo hi : Option Int) : slicePick its.toArray lo hi none = ((its.drop (HT.sIx its.length 0 lo)).take (HT.sIx its.length its.length hi - HT.sIx its.length 0 lo)).toArray := by
  obtain ⟨h1, h2, h3⟩ := slice_bounds lo hi its.toArray.size
  unfold slicePick
  rw [h1, h2, h3]
  simp only [sliceRange_one, pick_run, List.size_toArray] <;> rfl
/-- xs[lo:hi] of a list: a new list -/
def rSlL (K : PySem.W.Frag) : V → Option Int → Option Int → Hp → VK → Prop := fun x lo hi H Q => ∃ a xs, x = .ref a ∧ SqL K H a xs ∧ ∀ p, H p = none → Q (.ref p) (upd H p (.lst (cutV xs lo hi)))
theorem sl_list : SlR X (rSlL X.K) := by
  intro pins s σ H x v vl vu lo hi sl Q I rx hs pl pu h
  obtain ⟨a, xs, rfl, hx, q⟩ := h
  cases rx
  obtain ⟨its, r, ht, hz⟩ := I.list hx
  have hlen := r.length
  refine ⟨"list", _, slot_list_getitem.lookup, ht.isList.typeIs, ?_⟩
  refine wpAny_getItem_list_slice ht.isList hs pl pu .none (by simp) ?_ (by rw [List.size_toArray] <;> omega)
  rw [slicePick_cut, ← hlen]
  refine ⟨.ref s.heap.objs.size, _, I.laid (t' := s.toks) (o := .lst (cutV xs lo hi)) (fun b ob q => Heap.get?_push_of_some _ q) (Nat.le_refl _) ?_, rfl, q _ (I.hok.fresh (Nat.le_refl _))⟩
  exact ⟨Nat.le_trans (cutV_length xs lo hi) hz, _, 0, (r.drop (HT.sIx xs.length 0 lo)).take (HT.sIx xs.length xs.length hi - HT.sIx xs.length 0 lo), Heap.get?_push_size _ rfl⟩
/-! ### in, not in: flat items -/
def flatV : V → Bool
  | .non => true
  | .bl _ => true
  | .int _ => true
  | .str _ => true
  | _ => false
/-- == of flat values -/
def eqV : V → V → Bool
  | .non, .non => true
  | .bl a, .bl b => a == b
  | .bl a, .int b => (if a then 1 else 0) == b
  | .int a, .bl b => a == (if b then 1 else 0)
  | .int a, .int b => a == b
  | .str a, .str b => a == b
  | _, _ => false
theorem eqAt_V {A : Around} {s : Shared} {y x : V} {u v : Value} (ry : RelV y u) (rx : RelV x v) (fy : flatV y = true) (fx : flatV x = true) : SeqAt.EqAt A s u v (eqV y x) := by
  cases y with
  | non =>
    cases ry
    cases x with
    | non => cases rx; exact SeqAt.EqAt.same _
    | bl b => cases rx; exact SeqAt.EqAt.none_bool b
    | int b => obtain ⟨t, rfl⟩ := rx; exact SeqAt.EqAt.none_int b t
    | str b => obtain ⟨t, rfl⟩ := rx; exact SeqAt.EqAt.none_str b t
    | _ => exact absurd (show false = true from fx) Bool.false_ne_true
  | bl a =>
    cases ry
    cases x with
    | non => cases rx; exact SeqAt.EqAt.bool_none a
    | bl b => cases rx; exact SeqAt.EqAt.bool_bool a b
    | int b => obtain ⟨t, rfl⟩ := rx; exact SeqAt.EqAt.bool_int a b t
    | str b => obtain ⟨t, rfl⟩ := rx; exact SeqAt.EqAt.bool_str a b t
    | _ => exact absurd (show false = true from fx) Bool.false_ne_true
  | int a =>
    obtain ⟨t', rfl⟩ := ry
    cases x with
    | non => cases rx; exact SeqAt.EqAt.int_none a t'
    | bl b => cases rx; exact SeqAt.EqAt.int_bool a t' b
    | int b => obtain ⟨t, rfl⟩ := rx; exact SeqAt.EqAt.int_int a t' b t
    | str b => obtain ⟨t, rfl⟩ := rx; exact SeqAt.EqAt.int_str a t' b t
    | _ => exact absurd (show false = true from fx) Bool.false_ne_true
  | str a =>
    obtain ⟨t', rfl⟩ := ry
    cases x with
    | non => cases rx; exact SeqAt.EqAt.str_none a t'
    | bl b => cases rx; exact SeqAt.EqAt.str_bool a t' b
    | int b => obtain ⟨t, rfl⟩ := rx; exact SeqAt.EqAt.str_int a t' b t
    | str b => obtain ⟨t, rfl⟩ := rx; exact SeqAt.EqAt.str_str a t' b t
    | _ => exact absurd (show false = true from fx) Bool.false_ne_true
  | _ => exact absurd (show false = true from fy) Bool.false_ne_true
/-- the items' answers, read off the values (a value's own answer does not lean on its token) -/
def eqU (x : V) (u : Value) : Bool := match u with
  | .none => eqV .non x
  | .bool b => eqV (.bl b) x
  | .int i _ => eqV (.int i) x
  | .str z _ => eqV (.str z) x
  | _ => false
theorem eqU_of {x y : V} {u : Value} (r : RelV y u) (f : flatV y = true) : eqU x u = eqV y x := by
  cases y with
  | non => cases r; rfl
  | bl b => cases r; rfl
  | int i => obtain ⟨t, rfl⟩ := r; rfl
  | str z => obtain ⟨t, rfl⟩ := r; rfl
  | _ => exact absurd (show false = true from f) Bool.false_ne_true
theorem any_eqU {x : V} : ∀ {xs : List V} {us : List Value}, Vals xs us → xs.all flatV = true → us.any (eqU x) = xs.any fun y => eqV y x
  | _, _, .nil, _ => rfl
  | y :: xs, u :: us, .cons r t, f => by
    rw [List.all_cons, Bool.and_eq_true] at f
    rw [List.any_cons, List.any_cons, eqU_of r f.1, any_eqU t f.2]
theorem mem_eqAt {A : Around} {s : Shared} {x : V} {v : Value} (rx : RelV x v) (fx : flatV x = true) : ∀ {xs : List V} {us : List Value}, Vals xs us → xs.all flatV = true → ∀ u ∈ us, SeqAt.EqAt A s u v (eqU x u)
  | _, _, .nil, _ => fun u hu => by cases hu
  | y :: xs, u :: us, .cons r t, f => fun u' hu => by
    rw [List.all_cons, Bool.and_eq_true] at f
    rcases List.mem_cons.mp hu with rfl | hu
    · rw [eqU_of r f.1]; exact eqAt_V r rx f.1 fx
    · exact mem_eqAt rx fx t f.2 u' hu
def inV (x : V) (xs : List V) : Bool := xs.any fun y => eqV y x
/-- x in a list or tuple of flat items -/
def rIn (K : PySem.W.Frag) (neg : Bool) : R2 := fun x y H Q => ∃ p xs, y = .ref p ∧ (SqL K H p xs ∨ SqT K H p xs) ∧ flatV x = true ∧ xs.all flatV = true ∧ Q (.bl (if neg then !inV x xs else inV x xs)) H
theorem op_in_seq : OpR X (compareOp .In) (rIn X.K false) := by
  intro pins s σ H x y v u Q I rx ry h
  obtain ⟨p, xs, rfl, hq, fx, fs, q⟩ := h
  cases ry
  rcases hq with hq | hq
  · obtain ⟨its, r, pl, hz⟩ := I.list hq
    refine SeqAt.in_listAt (eqU x) pl.isList (fun w hw => mem_eqAt rx fx r fs w (by simpa using hw)) ⟨.bl _, H, I, rfl, ?_⟩
    rw [show its.toArray.any (eqU x) = its.any (eqU x) by simp, any_eqU r fs]
    exact q
  · obtain ⟨its, r, pl, hz⟩ := I.tuple hq
    refine SeqAt.in_tupleAt (eqU x) pl (fun w hw => mem_eqAt rx fx r fs w (by simpa using hw)) ⟨.bl _, H, I, rfl, ?_⟩
    rw [show its.toArray.any (eqU x) = its.any (eqU x) by simp, any_eqU r fs]
    exact q
theorem op_notIn_seq : OpR X (compareOp .NotIn) (rIn X.K true) := by
  intro pins s σ H x y v u Q I rx ry h
  obtain ⟨p, xs, rfl, hq, fx, fs, q⟩ := h
  cases ry
  rcases hq with hq | hq
  · obtain ⟨its, r, pl, hz⟩ := I.list hq
    refine SeqAt.notIn_listAt (eqU x) pl.isList (fun w hw => mem_eqAt rx fx r fs w (by simpa using hw)) ⟨.bl _, H, I, rfl, ?_⟩
    rw [show its.toArray.any (eqU x) = its.any (eqU x) by simp, any_eqU r fs]
    exact q
  · obtain ⟨its, r, pl, hz⟩ := I.tuple hq
    refine SeqAt.notIn_tupleAt (eqU x) pl (fun w hw => mem_eqAt rx fx r fs w (by simpa using hw)) ⟨.bl _, H, I, rfl, ?_⟩
    rw [show its.toArray.any (eqU x) = its.any (eqU x) by simp, any_eqU r fs]
    exact q
/-! ### len, list(x), tuple(x) of any list or tuple that is read -/
theorem call_len_seq : CallR X (.builtin "len") (fun xs H Q => ∃ p ys, xs = [.ref p] ∧ (SqL X.K H p ys ∨ SqT X.K H p ys) ∧ Q (.int ys.length) H) := by
  intro pins s σ H xs us Q I r h
  obtain ⟨p, ys, rfl, hq, q⟩ := h
  obtain ⟨u, rfl, rx⟩ := vals1 r
  cases rx
  have hn := line63
  rcases hq with hq | hq
  · obtain ⟨its, r', pl, hz⟩ := I.list hq
    have hlen := r'.length
    exact Calls.call_len_list pl.isList (by simp only [List.size_toArray] <;> omega) ⟨.int ys.length, H, I.tok _, ⟨s.toks + 1, by rw [List.size_toArray, hlen]⟩, q⟩
  · obtain ⟨its, r', pl, hz⟩ := I.tuple hq
    have hlen := r'.length
    exact len_tuple pl (by simp only [List.size_toArray] <;> omega) ⟨.int ys.length, H, I.tok _, ⟨s.toks + 1, by rw [List.size_toArray, hlen]⟩, q⟩
theorem call_len_str : CallR X (.builtin "len") (fun xs H Q => ∃ z, xs = [.str z] ∧ z.length ≤ sizeLine ∧ Q (.int z.length) H) := by
  intro pins s σ H xs us Q I r h
  obtain ⟨z, rfl, hz, q⟩ := h
  obtain ⟨u, rfl, t, rfl⟩ := vals1 r
  have hn := line63
  exact len_str (by omega) ⟨.int z.length, H, I.tok _, ⟨_, rfl⟩, q⟩
theorem call_tuple_of : CallR X (.type "tuple") (fun xs H Q => ∃ p ys, xs = [.ref p] ∧ ((SqL X.K H p ys ∧ ∀ l, H l = none → Q (.ref l) (upd H l (.tup ys))) ∨ (SqT X.K H p ys ∧ Q (.ref p) H))) := by
  intro pins s σ H xs us Q I r h
  obtain ⟨p, ys, rfl, h⟩ := h
  obtain ⟨u, rfl, rx⟩ := vals1 r
  cases rx
  rcases h with ⟨hq, q⟩ | ⟨hq, q⟩
  · obtain ⟨its, r', pl, hz⟩ := I.list hq
    have hlen := r'.length
    refine call_tuple_list pl.isList (fun h' kp => ?_) (by simp only [List.size_toArray] <;> omega)
    have I1 : Inv X pins σ H { s with heap := h' } := I.kept (t' := s.toks) kp
    have I2 : Inv X pins σ (upd H h'.objs.size (.tup ys)) { s with heap := h'.push { cls := .type "tuple", data := .seq its.toArray } } :=
      I1.laid (t' := s.toks) (fun b o e => Heap.get?_push_of_some _ e) (Nat.le_refl _) (show ObjOk X.prog X.w _ _ _ (.tup ys) from ⟨hz, its, r', IsTup.new _ _⟩)
    exact ⟨.ref h'.objs.size, _, I2, rfl, q _ (I1.hok.fresh (Nat.le_refl _))⟩
  · obtain ⟨its, r', pl, hz⟩ := I.tuple hq
    exact call_tuple_same pl ⟨.ref p, H, I, rfl, q⟩
/-! ### the call of a builtin's method: o.m(..) -/
/-- the value is of that builtin type -/
def tyV (K : PySem.W.Frag) (T : String) (x : V) (H : Hp) : Prop := match x with
  | .str _ => T = "str"
  | .int _ => T = "int"
  | .ref p => (T = "list" ∧ ∃ xs, SqL K H p xs) ∨ (T = "tuple" ∧ ∃ o, K.lookup p = some o ∧ o.cls = .type "tuple" ∧ o.dict = none) ∨
      (T = "dict" ∧ ((∃ kvs, H p = some (.dK kvs)) ∨ ∃ kvs, H p = some (.dT kvs))) ∨ (T = "set" ∧ ∃ S n, H p = some (.set S n))
  | _ => False
theorem tyV_is {pins : List (Addr × Obj)} {σ : St} {H : Hp} {s : Shared} {T : String} {x : V} {v : Value} (I : Inv X pins σ H s) (r : RelV x v) (ty : tyV X.K T x H) :
    s.TypeIs v T ∧ ∀ a, v = .ref a → ∃ ob, s.heap.get? a = some ob ∧ ob.dict = none := by
  cases x with
  | str z =>
    obtain ⟨t, rfl⟩ := r
    cases (show T = "str" from ty)
    exact ⟨typeIs_str s z t, fun _ e => nomatch e⟩
  | int i =>
    obtain ⟨t, rfl⟩ := r
    cases (show T = "int" from ty)
    exact ⟨typeIs_int s i t, fun _ e => nomatch e⟩
  | ref p =>
    cases r
    rcases ty with ⟨rfl, xs, hq⟩ | ⟨rfl, o, hk, hc, hd⟩ | ⟨rfl, hk⟩ | ⟨rfl, S, n, hk⟩
    · obtain ⟨its, _, pl, _⟩ := I.list hq
      refine ⟨pl.isList.typeIs, fun a e => ?_⟩
      cases e
      obtain ⟨o, n, e, c, hd, _⟩ := pl
      exact ⟨o, e, hd⟩
    · refine ⟨⟨o, I.kIn p o hk, hc⟩, fun a e => ?_⟩
      cases e
      exact ⟨o, I.kIn _ o hk, hd⟩
    · have z : ∃ o, s.heap.get? p = some o ∧ o.ExactDict := by
        rcases hk with ⟨kvs, hk⟩ | ⟨kvs, hk⟩
        · obtain ⟨_, _, _, _, o, _, _, e, ex, _⟩ := I.hok p _ hk
          exact ⟨o, e, ex⟩
        · obtain ⟨_, _, _, _, o, _, _, e, ex, _⟩ := I.hok p _ hk
          exact ⟨o, e, ex⟩
      obtain ⟨o, e, ex⟩ := z
      refine ⟨⟨o, e, ex.1⟩, fun a e2 => ?_⟩
      cases e2
      exact ⟨o, e, ex.2.1⟩
    · obtain ⟨o, _, _, _, e, ex, _⟩ := I.hok p _ hk
      refine ⟨⟨o, e, ex.1⟩, fun a e2 => ?_⟩
      cases e2
      exact ⟨o, e, ex.2.1⟩
  | _ => exact False.elim ty
def tBM (K : PySem.W.Frag) (T : String) (r : V → List V → Hp → VK → Prop) (to : TE) (t : TA) : TE := fun σ H Q => to σ H fun x H1 => tyV K T x H1 ∧ t σ H1 fun xs H2 => r x xs H2 Q
variable {o e : Expr} {es : List Expr} {to : TE} {t : TA} {name : Str} {apos cpos : Pos} {T id : String} {r : V → List V → Hp → VK → Prop}
theorem pe_bm (pa : PlainAttrs T) (slot : Slot T name id) (hty : typeOf (.builtin id) = pure (.type "method_descriptor")) (hm : MtR X id r) (ho : PE X o to) (ha : PA X (e :: es) t)
    (hbase : attributeBase o name X.env (eval o X.env) = eval o X.env := by rfl)
    (hfew : ((backTo cpos (starEach (e :: es) X.env)).all (fun x => !x.1) && (backToKw cpos (keywordEach [] X.env)).all (fun x => x.1.isSome)
      && decide ((e :: es).length + ([] : List Keyword).length + (if ([] : List Keyword).isEmpty then 0 else 1) < 30)) = true := by rfl)
    (hline : (apos.endLine == cpos.line) = true := by rfl) (hs : starEach (e :: es) X.env = (false, eval e X.env) :: starEach es X.env := by rfl) (hplain : (backTo cpos (starEach es X.env)).any (·.1) = false := by rfl) :
    PE X (.Call (.Attribute o name apos) (e :: es) [] cpos) (tBM X.K T r to t) := by
  intro pins s σ H Q I h
  refine wpAny_Call_method_late hbase hfew hline rfl (thn (ho pins s σ H _ I h) fun v s1 ⟨x, H1, I1, r1, ty, q1⟩ => ?_)
  obtain ⟨h1, h2⟩ := tyV_is I1 r1 ty
  refine ⟨T, id, pa, slot, hty, h1, h2, ?_⟩
  have hA := ha cpos pins s1 σ H1 _ I1 q1
  rw [hs] at hA ⊢
  refine Calls.callWith_builtin (by show (false || (backTo cpos (starEach es X.env)).any (·.1)) = false; rw [hplain] <;> rfl) (Calls.evalArgs_plain ?_)
  exact thn hA fun us s2 ⟨vs, H2, I2, r2, q2⟩ => hm pins s2 σ H2 x vs v us Q I2 r1 r2 q2
/- xs.append(e), list.index on a module's tuple .. are MtR facts of 06m -/
end
end L2
namespace L2
open PySem PySem.Spec PyProof.Rows
def MtM (X : Cx) (id : String) (r : V → List V → Hp → VK → Prop) : Prop :=
  ∀ (pins : List (Addr × Obj)) (s : Shared) (σ : St) (H : Hp) (x : V) (xs : List V) (v : Value) (us : List Value) (Q : VK), Inv X pins σ H s → RelV x v → Vals xs us → r x xs H Q →
    wpAny (model X.prog X.w) X.A (call (.builtin id) (v :: us)) (EP X pins σ Q) X.xe s
/-! ### lists of values -/
theorem Vals.one : ∀ {x : V} {us : List Value}, Vals [x] us → ∃ u, us = [u] ∧ RelV x u
  | _, _, .cons r .nil => ⟨_, rfl, r⟩
section
variable {X : Cx} {pins : List (Addr × Obj)} {σ : St} {H : Hp} {s : Shared} {l b : Addr} {xs ys zs : List V}
/-! ### the two steps: a tracked list is rewritten, a new list is laid -/
theorem Inv.lset {its its' : List Value} {n : Nat} {f : Array Value → Array Value} {t' : Nat} (I : Inv X pins σ H s) (hH : H l = some (.lst xs))
    (e : s.heap.get? l = some { cls := .type "list", data := .seq its.toArray n }) (hf : f its.toArray = its'.toArray) (hv : Vals ys its') (hz : ys.length ≤ sizeLine) :
    Inv X pins σ (upd H l (.lst ys)) { s with heap := s.heap.update l (Obj.mapSeq f), toks := t' } := by
  have q := PySem.IsL.update e f
  rw [hf] at q
  refine I.write (x := l) (e := l) (by rw [hH]; exact trivial) (.inl rfl) (fun b' u hb hu => (Heap.get?_update_other s.heap (Obj.mapSeq f) (Ne.symm hb)).trans hu) ⟨_, q⟩ ?_
  exact ⟨hz, its', _, hv, q⟩
theorem Inv.lnew {its : List Value} {t' : Nat} (I : Inv X pins σ H s) (hv : Vals ys its) (hz : ys.length ≤ sizeLine) :
    Inv X pins σ (upd H s.heap.objs.size (.lst ys)) { s with heap := s.heap.push { cls := .type "list", data := .seq its.toArray }, toks := t' } :=
  I.laid (fun _ _ q => Heap.get?_push_of_some _ q) (Nat.le_refl _) ⟨hz, its, 0, hv, Heap.get?_push_size _ rfl⟩
theorem Inv.fresh (I : Inv X pins σ H s) : H s.heap.objs.size = none := I.hok.fresh (Nat.le_refl _)
theorem Inv.lstM (I : Inv X pins σ H s) (hH : H l = some (.lst xs)) : xs.length ≤ sizeLine ∧ ∃ (its : List Value) (n : Nat), Vals xs its ∧ xs.length = its.length ∧ s.heap.get? l = some { cls := .type "list", data := .seq its.toArray n } := by
  obtain ⟨z, its, n, r, e⟩ := I.hok l _ hH
  exact ⟨z, its, n, r, r.length, e⟩
end
section
variable {X : Cx}
/-! ### methods -/
def rAppend : V → List V → Hp → VK → Prop := fun x vs H Q => ∃ l xs y, x = .ref l ∧ vs = [y] ∧ H l = some (.lst xs) ∧ xs.length < sizeLine ∧ Q .non (upd H l (.lst (xs ++ [y])))
theorem mt_append : MtM X "list.append" rAppend := by
  intro pins s σ H x vs v us Q I rx rv h
  obtain ⟨l, xs, y, rfl, rfl, hH, hz, q⟩ := h
  cases rx
  obtain ⟨u, rfl, ru⟩ := rv.one
  obtain ⟨z, its, n, r, hl, e⟩ := I.lstM hH
  refine call_meets F.slot_list_append ⟨_, e, rfl⟩ F.entry_list_append (F.args_list_append_2 _ _) (PySem.list_append l its.toArray n u (by rw [List.size_toArray]; omega)) ⟨e, ?_⟩
  refine ⟨.non, _, I.lset (its' := its ++ [u]) hH e (by simp) (r.append (.cons ru .nil)) ?_, rfl, q⟩
  rw [List.length_append, List.length_singleton]
  omega
/-! ### list + list, list += list, list * int -/
def rCat : R2 := fun x y H Q => ∃ l b xs zs, x = .ref l ∧ y = .ref b ∧ H l = some (.lst xs) ∧ H b = some (.lst zs) ∧ xs.length + zs.length ≤ sizeLine ∧ ∀ p, H p = none → Q (.ref p) (upd H p (.lst (xs ++ zs)))
theorem op_cat : OpR X (binaryOp .Add) rCat := by
  intro pins s σ H x y v u Q I rx ry h
  obtain ⟨l, b, xs, zs, rfl, rfl, hH, hB, hz, q⟩ := h
  cases rx
  cases ry
  obtain ⟨z, its, n, r, hl, e⟩ := I.lstM hH
  obtain ⟨z2, its2, n2, r2, hl2, e2⟩ := I.lstM hB
  refine PySem.P.add_list e e2 ?_ (by rw [List.size_toArray, List.size_toArray]; omega)
  have ea : its.toArray ++ its2.toArray = (its ++ its2).toArray := by simp
  rw [ea]
  exact ⟨.ref _, _, I.lnew (t' := s.toks) (r.append r2) (by rw [List.length_append]; omega), rfl, q _ I.fresh⟩
/-! ### del xs[i] -/
end
/-! ### xs[a:b] = ys -/
section
variable {prog : Program} {w : World} {A : Around} {E : Value → Shared → Prop} {s : Shared}
set_option maxRecDepth 100000 in
end
section
variable {X : Cx}
end
end L2
namespace Att
open PySem PySem.W PySem.Calls PyProof.Rows
/-! ### the script -/
theorem ints_of_wellAll {P : Params} {h : Heap} : ∀ (ns : List Int) (vs : List Value), WellAll P h vs (ns.map WData.int) → IntsAre vs ns := by
  intro ns
  induction ns with
  | nil =>
    intro vs w
    rw [List.map_nil] at w
    cases w
    exact .nil
  | cons n ns ih =>
    intro vs w
    rw [List.map_cons] at w
    cases w with
    | cons a b =>
      cases a
      exact .cons _ _ (ih _ b)
theorem script_of {l : OpenLaw} {n : Nat} (hn : l.most = some n) {P : Params} {h : Heap} {args : List WData} {vals : List Value}
    (hpre : l.row.toRowW.claim.pre args = true) (hwl : WellAll P h vals args) :
    ∃ a vs ns, vals = [Value.ref a] ∧ args = [WData.list (ns.map WData.int)] ∧ h.get? a = some { cls := .type "list", data := .seq vs.toArray } ∧ IntsAre vs ns ∧ ns.length ≤ n := by
  have hsh : WShape.hasAll [] args [.list .int] = true := (pre_splitW hpre).1
  have hc : l.pre.holds [] { args := args } = true := (pre_splitW hpre).2
  obtain ⟨d, r, rfl, h1, h2⟩ := hasAllW_cons hsh
  obtain rfl := hasAllW_nil h2
  obtain ⟨xs, rfl, h3⟩ := hasW_list h1
  obtain ⟨ns, rfl⟩ := items_int h3
  have hlen : ns.length ≤ n := by
    unfold OpenLaw.pre at hc
    have h4 : (WTm.not (.lt (.lit (.int (n : Int))) (.len (.arg 0)))).holds [] { args := [.list (ns.map .int)] } = true := by
      have h4 := (holds_andW hc).1
      rw [hn] at h4
      exact h4
    have h5 := condW_of h4 (w_not (w_lt w_lit (w_len_list (w_arg rfl))))
    rw [List.length_map] at h5
    refine Nat.le_of_not_lt fun q => ?_
    have q' : (n : Int) < ((ns.length : Nat) : Int) := by omega
    first
      | (rw [decide_eq_true q'] at h5; exact absurd h5 (by decide))
      | (simp at h5; omega)
  cases hwl with
  | cons w1 w2 =>
    cases w2
    cases w1 with
    | list ho hall => exact ⟨_, _, ns, rfl, rfl, ho, ints_of_wellAll ns _ hall, hlen⟩
theorem post_true (l : OpenLaw) (args : List WData) : l.row.toRowW.claim.post args (.bool true) args = true :=
  postW_of (r := l.row.toRowW) (X := (true == true))
    (show WShape.has [] (.bool true) .bool = true by first | rfl | decide | simp [WShape.has, WShape.arms, WShape.armsAll])
    (show (WTm.eq .res (.lit (.bool true))).value [] { args := args, res := some (.bool true), after := args } = some (.bool (true == true)) from w_eq_bool (w_res rfl) w_lit) rfl
/-! ### the attachment: holds_open's last premise (the goal 'hc' behind k_head) from a wpAny of the law's body -/
/-- the same from a codeAny of the CALL (for a layer whose function contracts speak of calls) -/
theorem attach_call {l : OpenLaw} {n : Nat} {q : Program} {loose : List Str} {XP : (Str → Option Value) → Heap → Prop} {YP : World → Heap → Prop} {d : DefRec}
    (hn : l.most = some n) (hdf : d.params.defaults = [])
    (call : ∀ (w : World) (s₀ s₁ : Shared) (mg mb : Str → Option Value) (fa : Addr) (o : Obj) (pm cd doc : Value) (a : Addr) (vs : List Value) (ns : List Int),
      Ground q loose [] XP w s₀ mg mb s₁.heap → YP w s₁.heap →
      s₁.heap.get? fa = some o → o.data = .func (docDef d.name d.params d.body d.scope pm cd doc) → s₁.heap.CodeRec cd d.name → mg d.name = some (.ref fa) →
      s₁.heap.get? a = some { cls := .type "list", data := .seq vs.toArray } → IntsAre vs ns → ns.length ≤ n → s₁.gens = #[] →
      codeAny (model l.prog w) callerA (.call (.ref fa) ⟨[.ref a], []⟩) (fun r s' => r = .ok (.ret (.bool true)) ∧ OldK s₁.heap s'.heap ∧ s'.os = s₁.os ∧ AllBare s'.gens) s₁) :
    WalkO q loose XP YP l.row.toRowW d [] (fun f vs => PySem.call f vs) := by
  intro w s₀ s₁ mg mb G Y fa o pm cd doc dV kV ho hd hcd hD hmg hg args vals as hpre hlay hrd hwl hlo
  obtain rfl : dV = .none := Dflts.none hD hdf
  obtain rfl : kV = .none := Dflts.noKw hD
  obtain ⟨a, vs, ns, rfl, rfl, hobj, hints, hlen⟩ := script_of hn hpre hwl
  refine enter_call (codeAny_mono (call w s₀ s₁ mg mb fa o pm cd doc a vs ns G Y ho (fd_plain hd) hcd hmg hobj hints hlen hg) fun r s' hq => ?_)
  obtain ⟨rfl, h2, h3, h4⟩ := hq
  exact ⟨.inl ⟨.bool true, .bool true, [], rfl, fun _ => rfl, .bool true, post_true l _, fun _ => ⟨List.Pairwise.nil, fun _ hm => (nomatch hm)⟩⟩, h2, h3, h4⟩
/-! ### rules over ANY heap (no ledger) from facts about the written part K: the library's own take a ledger (News) for what they write -/
section
variable {prog : Program} {w : World} {A : Around} {E : Value → Shared → Prop} {s : Shared} {K : Frag}
/-! the whole heap as the ledger: makes every rule that writes through a ledger a rule over any heap -/
end
end Att
namespace L2
open PySem PySem.Spec PyProof.Rows
theorem vals_ints : ∀ {vs : List Value} {ns : List Int}, IntsAre vs ns → Vals (ns.map V.int) vs
  | _, _, .nil => .nil
  | _, _, .cons n t h => .cons ⟨t, rfl⟩ (vals_ints h)
/-- nothing is tracked but the script, known to the object (or it is an object of the module) -/
def Only (H : Hp) : Prop := ∀ b, H b = none ∨ ∃ o xs, H b = some (.frz o (.lst xs))
/-- THE HEAD: the law's promise, at the heap behind the top. F, the promise of the law's def, may use that base is part of the heap (so K.In base, base.Ns mainGlobals mg stand in Mod) -/
theorem law_call {P : Program} {w : World} {K : PySem.W.Frag} {mg mb : Str → Option Value} {CX : CXT} {k : Nat} {fa a : Addr} {fd : FuncData} {x : Str} {sp : Sp} {s₁ : Shared} {vs : List Value} {ns : List Int}
    (KX : K.In s₁.heap) (hns : s₁.heap.Ns mainGlobals mg) (hb : s₁.heap.Ns builtinsNs mb) (hbb : ∀ x : Str, x ≠ "__name__" → mb x = bootBuiltins x) (hlim : s₁.heap.NoLimit) (hg : s₁.gens = #[])
    (ha : s₁.heap.get? a = some { cls := .type "list", data := .seq vs.toArray }) (hi : IntsAre vs ns) (hl : ns.length ≤ sizeLine) (hr : Room k callerA)
    (F : ∀ base : Heap, K.In base → base.Ns mainGlobals mg → FnOk P w K mg base CX k fa fd [x] sp) (hbind : ∀ (s : Shared) (u : Value), BindsTo s fd ⟨[u], []⟩ [(x, u)])
    (hsp : ∀ H : Hp, Only H → SqL K H a (ns.map V.int) → sp [.ref a] H (fun v _ => v = .bl true) fun _ _ _ => False)
    (hCX : ∀ H e s', CX [] H s₁ (fun _ _ _ => False) e s' → False) :
    codeAny (model P w) callerA (.call (.ref fa) ⟨[.ref a], []⟩) (fun r s' => r = .ok (.ret (.bool true)) ∧ OldK s₁.heap s'.heap ∧ s'.os = s₁.os ∧ AllBare s'.gens) s₁ := by
  have rv := vals_ints hi
  have lenV := hi.length
  -- from an abstract heap in which nothing but the script may be tracked
  have core : ∀ H : Hp, Only H → SqL K H a (ns.map V.int) → HOk P w H s₁.heap → (∀ b, H b ≠ none → b = a) → (H a ≠ none → K.lookup a = none) →
      codeAny (model P w) callerA (.call (.ref fa) ⟨[.ref a], []⟩) (fun r s' => r = .ok (.ret (.bool true)) ∧ OldK s₁.heap s'.heap ∧ s'.os = s₁.os ∧ AllBare s'.gens) s₁ := by
    intro H hO hS hok hA hK
    have base_of : ∀ {b : Addr} {o : Obj}, s₁.heap.get? b = some o → H b = none → (hidT s₁.heap H).get? b = some o := fun e n => hidT_get e n
    have noA : ∀ {b : Addr} {o : Obj} {es : Array DictEntry} {ep : Nat}, s₁.heap.get? b = some o → o.data = .dict es ep → H b = none := fun {b o es ep} e d => by
      cases q : H b with
      | none => rfl
      | some u =>
        have e' : b = a := hA b (by rw [q]; simp)
        subst e'
        rw [ha] at e; cases e
        have d' : Data.seq vs.toArray _ = Data.dict es ep := d
        cases d'
    have nsK : ∀ {b : Addr} {m : Str → Option Value}, s₁.heap.Ns b m → (hidT s₁.heap H).Ns b m := fun {b m} ⟨o, es, ep, e, d, r⟩ => ⟨o, es, ep, base_of e (noA e d), d, r⟩
    have hKb : K.In (hidT s₁.heap H) := fun b o e => base_of (KX b o e) (by
      cases q : H b with
      | none => rfl
      | some u =>
        have e' : b = a := hA b (by rw [q]; simp)
        subst e'
        rw [hK (by rw [q]; simp)] at e; cases e)
    have hM : Mod K mg (hidT s₁.heap H) := ⟨hKb, nsK hns, ⟨mb, nsK hb, hbb⟩, let ⟨mc, h1, h2⟩ := hlim; ⟨mc, nsK h1, h2⟩⟩
    have e0 : Env0 P w K mg (hidT s₁.heap H) callerA [] s₁ H := ⟨rfl, hM, fun b o e => of_hidT e, Nat.le_of_eq (hidT_size _ _), trivial, fun b hb => absurd (show b ∈ ([] : List Addr) from hb) (by simp), hok, .of_eq hg⟩
    refine codeAny_mono ((F _ hKb (nsK hns)).run callerA [] s₁ H ⟨[.ref a], []⟩ [.ref a] [.ref a] _ _ hr e0 (hbind s₁ (.ref a)) (.cons rfl .nil) (hsp H hO hS)) fun r s' h => ?_
    cases r with
    | error e => exact (hCX H e s' h).elim
    | ok fl =>
      cases fl with
      | next => exact False.elim h
      | brk => exact False.elim h
      | cont => exact False.elim h
      | ret u =>
        obtain ⟨v, H', os, bare, un, hok', r', q⟩ := h
        have q' : v = .bl true := q
        subst q'
        obtain rfl : u = Value.bool true := r'
        refine ⟨rfl, OldK.of_keep fun b o e => ?_, os, bare⟩
        cases q : H b with
        | none => exact un.keep b o e q (by intro z; exact absurd (show b ∈ ([] : List Addr) from z) (by simp)) (by simp)
        | some u =>
          rcases hO b with z | ⟨ob, xs, z⟩
          · rw [q] at z; cases z
          · have z2 := un.frzs b ob _ z
            obtain ⟨e1, _⟩ := hok b _ z
            obtain ⟨e2, _⟩ := hok' b _ z2
            rw [e] at e1; cases e1
            exact e2
  cases hk : K.lookup a with
  | some o =>
    -- the script is one of the module's own objects
    have e := KX a o hk
    rw [ha] at e
    cases e
    refine core (fun _ => none) (fun _ => .inl rfl) (.inr ⟨_, vs.toArray, _, hk, rfl, rfl, rfl, by rw [List.size_toArray, lenV]; exact hl, by simpa using rv⟩) (fun b u z => by have z' : (none : Option HO) = some u := z; cases z') (fun b z => absurd rfl z) fun z => absurd rfl z
  | none =>
    refine core (fun b => if b = a then some (.frz { cls := .type "list", data := .seq vs.toArray } (.lst (ns.map V.int))) else none) (fun b => ?_) (.inl (.inr ⟨{ cls := .type "list", data := .seq vs.toArray }, if_pos rfl⟩)) (fun b u z => ?_) (fun b z => ?_) fun _ => hk
    · by_cases hb : b = a
      · exact .inr ⟨_, _, if_pos hb⟩
      · exact .inl (if_neg hb)
    · by_cases hb : b = a
      · have z' := (if_pos hb).symm.trans z
        cases z'
        subst hb
        exact ⟨ha, by rw [List.length_map]; exact hl, vs, _, rv, ha⟩
      · have z' := (if_neg hb).symm.trans z
        cases z'
    · by_cases hb : b = a
      · exact hb
      · exact absurd (if_neg hb) z
end L2
namespace L2
open PySem PySem.Spec PyProof.Rows
/-- the goal that k_head leaves (case hc), from the law's promise. F gives the function object fd (K's own) once, then the promise over every base -/
theorem walk_of {l : PySem.W.OpenLaw} {n k : Nat} {q : Program} {loose : List Str} {XP : (Str → Option Value) → Heap → Prop} {YP : World → Heap → Prop} {d : DefRec} {K : Params → PySem.W.Frag} {CX : World → CXT} {sp : World → Sp} {x : Str}
    (hn : l.most = some n) (hn2 : n ≤ sizeLine) (hdf : d.params.defaults = []) (hr : Room k callerA)
    (hY : ∀ (w : World) (h : Heap), YP w h → (K w.params).In h)
    (F : ∀ (w : World) (mg : Str → Option Value) (fa : Addr) (h : Heap), (K w.params).In h → h.Ns mainGlobals mg → mg d.name = some (.ref fa) →
      ∃ fd : FuncData, (∀ (s : Shared) (u : Value), BindsTo s fd ⟨[u], []⟩ [(x, u)]) ∧
        ∀ base : Heap, (K w.params).In base → base.Ns mainGlobals mg → FnOk l.prog w (K w.params) mg base (CX w) k fa fd [x] (sp w))
    (hsp : ∀ (w : World) (H : Hp) (a : Addr) (ns : List Int), ns.length ≤ n → Only H → SqL (K w.params) H a (ns.map V.int) → sp w [.ref a] H (fun v _ => v = .bl true) fun _ _ _ => False)
    (hCX : ∀ (w : World) (H : Hp) (s : Shared) (e : Value) (s' : Shared), CX w [] H s (fun _ _ _ => False) e s' → False) :
    PySem.W.WalkO q loose XP YP l.row.toRowW d [] (fun f vs => PySem.call f vs) := by
  refine Att.attach_call hn hdf fun w s₀ s₁ mg mb fa o pm cd doc a vs ns G Y ho hd hcd hmg hobj hints hlen hg => ?_
  have KX := hY w _ Y
  obtain ⟨fd, hb, hF⟩ := F w mg fa _ KX G.T.g hmg
  exact law_call KX G.T.g G.T.b G.T.builtins G.T.nolimit hg hobj hints (Nat.le_trans hlen hn2) hr hF hb (fun H hO hS => hsp w H a ns hlen hO hS) fun H e s' => hCX w H s₁ e s'
end L2
/- THE LAST THEOREM (shape; LID, My.* are yours):
   My.Adr: a structure of the addresses that your layer names (classes, functions); My.Txt K t: a structure (Prop) of the equations over K;
   My.txt_mk : {K} {implicit addresses ..} (e1 : nsIn K mainGlobals "law" = some (some (.ref f))) (e2 : K.lookup f = some ⟨oc, od, .func (fnOf "law" "law" params body scope dV kV doc pm an cdv ct), sl⟩) (e3 : codeIn K cdv "law" = true) .. : ∃ t, My.Txt K t
set_option maxRecDepth 100000 in
set_option maxHeartbeats 0 in
theorem PySem.Challenge.cw_LID_holds : PySem.Challenge.rw_LID.Holds := by
  w_on; o_law; k_head; (case hw => w_witness2)
  k_fill
  refine L2.walk_of (l := PySem.Challenge.rw_LID) (n := 63) (k := 40) (x := "script") (CX := fun w => ..) (sp := fun _ => My.sp_law) rfl (by decide) rfl ⟨rfl, by decide, by decide⟩ (fun w h Y => PySem.W.kIn_of Y) ?F ?S ?C
  case F =>
    intro w mg fa h KX G hmg
    have T : ∃ t, My.Txt (L2.KOf KX) t := by
      dsimp only [L2.KOf]                          -- K must stand as «<heap const> w.params» for k_is
      refine' My.txt_mk ?e1 ?e2 ?e3 ..
      (case e1 => PySem.W.k_is)                    -- in the order: a name -> its address -> its object -> its parts
      (case e2 => PySem.W.k_is)
      ..
    obtain ⟨t, T⟩ := T
    have e0 := hmg.symm.trans (PySem.W.mg_of KX G T.law)
    cases e0                                       -- fa is the law's own address
    exact ⟨_, fun s u => .of_eq rfl, fun base kb nb => My.law_fn T kb nb⟩     -- if «.of_eq rfl» comes too early: refine' ⟨_, ?b, fun base kb nb => My.law_fn T kb nb⟩; exact fun s u => .of_eq rfl
  case S => exact fun w H a ns hl hO hS => ..
  case C => exact ..
(the tactic k_is has no namespace: write k_is) -/
/-! SHORT WORDS over the layer: a def of the text, its body, what a loop and a test want. -/
namespace L2
open PySem PySem.Spec PyProof.Rows
/-! ### the text by places -/
def defArgs (s : Stmt) : Arguments := match s with
  | .FunctionDef _ a _ _ _ _ _ _ _ _ => a
  | _ => { posonlyargs := [], args := [], vararg := none, kwonlyargs := [], kw_defaults := [], kwarg := none, defaults := [] }
def defBody (s : Stmt) : List Stmt := match s with
  | .FunctionDef _ _ b _ _ _ _ _ _ _ => b
  | _ => []
def defScope (s : Stmt) : Scope := match s with
  | .FunctionDef _ _ _ _ _ _ sc _ _ _ => sc
  | _ => { kind := .function, names := [], isGenerator := false, isCoroutine := false }
/-! ### no exception leaves a def -/
abbrev CX0 : CXT := fun _ _ _ _ _ _ => False
abbrev E0 : XK := fun _ _ _ => False
theorem pass0 {X : Cx} : Passes CX0 X E0 := fun _ _ _ _ _ _ _ h => h.elim
/-! ### a def (or method) of the text as it stands behind the top -/
structure Fun (K : PySem.W.Frag) (x qual : Str) (st : Stmt) (f : Addr) (fd : FuncData) : Prop where
  ex : ∃ (oc : Value) (od : Option Addr) (kV doc pm : Value) (an : Option Addr) (cdv ct : Value) (osl : Array (Option Value)),
    fd = PySem.W.fnOf x qual (defArgs st) (defBody st) (defScope st) .none kV doc pm an cdv ct ∧ K.lookup f = some ⟨oc, od, .func fd, osl⟩ ∧ PySem.W.codeIn K cdv qual = true
  kp : PySem.W.keepIn K (.ref f) = true
section
variable {P : Program} {w : World} {K : PySem.W.Frag} {mg : Str → Option Value} {base : Heap}
/-- THE RULE for a def: its body as a term of rules, and the reading of that term -/
theorem Fun.ok {x qual : Str} {st : Stmt} {f : Addr} {fd : FuncData} {N ps : List Str} {k : Nat} {sp : Sp} (F : Fun K x qual st f fd) (S : FnScope N ps (defScope st)) (len : ∀ vs H Q E, sp vs H Q E → vs.length = ps.length)
    (hbody : ∀ (cdv : Value) (A : Around) (outer : List Env) (s : Shared) (H : Hp) (vs : List V) (Q : VK) (E : XK), Room k (A.deeper (envOfC qual (defScope st) s.heap.objs.size f cdv)) → sp vs H Q E →
      ∃ t, PSs (cxOf CX0 P w K mg base N qual (defScope st) f cdv A outer s H E).nox (defBody st) t ∧ t { nx := fun _ H' => Q .non H', rt := Q } (start N vs) H) : FnOk P w K mg base CX0 (k + 1) f fd ps sp := by
  obtain ⟨oc, od, kV, doc, pm, an, cdv, ct, osl, rfl, lk, hcd⟩ := F.ex
  refine fn_of lk hcd S len fun A outer s H vs Q E hr hsp => ?_
  obtain ⟨t, h, q⟩ := hbody cdv A outer s H vs Q E hr hsp
  exact ⟨t, h.nox, q⟩
/-- how its arguments bind (no defaults): h is «fun _ _ _ _ _ _ us hl => match us, hl with | [_, _], _ => rfl», one _ a parameter -/
theorem Fun.binds {x qual : Str} {st : Stmt} {f : Addr} {fd : FuncData} {ps : List Str} (F : Fun K x qual st f fd)
    (h : ∀ (kV doc pm : Value) (an : Option Addr) (cdv ct : Value) (us : List Value), us.length = ps.length → bindArgs (PySem.W.fnOf x qual (defArgs st) (defBody st) (defScope st) .none kV doc pm an cdv ct) ⟨us, []⟩ = pure (ps.zip us)) : Binds K fd ps [] := by
  obtain ⟨oc, od, kV, doc, pm, an, cdv, ct, osl, rfl, lk, hcd⟩ := F.ex
  exact .all (h kV doc pm an cdv ct)
theorem fun_mk {x qual : Str} {st : Stmt} {f : Addr} {oc : Value} {od an : Option Addr} {osl : Array (Option Value)} {kV doc pm cdv ct : Value} (l : K.lookup f = some ⟨oc, od, .func (PySem.W.fnOf x qual (defArgs st) (defBody st) (defScope st) .none kV doc pm an cdv ct), osl⟩)
    (c : PySem.W.codeIn K cdv qual = true) (k : PySem.W.keepIn K (.ref f) = true) : Fun K x qual st f (PySem.W.fnOf x qual (defArgs st) (defBody st) (defScope st) .none kV doc pm an cdv ct) := ⟨⟨oc, od, kV, doc, pm, an, cdv, ct, osl, rfl, l, c⟩, k⟩
end
theorem small1000 {n : Nat} (h : n ≤ 1000) : n < sizeLine := Nat.lt_of_le_of_lt h (by decide)
/-! ### expressions in short: the name that stands in the i-th slot -/
section
variable {X : Cx}
theorem pv (i : Nat) {x : Str} {pos : Pos} (hN : X.N[i]? = some x := by rfl) (hv : Vis X.env.scope x := by first | exact Or.inl rfl | exact Or.inr (Or.inl rfl) | exact Or.inr (Or.inr rfl)) (hd : (x == ("__debug__" : Str)) = false := by decide)
    (hcd : (x == ("__classdict__" : Str)) = false := by decide) : PE X (.Name x pos) (tVar i) := pe_var hN hv hd hcd
end
/-! ### tests -/
theorem iteF {A B : Prop} (h : B) : if false = true then A else B := by
  rw [if_neg Bool.false_ne_true]
  exact h
theorem iteT {A B : Prop} (h : A) : if true = true then A else B := by
  rw [if_pos rfl]
  exact h
theorem ite2 {c A B : Prop} [Decidable c] (h1 : c → A) (h2 : ¬ c → B) : if c then A else B := by
  by_cases h : c
  · rw [if_pos h]
    exact h1 h
  · rw [if_neg h]
    exact h2 h
theorem iteNS {c A B : Prop} [Decidable c] (hc : c) (h : B) : if (!decide c) = true then A else B := by
  rw [decide_eq_true hc]
  exact iteF h
/-! ### heaps -/
/-- all that was tracked is as it was -/
def Same (H H' : Hp) : Prop := ∀ b o, H b = some o → H' b = some o
theorem Same.refl (H : Hp) : Same H H := fun _ _ h => h
theorem Same.trans {H H1 H2 : Hp} (a : Same H H1) (b : Same H1 H2) : Same H H2 := fun c o h => b c o (a c o h)
theorem Same.seq {K : PySem.W.Frag} {H H' : Hp} {a : Addr} {xs : List V} (e : Same H H') (h : SqL K H a xs) : SqL K H' a xs := by
  rcases h with (h | ⟨o, h⟩) | h
  · exact .inl (.inl (e _ _ h))
  · exact .inl (.inr ⟨o, e _ _ h⟩)
  · exact .inr h
end L2
set_option Elab.async false
set_option linter.all false
set_option maxRecDepth 100000
namespace LN
/-- a size: below 2 to the power n, without the sign -/
def Bd (n : Nat) (i : Int) : Prop := i.natAbs < 2 ^ n
theorem Bd.mono {m n : Nat} {i : Int} (h : Bd m i) (hmn : m ≤ n) : Bd n i :=
  Nat.lt_of_lt_of_le h (Nat.pow_le_pow_right (by decide) hmn)
theorem Bd.log2 {n : Nat} {i : Int} (h : Bd n i) (hn : 0 < n) : i.natAbs.log2 < n := by
  by_cases h0 : i.natAbs = 0
  · rw [h0]
    exact Nat.lt_of_le_of_lt (by decide : Nat.log2 0 ≤ 0) hn
  · exact (Nat.log2_lt h0).mpr h
theorem Bd.of_abs {n : Nat} {i : Int} {b : Nat} (h1 : -(b : Int) ≤ i) (h2 : i ≤ (b : Int)) (hb : b < 2 ^ n) : Bd n i := by
  unfold Bd
  omega
/-! ### powers by squares -/
/-! ### how often p divides -/
end LN
set_option Elab.async false
set_option linter.all false
set_option maxRecDepth 100000
namespace LN
/-! ### the greatest common divisor -/
end LN
set_option Elab.async false
set_option linter.all false
set_option maxRecDepth 100000
/-! WHAT ALL MY LAWS USE: the built-ins' names, kinds of things, cells of the script. -/
namespace L2
open PySem PySem.Spec PyProof.Rows
theorem bt_int : bootBuiltins "int" = some (.type "int") := by decide +kernel
theorem bt_bool : bootBuiltins "bool" = some (.type "bool") := by decide +kernel
theorem bt_tuple : bootBuiltins "tuple" = some (.type "tuple") := by decide +kernel
theorem bt_isinstance : bootBuiltins "isinstance" = some (.builtin "isinstance") := by decide +kernel
theorem bt_len : bootBuiltins "len" = some (.builtin "len") := by decide +kernel
theorem bt_any : bootBuiltins "any" = some (.builtin "any") := by decide +kernel
section
variable {es : List Expr} {env : Env} {pos : Pos}
theorem star_Constant {c : Const} {k : Nat} : starEach (.Constant c k pos :: es) env = (false, eval (.Constant c k pos) env) :: starEach es env := by rw [starEach]; intro e p z; cases z
theorem star_Name {x : Str} : starEach (.Name x pos :: es) env = (false, eval (.Name x pos) env) :: starEach es env := by rw [starEach]; intro e p z; cases z
theorem star_List {l : List Expr} : starEach (.List l pos :: es) env = (false, eval (.List l pos) env) :: starEach es env := by rw [starEach]; intro e p z; cases z
theorem star_Tuple {l : List Expr} {k : Nat} : starEach (.Tuple l k pos :: es) env = (false, eval (.Tuple l k pos) env) :: starEach es env := by rw [starEach]; intro e p z; cases z
theorem star_Dict {a : List (Option Expr)} {b : List Expr} : starEach (.Dict a b pos :: es) env = (false, eval (.Dict a b pos) env) :: starEach es env := by rw [starEach]; intro e p z; cases z
theorem star_BinOp {a b : Expr} {o : Operator} : starEach (.BinOp a o b pos :: es) env = (false, eval (.BinOp a o b pos) env) :: starEach es env := by rw [starEach]; intro e p z; cases z
theorem star_Call {f : Expr} {a : List Expr} {k : List Keyword} : starEach (.Call f a k pos :: es) env = (false, eval (.Call f a k pos) env) :: starEach es env := by rw [starEach]; intro e p z; cases z
theorem star_Subscript {a b : Expr} : starEach (.Subscript a b pos :: es) env = (false, eval (.Subscript a b pos) env) :: starEach es env := by rw [starEach]; intro e p z; cases z
end
theorem same_new {H : Hp} {p : Addr} (h : H p = none) (o : HO) : Same H (upd H p o) := fun b u q => by rw [upd_ne (ne_of_none q h)]; exact q
theorem Same.seqT {K : PySem.W.Frag} {H H' : Hp} {a : Addr} {xs : List V} (e : Same H H') (h : SqT K H a xs) : SqT K H' a xs := by
  rcases h with (h | ⟨o, h⟩) | h
  · exact .inl (.inl (e _ _ h))
  · exact .inl (.inr ⟨o, e _ _ h⟩)
  · exact .inr h
theorem TyOf.same {K : PySem.W.Frag} {H H' : Hp} {v : V} {t : Value} (ty : TyOf K H v t) (e : Same H H') : TyOf K H' v t := by
  cases ty with
  | non => exact .non
  | bl x => exact .bl x
  | int i => exact .int i
  | str x => exact .str x
  | flt x => exact .flt x
  | lst h => exact .lst (e _ _ h)
  | frz h => exact .frz (e _ _ h)
  | tup h => exact .tup (e _ _ h)
  | dK h => exact .dK (e _ _ h)
  | dT h => exact .dT (e _ _ h)
  | ins h cl ha hn htk hm => exact .ins (e _ _ h) cl ha hn htk hm
/-- the kinds of things that are drawn -/
inductive Kind : String → Bool → Bool → Bool → Prop where
  | non : Kind "NoneType" false false false
  | bl : Kind "bool" true true false
  | int : Kind "int" true false false
  | str : Kind "str" false false false
  | lst : Kind "list" false false false
  | tup : Kind "tuple" false false true
  | dct : Kind "dict" false false false
theorem Kind.kit_int {K : PySem.W.Frag} {t : String} {i b u : Bool} (k : Kind t i b u) : PySem.W.kitOne K (.type t) (.type "int") = some i := by
  cases k <;> kernel_rfl
theorem Kind.kit_bool {K : PySem.W.Frag} {t : String} {i b u : Bool} (k : Kind t i b u) : PySem.W.kitOne K (.type t) (.type "bool") = some b := by
  cases k <;> kernel_rfl
theorem Kind.kit_tuple {K : PySem.W.Frag} {t : String} {i b u : Bool} (k : Kind t i b u) : PySem.W.kitOne K (.type t) (.type "tuple") = some u := by
  cases k <;> kernel_rfl
def isI : V → Bool
  | .int _ => true
  | _ => false
/-- a thing: of one of these kinds -/
def Thing (K : PySem.W.Frag) (H : Hp) (v : V) : Prop := ∃ t i b u, Kind t i b u ∧ TyOf K H v (.type t) ∧ (i && !b) = isI v
theorem Thing.same {K : PySem.W.Frag} {H H' : Hp} {v : V} (h : Thing K H v) (e : Same H H') : Thing K H' v := by
  obtain ⟨t, i, b, u, k, ty, q⟩ := h
  exact ⟨t, i, b, u, k, ty.same e, q⟩
section
variable {K : PySem.W.Frag} {H : Hp}
theorem Thing.int (i : Int) : Thing K H (.int i) := ⟨_, _, _, _, .int, .int i, rfl⟩
end
/-- is_whole, _law_number: of any thing -/
def spWhole (K : PySem.W.Frag) : Sp := fun vs H Q _ => ∃ v, vs = [v] ∧ Thing K H v ∧ Q (.bl (isI v)) H
/-- a cell of the script -/
def spCell (K : PySem.W.Frag) : Sp := fun vs H Q _ => ∃ (a : Addr) (ns : List Int) (k : Nat), vs = [.ref a, .int (k : Int)] ∧ SqL K H a (ns.map V.int) ∧ Q (.int (ns.getD k 0)) H
/-- what law(script) promises -/
def spLaw (K : PySem.W.Frag) : Sp := fun vs H Q _ => ∃ (a : Addr) (ns : List Int), vs = [.ref a] ∧ SqL K H a (ns.map V.int) ∧ ns.length ≤ 63 ∧ ∀ H', Q (.bl true) H'
theorem small {n : Nat} (h : n ≤ 1000) : n ≤ sizeLine := Nat.le_of_lt (small1000 h)
theorem small9 {n : Nat} (h : n ≤ 8000) : n < sizeLine := Nat.lt_of_le_of_lt h (by decide)
theorem cell_there {ns : List Int} {k : Nat} (h : k < ns.length) : atI (ns.map V.int) (k : Int) = some (.int (ns.getD k 0)) := by
  refine atI_nat ?_
  rw [List.getElem?_map, List.getElem?_eq_getElem h, List.getD_eq_getElem?_getD, List.getElem?_eq_getElem h]
  rfl
theorem cell_none {ns : List Int} {k : Nat} (h : ¬ k < ns.length) : ns.getD k 0 = 0 := by
  rw [List.getD_eq_getElem?_getD, List.getElem?_eq_none (by omega)]
  rfl
/-- the item of a written list at a rest -/
theorem at_rest {xs : List V} {i : Int} {P : V → Prop} (h0 : 0 ≤ i) (h1 : i < (xs.length : Int)) (h : ∀ v ∈ xs, P v) : ∃ v, atI xs i = some v ∧ P v := by
  have hk : i.toNat < xs.length := by omega
  have ek : i = ((i.toNat : Nat) : Int) := by omega
  refine ⟨xs[i.toNat], ?_, h _ (List.getElem_mem hk)⟩
  have q : atI xs ((i.toNat : Nat) : Int) = some xs[i.toNat] := atI_nat (List.getElem?_eq_getElem hk)
  rw [← ek] at q
  exact q
/-- a test upon ints that is known -/
theorem iteI {a b : Int} {A B : Prop} (h1 : a = b → A) (h2 : a ≠ b → B) : if decide (V.int a = V.int b) = true then A else B := by
  rw [dec_int]
  by_cases h : a = b
  · rw [h, beq_self_eq_true]
    exact iteT (h1 h)
  · rw [beq_eq_false_iff_ne.mpr h]
    exact iteF (h2 h)
theorem iteL {a b : Int} {A B : Prop} (h1 : a < b → A) (h2 : ¬ a < b → B) : if decide (a < b) = true then A else B :=
  ite2 (fun h => h1 (of_decide_eq_true h)) fun h => h2 fun z => h (decide_eq_true z)
end L2
set_option Elab.async false
set_option linter.all false
set_option maxRecDepth 100000
/-! RULES OF MY OWN over the layer: isinstance, bit_length, a range downwards, reversed, great products and quotients, an empty dict. -/
namespace L2
open PySem PySem.Spec PyProof.Rows
section
variable {X : Cx}
/-- isinstance(x, c), c a built-in type -/
def rInst (K : PySem.W.Frag) : List V → Hp → VK → Prop := fun xs H Q => ∃ (x : V) (n : String) (t : Value) (b : Bool), xs = [x, .ty n] ∧ TyOf K H x t ∧ PySem.W.kitOne K t (.type n) = some b ∧ Q (.bl b) H
theorem call_inst : CallR X (.builtin "isinstance") (rInst X.K) := by
  intro pins s σ H xs us Q I r h
  obtain ⟨x, n, t, b, rfl, ty, e, q⟩ := h
  obtain ⟨u, c, rfl, ru, rc⟩ := vals2 r
  cases (show c = Value.type n from rc)
  exact isinst_ok I ru ty e fun tk => ⟨.bl b, H, I.tok _, rfl, q⟩
/-- products and quotients of great numbers -/
def CMulB (i j : Int) : Prop := LN.Bd 1000000 i ∧ LN.Bd 1000000 j
theorem CMulB.ok {i j : Int} (h : CMulB i j) : IntMulOk i j :=
  IntMulOk.of_bits (Nat.le_trans (intBits_le_iff.mpr h.1) (by decide)) (Nat.le_trans (intBits_le_iff.mpr h.2) (by decide))
theorem op_mulB : OpR X (binaryOp .Mult) (rI CMulB fun i j => .int (i * j)) := opI fun _ _ _ _ _ _ _ hc q => mul_int q hc.ok
def CDivB (_i j : Int) : Prop := 0 < j ∧ LN.Bd 8000 j
theorem op_fdivB : OpR X (binaryOp .FloorDiv) (rI CDivB fun i j => .int (i / j)) := opI fun i j _ _ _ _ _ hc q => by
  have h1 : (0 : Int) < j := hc.1
  exact floordiv_int (by omega) (by rw [Int.fdiv_eq_ediv_of_nonneg i (by omega)]; exact q) (.inl (PyProof.noPylong_of_log2 (Nat.lt_of_lt_of_le (hc.2.log2 (by decide)) (by decide))))
theorem Inv.big2 {pins : List (Addr × Obj)} {σ : St} {H : Hp} {s : Shared} (I : Inv X pins σ H s) : sysModules < s.heap.objs.size := by
  have h : mainGlobals < s.heap.objs.size := (I.mod.glob.keeps I.bk).lt
  exact Nat.lt_trans (by decide) h
def tDNew2 : TE := fun _ H Q => ∀ p, H p = none → Q (.ref p) (upd H p (.dK []))
theorem pe_dnew2 {pos : Pos} : PE X (.Dict [] [] pos) tDNew2 := fun pins s σ H Q I h =>
  wpAny_Dict_empty ⟨.ref s.heap.objs.size, _, I.laid (a := s.heap.objs.size) (o := .dK []) (t' := s.toks) (fun _ _ q => Heap.get?_push_of_some _ q) (Nat.le_refl _)
    ⟨Nat.zero_le _, beq_eq_false_iff_ne.mpr (Ne.symm (Nat.ne_of_lt I.big2)), [], .nil, Heap.DictOf.new s.heap⟩, rfl, h _ (I.hok.fresh (Nat.le_refl _))⟩
end
/-! ### a range downwards -/
section
variable {X : Cx} {tg : Expr}
end
/-! ### reversed(a list) -/
/-- the list at a, xs of it, from behind -/
def Itv (K : PySem.W.Frag) (a : Addr) (xs : List V) : It :=
  ⟨fun i H => SqL K H a xs ∧ i < xs.length, fun i H x H' => H' = H ∧ xs[xs.length - 1 - i]? = some x, fun i H => SqL K H a xs ∧ xs.length = i⟩
theorem turn_rev {P : Program} {w : World} {K : PySem.W.Frag} {tg : Expr} (a it : Addr) (xs : List V) : Turn P w K tg (Itv K a xs) [it] it (fun i h => i ≤ xs.length ∧ h.IsRevIter it a ((xs.length : Int) - 1 - (i : Int))) where
  mem := by simp
  obj := fun i h st b hb => by
    have e : b = it := by simpa using hb
    subst e
    obtain ⟨_, o, e, c, d⟩ := st
    exact ⟨o, e, fun v z => by rw [d] at z; cases z⟩
  keep := fun i h h' st k => ⟨st.1, st.2.at fun o e => k it (by simp) o e⟩
  item := by
    intro X hP hw hK hc i pins s σ H E I hf st hg
    subst hP hw hK
    obtain ⟨hq, hi⟩ := hg
    obtain ⟨its, rv, p, hz⟩ := I.list hq
    have hx : xs[xs.length - 1 - i]? = some (xs[xs.length - 1 - i]'(by omega)) := List.getElem?_eq_getElem (by omega)
    obtain ⟨u, hu, ru⟩ := rv.get hx
    obtain ⟨f0, f1, f2, f3, f4, f5⟩ := hf it (by simp)
    obtain ⟨_, st⟩ := st
    have e : (xs.length : Int) - 1 - (i : Int) = ((xs.length - 1 - i : Nat) : Int) := by omega
    rw [e] at st
    refine wpAny_pyNext_rev_item st p.isList (x := u) (by simpa using hu) fun h' st' sb => ?_
    have e2 : ((xs.length - 1 - i : Nat) : Int) - 1 = (xs.length : Int) - 1 - ((i + 1 : Nat) : Int) := by omega
    rw [e2] at st'
    have I1 : Inv X pins σ H { s with heap := h' } := I.turned (t' := s.toks) (fun b o hb e => (sb.2 b hb).trans e) f0 f1 f3 f4 f5
    obtain ⟨o, e, c, d⟩ := id st'
    exact ⟨u, rfl, go_of (s := { s with heap := h' }) e c d (by decide) ⟨_, H, I1, ru, ⟨rfl, hx⟩, ⟨hi, st'⟩, fun b hb => (hf b hb).1⟩⟩
  done := by
    intro X hP hw hK hc i pins s σ H E I hf st hg
    subst hP hw hK
    obtain ⟨hq, hi⟩ := hg
    obtain ⟨f0, f1, f2, f3, f4, f5⟩ := hf it (by simp)
    obtain ⟨_, st⟩ := st
    have e : (xs.length : Int) - 1 - (i : Int) = -1 := by omega
    rw [e] at st
    exact wpAny_pyNext_rev_end (I.ok.hd hc) st fun h' eb => ⟨rfl, I.turned (t' := s.toks) (fun b o hb e => eb b o hb e) f0 f1 f3 f4 f5⟩
  self := fun _ _ _ _ _ st h => wpAny_pyIter_revIter st.2 h
section
variable {X : Cx} {tg : Expr}
def iRev (K : PySem.W.Frag) (ta : TA) : TI := fun σ H R => ta σ H fun vs H1 => ∃ a xs, vs = [.ref a] ∧ SqL K H1 a xs ∧ R (Itv K a xs) H1
theorem pi_rev {a : Expr} {ta : TA} {p pos : Pos} (hg : Gl X "reversed") (hm : X.mg "reversed" = none) (ha : PA X [a] ta) (hs : starEach [a] X.env = [(false, eval a X.env)] := by rfl) : PI X tg (.Call (.Name "reversed" p) [a] [] pos) (iRev X.K ta) := by
  intro pins s σ H R I h
  refine Call_ (ld_blt I hg hm boot_reversed (PyProof.Rows.callWith_type1 (thn (ha pos pins s σ H _ I h) fun us s1 ⟨vs, H1, I1, r1, q1⟩ => ?_) hs rfl))
  obtain ⟨l, xs, e, hq, q⟩ := q1
  subst e
  cases r1 with
  | cons r rr =>
    cases rr
    cases (show _ = Value.ref l from r)
    obtain ⟨its, rv, pl, hz⟩ := I1.list hq
    refine call_reversed_list pl.isList ?_
    have hl := rv.length
    have ho : (s1.heap.push (revObj l ((its.toArray.size : Int) - 1))).IsRevIter s1.heap.objs.size l ((its.toArray.size : Int) - 1) := ⟨_, Heap.get?_push_size _ rfl, rfl, rfl⟩
    refine wpAny_pyIter_revIter (s := { s1 with heap := s1.heap.push (revObj l ((its.toArray.size : Int) - 1)) }) ho ?_
    refine ⟨s1.heap.objs.size, [s1.heap.objs.size], _, _, H1, rfl, I1.kept (t' := s1.toks) fun b o e => Heap.get?_push_of_some _ e, turn_rev l _ xs, ⟨Nat.zero_le _, ?_⟩, fun b hb => ?_, q⟩
    · have e : (xs.length : Int) - 1 - ((0 : Nat) : Int) = (its.toArray.size : Int) - 1 := by rw [hl]; simp
      rw [e]
      exact ho
    · have e : b = s1.heap.objs.size := by simpa using hb
      subst e
      exact I1.fpOk (Nat.le_refl _) (I1.hok.fresh (Nat.le_refl _))
theorem for_rev {K : PySem.W.Frag} {a : Addr} {xs : List V} {g : TG} {tb : TS} {D : Ends} {σ : St} {H : Hp} (Pv : Nat → St → Hp → Prop) (h0 : Pv 0 σ H) (hl : ∀ i σ H, i ≤ xs.length → Pv i σ H → SqL K H a xs)
    (hs : ∀ i x σ H, xs[xs.length - 1 - i]? = some x → i < xs.length → Pv i σ H → g x σ H fun σ2 H2 => tb { D with nx := Pv (i + 1), ct := Pv (i + 1), bk := D.nx } σ2 H2) (hd : ∀ σ H, Pv xs.length σ H → D.nx σ H) :
    ∃ W : Nat → Nat → St → Hp → Prop, (∃ m, W 0 m σ H) ∧ ∀ i m σ H, W i m σ H →
      ((Itv K a xs).stop i H ∧ D.nx σ H) ∨ ((Itv K a xs).go i H ∧ ∃ N : St → Hp → Prop, (∀ σ' H', N σ' H' → ∃ m', m' < m ∧ W (i + 1) m' σ' H') ∧ ∀ x H', (Itv K a xs).yld i H x H' → g x σ H' fun σ2 H2 => tb { D with nx := N, ct := N, bk := D.nx } σ2 H2) := by
  refine ⟨fun i m σ H => m = xs.length - i ∧ i ≤ xs.length ∧ Pv i σ H, ⟨xs.length, by simp, Nat.zero_le _, h0⟩, ?_⟩
  rintro i m σ H ⟨rfl, hi, p⟩
  have q := hl i σ H hi p
  by_cases hlt : i < xs.length
  · refine .inr ⟨⟨q, hlt⟩, Pv (i + 1), fun σ' H' p' => ⟨xs.length - (i + 1), by omega, rfl, hlt, p'⟩, fun x H' y => ?_⟩
    obtain ⟨e, y⟩ := y
    subst e
    exact hs i x σ _ y hlt p
  · have e : i = xs.length := by omega
    subst e
    exact .inl ⟨⟨q, rfl⟩, hd σ H p⟩
end
end L2
set_option Elab.async false
set_option linter.all false
set_option maxRecDepth 100000
/-! The layer's judgements, wrapped: a structure is not unfolded when a long body is matched. -/
namespace L2
open PySem PySem.Spec PyProof.Rows
structure QE (X : Cx) (e : Expr) (t : TE) : Prop where
  ok : PE X e t
structure QT (X : Cx) (e : Expr) (t : TT) : Prop where
  ok : PT X e t
structure QW (X : Cx) (e : Expr) (t : TT) : Prop where
  ok : PW X e t
structure QA (X : Cx) (es : List Expr) (t : TA) : Prop where
  ok : PA X es t
structure QS (X : Cx) (st : Stmt) (t : TS) : Prop where
  ok : PS X st t
structure QSs (X : Cx) (st : List Stmt) (t : TS) : Prop where
  ok : PSs X st t
structure QI (X : Cx) (tg iter : Expr) (wi : TI) : Prop where
  ok : PI X tg iter wi
structure QG (X : Cx) (tg : Expr) (t : TG) : Prop where
  ok : PG X tg t
section
variable {X : Cx} {a b e o : Expr} {es rest : List Expr} {ta tb te : TE} {tA tB' : TT} {t : TA} {pos p cpos apos : Pos} {st : Stmt} {sts : List Stmt} {u v : TS}
theorem qpe_int {i j pos} : QE X (.Constant (.int i) j pos) (tC (.int i)) := ⟨pe_int⟩
theorem qpe_bl {b j pos} : QE X (.Constant (.bool b) j pos) (tC (.bl b)) := ⟨pe_bl⟩
theorem qpe_non {j pos} : QE X (.Constant .none j pos) (tC .non) := ⟨pe_non⟩
theorem qpe_str {x j pos} : QE X (.Constant (.str x) j pos) (tC (.str x)) := ⟨pe_str⟩
theorem qpv (i : Nat) {x : Str} {pos : Pos} (hN : X.N[i]? = some x := by rfl) (hv : Vis X.env.scope x := by first | exact Or.inl rfl | exact Or.inr (Or.inl rfl) | exact Or.inr (Or.inr rfl)) (hd : (x == ("__debug__" : Str)) = false := by decide)
    (hcd : (x == ("__classdict__" : Str)) = false := by decide) : QE X (.Name x pos) (tVar i) := ⟨pe_var hN hv hd hcd⟩
theorem qpe_glob {x : Str} {v : V} {u : Value} {pos : Pos} (hg : Gl X x) (hm : X.mg x = some u) (r : RelV v u) (hd : (x == ("__debug__" : Str)) = false := by decide) : QE X (.Name x pos) (tC v) := ⟨pe_glob hg hm r hd⟩
theorem qpe_bltn {x : Str} {v : V} {u : Value} {pos : Pos} (hg : Gl X x) (hm : X.mg x = none) (hv : bootBuiltins x = some u) (r : RelV v u) (hn : x ≠ "__name__" := by decide) (hd : (x == ("__debug__" : Str)) = false := by decide) : QE X (.Name x pos) (tC v) := ⟨pe_bltn hg hm hv r hn hd⟩
theorem qpe_op {op : Operator} {r : R2} (ho : OpR X (binaryOp op) r) (ha : QE X a ta) (hb : QE X b tb) : QE X (.BinOp a op b pos) (tOp r ta tb) := ⟨pe_op ho ha.ok hb.ok⟩
theorem qpe_not (ha : QE X a ta) : QE X (.UnaryOp .Not a pos) (tNotV ta) := ⟨pe_not ha.ok⟩
theorem qpe_one {op} (h : QE X a ta) : QE X (.BoolOp op [a] pos) ta := ⟨pe_one h.ok⟩
theorem qpe_and (ha : QE X a ta) (hb : QE X (.BoolOp .And (b :: rest) pos) tb) : QE X (.BoolOp .And (a :: b :: rest) pos) (tAndV ta tb) := ⟨pe_and ha.ok hb.ok⟩
theorem qpe_or (ha : QE X a ta) (hb : QE X (.BoolOp .Or (b :: rest) pos) tb) : QE X (.BoolOp .Or (a :: b :: rest) pos) (tOrV ta tb) := ⟨pe_or ha.ok hb.ok⟩
theorem qpe_cmpR {op : CmpOp} {r : R2} (ho : OpR X (compareOp op) r) (ha : QE X a ta) (hb : QE X b tb) (hm : behindInMarks op b = false) : QE X (.Compare a [op] [b] pos) (tOp r ta tb) := ⟨pe_cmpR ho ha.ok hb.ok hm⟩
theorem qpt_cmpR {op : CmpOp} {r : R2} (ho : OpR X (compareOp op) r) (ha : QE X a ta) (hb : QE X b tb) (hm : behindInMarks op b = false) : QT X (.Compare a [op] [b] pos) (tTest (tOp r ta tb)) := ⟨pt_cmpR ho ha.ok hb.ok hm⟩
theorem qpt_val (h : QE X e te) (he : ∀ whole, isTrue e X.env whole = (do let v ← whole; standAt e.pos; holding [v] (truthy v)) := by intro _; rfl) : QT X e (tB te) := ⟨pt_val h.ok he⟩
theorem qpt_not (ha : QT X a tA) : QT X (.UnaryOp .Not a pos) (tNot tA) := ⟨pt_not ha.ok⟩
theorem qpw_and1 (ha : QT X a tA) : QW X (.BoolOp .And [a] pos) tA := ⟨pw_and1 ha.ok⟩
theorem qpw_or1 (ha : QT X a tA) : QW X (.BoolOp .Or [a] pos) tA := ⟨pw_or1 ha.ok⟩
theorem qpw_and (ha : QT X a tA) (hb : QW X (.BoolOp .And (b :: rest) pos) tB') : QW X (.BoolOp .And (a :: b :: rest) pos) (tAnd tA tB') := ⟨pw_and ha.ok hb.ok⟩
theorem qpw_or (ha : QT X a tA) (hb : QW X (.BoolOp .Or (b :: rest) pos) tB') : QW X (.BoolOp .Or (a :: b :: rest) pos) (tOr tA tB') := ⟨pw_or ha.ok hb.ok⟩
theorem QW.pt (h : QW X e tA) : QT X e tA := ⟨PW.pt h.ok⟩
theorem qpa_nil : QA X [] tNil := ⟨pa_nil⟩
theorem qpa_cons (ha : QE X e te) (hr : QA X es t) (hs : starEach (e :: es) X.env = (false, eval e X.env) :: starEach es X.env := by rfl) : QA X (e :: es) (tCons te t) := ⟨pa_cons ha.ok hr.ok hs⟩
theorem qpe_tup {x1} (h : QA X es t) : QE X (.Tuple es x1 pos) (tTup t) := ⟨pe_tup h.ok⟩
theorem qpe_lst (h : QA X es t) : QE X (.List es pos) (tLst t) := ⟨pe_lst h.ok⟩
theorem qpe_dnew2 : QE X (.Dict [] [] pos) tDNew2 := ⟨pe_dnew2⟩
theorem qpe_ix {r : R2} (hr : IxR X r) (ha : QE X a ta) (hb : QE X b tb) (hs : PlainIx b) : QE X (.Subscript a b pos) (tOp r ta tb) := ⟨pe_ix hr ha.ok hb.ok hs⟩
theorem qpe_call {CX : CXT} {k : Nat} {f : Addr} {fd : FuncData} {ps : List Str} {sp : Sp} {dvs : List V} {ds : List Value} {E : XK} {x : Str} (F : FnOk X.prog X.w X.K X.mg X.base CX k f fd ps sp) (hr : Room k X.A) (hg : Gl X x) (hm : X.mg x = some (.ref f)) (hk : PySem.W.keepIn X.K (.ref f) = true) (hb : Binds X.K fd ps ds) (hd : Vals dvs ds) (hx : Passes CX X E)
    (ha : QA X (e :: es) t) (hdb : (x == ("__debug__" : Str)) = false := by decide) (he : starEach (e :: es) X.env = (false, eval e X.env) :: starEach es X.env := by rfl) (hpl : (backTo pos (starEach es X.env)).any (·.1) = false := by rfl) :
    QE X (.Call (.Name x p) (e :: es) [] pos) (tCall sp dvs E t) := ⟨pe_call F hr hg hm hk hb hd hx ha.ok hdb he hpl⟩
theorem qpe_call0 {CX : CXT} {k : Nat} {f : Addr} {fd : FuncData} {ps : List Str} {sp : Sp} {dvs : List V} {ds : List Value} {E : XK} {x : Str} (F : FnOk X.prog X.w X.K X.mg X.base CX k f fd ps sp) (hr : Room k X.A) (hg : Gl X x) (hm : X.mg x = some (.ref f)) (hk : PySem.W.keepIn X.K (.ref f) = true) (hb : Binds X.K fd ps ds) (hd : Vals dvs ds) (hx : Passes CX X E)
    (hdb : (x == ("__debug__" : Str)) = false := by decide) : QE X (.Call (.Name x p) [] [] pos) (tCall sp dvs E tNil) := ⟨pe_call0 F hr hg hm hk hb hd hx hdb⟩
theorem qpe_callB {id : String} {x : Str} {r : List V → Hp → VK → Prop} (hc : CallR X (.builtin id) r) (hg : Gl X x) (hm : X.mg x = none) (hv : bootBuiltins x = some (.builtin id)) (ha : QA X (e :: es) t) (hn : x ≠ "__name__" := by decide) (hdb : (x == ("__debug__" : Str)) = false := by decide)
    (he : starEach (e :: es) X.env = (false, eval e X.env) :: starEach es X.env := by rfl) (hpl : (backTo pos (starEach es X.env)).any (·.1) = false := by rfl) : QE X (.Call (.Name x p) (e :: es) [] pos) (tCB r t) := ⟨pe_callB hc hg hm hv ha.ok hn hdb he hpl⟩
theorem qpe_bm {T id : String} {name : Str} {to : TE} {r : V → List V → Hp → VK → Prop} (pa : PlainAttrs T) (slot : Slot T name id) (hty : typeOf (.builtin id) = pure (.type "method_descriptor")) (hm : MtR X id r) (ho : QE X o to) (ha : QA X (e :: es) t)
    (hbase : attributeBase o name X.env (eval o X.env) = eval o X.env := by rfl)
    (hfew : ((backTo cpos (starEach (e :: es) X.env)).all (fun x => !x.1) && (backToKw cpos (keywordEach [] X.env)).all (fun x => x.1.isSome)
      && decide ((e :: es).length + ([] : List Keyword).length + (if ([] : List Keyword).isEmpty then 0 else 1) < 30)) = true := by rfl)
    (hline : (apos.endLine == cpos.line) = true := by rfl) (hs : starEach (e :: es) X.env = (false, eval e X.env) :: starEach es X.env := by rfl) (hplain : (backTo cpos (starEach es X.env)).any (·.1) = false := by rfl) :
    QE X (.Call (.Attribute o name apos) (e :: es) [] cpos) (tBM X.K T r to t) := ⟨pe_bm pa slot hty hm ho.ok ha.ok hbase hfew hline hs hplain⟩
theorem qpss_nil : QSs X [] tNext := ⟨pss_nil⟩
theorem qpss_cons (h1 : QS X st u) (h2 : QSs X sts v) : QSs X (st :: sts) (tSeq u v) := ⟨pss_cons h1.ok h2.ok⟩
theorem qpss_one (h1 : QS X st u) : QSs X [st] u := ⟨pss_one h1.ok⟩
theorem qps_ret (he : QE X e te) : QS X (.Return (some e) pos) (tRet te) := ⟨ps_ret he.ok⟩
theorem qps_if {c : Expr} {a b : List Stmt} {tc : TT} (hc : QT X c tc) (ha : QSs X a u) (hb : QSs X b v) : QS X (.If c a b pos) (tIfS tc u v) := ⟨ps_if hc.ok ha.ok hb.ok⟩
theorem qps_set {i : Nat} {x : Str} {pos' : Pos} (hN : X.N.Nodup) (hi : X.N[i]? = some x) (hx : Loc X.env.scope x) (he : QE X e te) (hs : swapsWith e (some (.Name x pos')) pos.line X.env = pure false := by rfl) (hf : X.fn x = true ∨ X.env.scope.names.lookup x = some .local := by first | exact .inl rfl | exact .inr rfl | assumption) :
    QS X (.Assign [.Name x pos'] e pos) (tAsg te (gName i)) := ⟨ps_set hN hi hx he.ok hs hf⟩
theorem qps_asg {tg : Expr} {g : TG} (he : QE X e te) (hg : QG X tg g) (hs : swapsWithSole [tg] e pos.line X.env = pure false := by rfl) (hw : swappedStores [tg] e X.env = pure none := by rfl)
    (h1 : (assignEach [tg] X.env).map (·.2) = [assign tg X.env] := by rfl) : QS X (.Assign [tg] e pos) (tAsg te g) := ⟨ps_asg he.ok hg.ok hs hw h1⟩
theorem qpg_name {i : Nat} {x : Str} (hN : X.N.Nodup) (hi : X.N[i]? = some x) (hx : Loc X.env.scope x) (hf : X.fn x = true ∨ X.env.scope.names.lookup x = some .local := by first | exact .inl rfl | exact .inr rfl | assumption) : QG X (.Name x pos) (gName i) := ⟨pg_name hN hi hx hf⟩
theorem qps_for {tg iter : Expr} {body : List Stmt} {wi : TI} {g : TG} (hp : PassesOwn (model X.prog X.w) X.A X.env X.xe) (hc : X.calm = true) (hi : QI X tg iter wi) (hg : QG X tg g) (hb : QSs X body u)
    (hs : ∀ x, foldedSetIterable iter X.env x = pure x := by intro _; rfl) : QS X (.For tg iter body [] pos) (tFor wi g u) := ⟨ps_for hp hc hi.ok hg.ok hb.ok hs⟩
theorem qpi_list {tg l : Expr} {tl : TE} (hl : QE X l tl) : QI X tg l (iList X.K tl) := ⟨pi_list hl.ok⟩
theorem qpi_rev {tg : Expr} (hg : Gl X "reversed") (hm : X.mg "reversed" = none) (ha : QA X [a] t) (hs : starEach [a] X.env = [(false, eval a X.env)] := by rfl) : QI X tg (.Call (.Name "reversed" p) [a] [] pos) (iRev X.K t) := ⟨pi_rev hg hm ha.ok hs⟩
end
section
variable {P : Program} {w : World} {K : PySem.W.Frag} {mg : Str → Option Value} {base : Heap}
theorem Fun.okq {x qual : Str} {st : Stmt} {f : Addr} {fd : FuncData} {N ps : List Str} {k : Nat} {sp : Sp} (F : Fun K x qual st f fd) (S : FnScope N ps (defScope st)) (len : ∀ vs H Q E, sp vs H Q E → vs.length = ps.length)
    (hbody : ∀ (cdv : Value) (A : Around) (outer : List Env) (s : Shared) (H : Hp) (vs : List V) (Q : VK) (E : XK), Room k (A.deeper (envOfC qual (defScope st) s.heap.objs.size f cdv)) → sp vs H Q E →
      ∃ t, QSs (cxOf CX0 P w K mg base N qual (defScope st) f cdv A outer s H E).nox (defBody st) t ∧ t { nx := fun _ H' => Q .non H', rt := Q } (start N vs) H) : FnOk P w K mg base CX0 (k + 1) f fd ps sp :=
  F.ok S len fun cdv A outer s H vs Q E hr h => by
    obtain ⟨t, h1, h2⟩ := hbody cdv A outer s H vs Q E hr h
    exact ⟨t, h1.ok, h2⟩
end
end L2
set_option Elab.async false
set_option linter.all false
set_option maxRecDepth 100000
/-! EXCEPTIONS OF ONE'S OWN over the layer: raised, passing a frame, caught by their very class. -/
namespace L2
open PySem PySem.Spec PyProof.Rows
section
variable {P : Program} {w : World} {H : Hp} {h h' : Heap} {a e T : Addr} {o : HO} {l : List Env}
theorem ObjOk.got (x : ObjOk P w H h a o) : ∃ ob, h.get? a = some ob := by
  induction o with
  | lst xs => obtain ⟨_, its, n, _, q⟩ := x; exact ⟨_, q⟩
  | tup xs => obtain ⟨_, its, _, ob, q, _⟩ := x; exact ⟨_, q⟩
  | dK kvs => obtain ⟨_, _, vs, _, ob, es, ep, q, _⟩ := x; exact ⟨_, q⟩
  | dT kvs => obtain ⟨_, _, xs, _, ob, es, ep, q, _⟩ := x; exact ⟨_, q⟩
  | set S n => obtain ⟨ob, es, ep, t, q, _⟩ := x; exact ⟨_, q⟩
  | ins C dx fs => obtain ⟨_, _, _, q, _⟩ := x; exact ⟨_, q⟩
  | own y => exact x
  | xd fs => obtain ⟨mA, ⟨od, es, ep, q, _⟩, _⟩ := x; exact ⟨_, q⟩
  | rng lo hi => obtain ⟨t, u, v, q⟩ := x; exact ⟨_, q⟩
  | frz ob u ih => obtain ⟨q, _⟩ := x; exact ⟨_, q⟩
  | tbl ps => exact ⟨_, (show h.get? a = some _ from x)⟩
  | met f y => exact ⟨_, (show h.get? a = some _ from x)⟩
  | ext p => obtain ⟨_, q, _⟩ := x; exact q
theorem HOk.none_of (x : HOk P w H h) (q : h.get? a = none) : H a = none := by
  cases z : H a with
  | none => rfl
  | some o =>
    obtain ⟨ob, r⟩ := (x a o z).got
    rw [q] at r
    cases r
/-- frames are untracked and hold no record -/
def FrOk (H : Hp) (h : Heap) (l : List Env) : Prop := ∀ b ∈ frs l, H b = none ∧ ∃ o, h.get? b = some o ∧ ∀ vs, o.data ≠ .fields vs
end
section
variable {X : Cx} {pins : List (Addr × Obj)} {σ : St} {H H' : Hp} {s s' : Shared} {h' : Heap}
theorem Inv.frOk (I : Inv X pins σ H s) : FrOk H s.heap X.stack := fun b hb => ⟨I.stkFree b hb, (I.stack.mem hb).2⟩
end
/-! ### leaving a def's body -/
section
variable {P : Program} {w : World} {K : PySem.W.Frag} {mg : Str → Option Value} {base : Heap} {N : List Str} {qual : Str} {scope : Scope} {f : Addr} {cd : Value} {A : Around} {outer : List Env} {s0 : Shared} {H0 : Hp} {E : XK}
  {pins : List (Addr × Obj)} {σ : St} {H H' : Hp} {s s' : Shared} {h' : Heap} {e T : Addr} {cls : Value}
end
end L2
set_option Elab.async false
set_option linter.all false
set_option maxRecDepth 100000
/-! raise, try -/
namespace L2
open PySem PySem.Spec PyProof.Rows
/-- the bases of ValueError, itself first -/
abbrev bmVE : List Value := [.type "ValueError", .type "Exception", .type "BaseException", .type "object"]
theorem own_cls {K : PySem.W.Frag} {h : Heap} {mg : Str → Option Value} {x : Str} {C : Addr} {bmB : List Value} {newId : String} (X : K.In h) (hm : mg x = some (.ref C)) (q : PySem.W.excIn K C bmB newId = true) : OwnCls x C bmB newId mg h := by
  refine ⟨hm, ?_⟩
  unfold PySem.W.excIn at q
  split at q
  · rename_i dd cd sl ho
    split at q
    · rename_i C' bm k0 k1 k2 k3 n k5 hm hs
      simp only [Bool.and_eq_true, beq_iff_eq, Bool.not_eq_true'] at q
      obtain ⟨⟨⟨⟨⟨rfl, rfl⟩, hdel⟩, ht⟩, hok⟩, hni⟩ := q
      obtain ⟨nm, bs, mro, ns, qn, hd, sn, sub, ab, col, del⟩ := cd
      dsimp only at hm hdel hok hni
      subst hm hdel
      have hsl : sl = #[k0, k1, k2, k3, some (.builtin n), k5] := by
        obtain ⟨l⟩ := sl
        simp only at hs
        rw [hs]
      subst hsl
      exact ⟨bm, ns, nm, qn, bs, hd, sn, sub, ab, col, dd, k0, k1, k2, k3, k5, _, X _ _ ho, .of_isNs (PySem.W.isNs_of_in X hok), PySem.W.nsMap_none_of_in X hok hni, PySem.W.tail_of_in X ht⟩
    · cases q
  · cases q
def tRaise (E : XK) (C : Addr) (ta : TA) : TS := fun _ σ H => ta σ H fun vs H1 => vs.length ≤ sizeLine ∧ E (.ref C) none H1
/-- what a made exception does to the body that raises it -/
def Throws (X : Cx) (E : XK) (C : Addr) : Prop := ∀ (pins : List (Addr × Obj)) (σ : St) (H : Hp) (s : Shared) (h' : Heap) (e : Addr) (vs : List Value), Inv X pins σ H s → Heap.MadeExcOf s.heap h' e (.ref C) vs → E (.ref C) none H → X.xe (.ref e) { s with heap := h' }
section
variable {X : Cx} {x y : Str} {C : Addr} {a : Expr} {es : List Expr} {ta : TA} {np cpos pos epos hpos p : Pos} {E : XK}
theorem qps_raise (hx : Throws X E C) (hg : Gl X x) (hm : X.mg x = some (.ref C)) (q : PySem.W.excIn X.K C bmVE "ValueError.__new__" = true) (hc : X.calm = true) (ha : QA X (a :: es) ta)
    (he : starEach (a :: es) X.env = (false, eval a X.env) :: starEach es X.env := by rfl) (hpl : (backTo cpos (starEach es X.env)).any (·.1) = false := by rfl) (hd : (x == ("__debug__" : Str)) = false := by decide) :
    QS X (.Raise (some (.Call (.Name x np) (a :: es) [] cpos)) none pos) (tRaise E C ta) := ⟨by
  intro pins s σ H D I h
  obtain ⟨tl, N, nm, qn, bs, hdct, sn, sub, ab, col, dd, k0, k1, k2, k3, k5, mN, hC, hN, hni, T⟩ := (own_cls (h := X.base) I.ok.mod.kin hm q).obj
  refine wpAny_Raise_call_subT (C := C) (nm := nm) (q := qn) (N := N) (bs := bs) (bm := tl) (hdct := hdct) (sn := sn) (sub := sub) (ab := ab) (col := col) (dd := dd) (k0 := k0) (k1 := k1) (k2 := k2) (k3 := k3) (k5 := k5)
    PySem.F.excBase_ValueError (mN := mN) (T.hasType PySem.F.excBase_ValueError.hasBase) (I.ok.hd hc) (by rw [he]; show (false || (backTo cpos (starEach es X.env)).any (·.1)) = false; rw [hpl]; rfl) hni (ld_glob I hg hm ⟨rfl, ?_⟩ hd)
  have hA := ha.ok cpos pins s σ H _ I h
  rw [he] at hA ⊢
  refine Calls.evalArgs_plain (thn hA fun us s2 ⟨vs, H1, I1, r, z, qE⟩ => ?_)
  refine ⟨rfl, by rw [← r.length]; exact z, I1.bk _ _ hC, hN.keeps I1.bk, T.keeps I1.bk, fun h' e hx' => hx pins σ H1 s2 h' e _ I1 hx' qE⟩⟩
end
/-- within an except suite -/
abbrev Cx.marked (X : Cx) (ev : Value) : Cx := { X with A := X.A.mark (some ev), calm := false }
section
variable {X : Cx} {pins : List (Addr × Obj)} {σ : St} {H : Hp} {s : Shared} {ev : Value}
theorem Cx.Ok.marked (ok : X.Ok) : (X.marked ev).Ok :=
  ⟨ok.mod, ok.kind, ok.glob, ok.blt, ok.above, ok.inj, ok.has, ok.cab, fun z => (nomatch z), ok.frames, ok.stk, ok.exf, ok.bs, ok.bsz, ok.noex, ok.exfs, ok.funs, ok.frf⟩
theorem Inv.marked (I : Inv X pins σ H s) : Inv (X.marked ev) pins σ H s := ⟨I.ok.marked, I.os, I.bare, I.base, I.loc, I.cell, I.free, I.freeC, I.pin, I.hok, I.len⟩
theorem Inv.unmarked (I : Inv (X.marked ev) pins σ H s) (ok : X.Ok) : Inv X pins σ H s := ⟨ok, I.os, I.bare, I.base, I.loc, I.cell, I.free, I.freeC, I.pin, I.hok, I.len⟩
theorem SP.unmarked {D : Ends} {f : Flow} {s' : Shared} (ok : X.Ok) (h : SP (X.marked ev) pins D f s') : SP X pins D f s' := by
  cases f with
  | next => obtain ⟨σ', H', I, q⟩ := h; exact ⟨σ', H', I.unmarked ok, q⟩
  | brk => obtain ⟨σ', H', I, q⟩ := h; exact ⟨σ', H', I.unmarked ok, q⟩
  | cont => obtain ⟨σ', H', I, q⟩ := h; exact ⟨σ', H', I.unmarked ok, q⟩
  | ret u => obtain ⟨v, σ', H', I, r, q⟩ := h; exact ⟨v, σ', H', I.unmarked ok, r, q⟩
end
section
variable {X : Cx} {k : Nat} {f C : Addr} {fd : FuncData} {ps : List Str} {sp : Sp} {dvs : List V} {ds : List Value} {x y : Str} {p pos cpos epos hpos np : Pos} {e : Expr} {es : List Expr} {t : TA} {b0 : Stmt} {suite : List Stmt} {ts : TS}
end
end L2
set_option Elab.async false
set_option linter.all false
set_option maxRecDepth 100000
/-! defs that may raise, defs with defaults -/
namespace L2
open PySem PySem.Spec PyProof.Rows
structure FunD (K : PySem.W.Frag) (x qual : Str) (st : Stmt) (f : Addr) (fd : FuncData) : Prop where
  ex : ∃ (oc : Value) (od : Option Addr) (dV kV doc pm : Value) (an : Option Addr) (cdv ct : Value) (osl : Array (Option Value)),
    fd = PySem.W.fnOf x qual (defArgs st) (defBody st) (defScope st) dV kV doc pm an cdv ct ∧ K.lookup f = some ⟨oc, od, .func fd, osl⟩ ∧ PySem.W.codeIn K cdv qual = true
  kp : PySem.W.keepIn K (.ref f) = true
section
variable {P : Program} {w : World} {K : PySem.W.Frag} {mg : Str → Option Value} {base : Heap} {x qual : Str} {st : Stmt} {f : Addr} {fd : FuncData} {N ps : List Str} {k : Nat} {sp : Sp}
theorem Fun.toD (F : Fun K x qual st f fd) : FunD K x qual st f fd := by
  obtain ⟨oc, od, kV, doc, pm, an, cdv, ct, osl, e1, lk, hcd⟩ := F.ex
  exact ⟨⟨oc, od, .none, kV, doc, pm, an, cdv, ct, osl, e1, lk, hcd⟩, F.kp⟩
end
theorem iteN {a b : Int} {A B : Prop} (h1 : a ≠ b → A) (h2 : a = b → B) : if (!decide (V.int a = V.int b)) = true then A else B := by
  rw [dec_int]
  by_cases h : a = b
  · rw [h, beq_self_eq_true]
    exact iteF (h2 h)
  · rw [beq_eq_false_iff_ne.mpr h]
    exact iteT (h1 h)
end L2
set_option Elab.async false
set_option linter.all false
set_option maxRecDepth 100000
namespace LN
/-! ### fractions: sizes, exponents -/
end LN
namespace L2
open PySem
/-- two ways that meet behind a statement -/
theorem seq_of {t u : TS} {D : Ends} {σ : St} {H : Hp} (Pv : St → Hp → Prop) (tail : ∀ σ' H', Pv σ' H' → u D σ' H') (h : ∀ nx : St → Hp → Prop, (∀ σ' H', Pv σ' H' → nx σ' H') → t { D with nx := nx } σ H) : tSeq t u D σ H := h _ tail
theorem isI_int {v : V} (h : isI v = true) : ∃ i, v = .int i := by
  cases v with
  | int i => exact ⟨i, rfl⟩
  | _ => cases h
/-! ### the promises about fractions -/
end L2
set_option Elab.async false
set_option linter.all false
set_option maxRecDepth 100000
/-! EXCEPTIONS OF ONE'S OWN, by name: an exception in the air, its context known to be none; caught by a class above its own, bound to a name, asked by isinstance, while it is handled. -/
namespace L2
open PySem PySem.W PySem.Spec PyProof.Rows
/-- the exception at e, its trace at T, fl: the frame in which it stands -/
structure Air (e : Addr) (cls fl : Value) (T : Addr) (h : Heap) : Prop where
  ob : ∃ oe vs oT ts, h.get? e = some oe ∧ oe.cls = cls ∧ oe.data = .fields vs ∧ vs[1]? = some (.ref T) ∧ vs[2]? = some .none ∧ h.get? T = some oT ∧ oT.data = .fields ts ∧ ts[3]? = some fl
  ne : T ≠ e
/-- all but these are kept, the frames up to slots -/
structure Wind (as fr : List Addr) (h h' : Heap) : Prop where
  keep : ∀ b o, h.get? b = some o → b ∉ as → b ∉ fr → h'.get? b = some o
  slot : ∀ b o, h.get? b = some o → b ∉ as → ∃ sl, h'.get? b = some { o with slots := sl }
theorem Wind.trans {as bs cs fr : List Addr} {h1 h2 h3 : Heap} (x : Wind as fr h1 h2) (y : Wind bs fr h2 h3) (ha : ∀ b ∈ as, b ∈ cs) (hb : ∀ b o, h1.get? b = some o → b ∈ bs → b ∈ cs) : Wind cs fr h1 h3 where
  keep := fun b o q n1 n2 => y.keep b o (x.keep b o q (fun z => n1 (ha b z)) n2) (fun z => n1 (hb b o q z)) n2
  slot := fun b o q n1 => by
    obtain ⟨s1, e1⟩ := x.slot b o q fun z => n1 (ha b z)
    obtain ⟨s2, e2⟩ := y.slot b _ e1 fun z => n1 (hb b o q z)
    exact ⟨s2, e2⟩
theorem Wind.of_keeps {fr : List Addr} {h h' : Heap} (k : ∀ b o, h.get? b = some o → h'.get? b = some o) : Wind [] fr h h' := ⟨fun b o q _ _ => k b o q, fun b o q _ => ⟨o.slots, k b o q⟩⟩
theorem Wind.frames {as : List Addr} {h h' base : Heap} {l : List Env} (x : Wind as (frs l) h h') (hl : h.FunFrames base l) (has : ∀ b ∈ as, ∀ o, h.get? b = some o → ∃ vs, o.data = .fields vs) : h'.FunFrames base l :=
  hl.of_keeps fun b o q nf => by
    obtain ⟨sl, e⟩ := x.slot b o q fun z => by
      obtain ⟨vs, d⟩ := has b z o q
      exact nf vs d
    exact ⟨_, e, rfl⟩
/-- a trace is laid, the exception told of it -/
theorem air_laid {h h1 : Heap} {fr : List Addr} {e : Addr} {oe ob : Obj} {vs ts : Array Value} {fl : Value} (k : Heap.SlotsOnly fr h h1) (he : h.get? e = some oe) (hfr : e ∉ fr) (hd : oe.data = .fields vs) (hsz : 1 < vs.size) (h2 : vs[2]? = some .none)
    (hob : ob.data = .fields ts) (h3 : ts[3]? = some fl) :
    h.get? h1.objs.size = none ∧ Air e oe.cls fl h1.objs.size ((h1.push ob).update e (Obj.mapFields (·.setIfInBounds 1 (Value.ref h1.objs.size)))) ∧ Wind [e] fr h ((h1.push ob).update e (Obj.mapFields (·.setIfInBounds 1 (Value.ref h1.objs.size)))) := by
  have e1 : h1.get? e = some oe := (k.2.1 e hfr).trans he
  have e2 : (h1.push ob).get? e = some oe := Heap.get?_push_of_some _ e1
  have ne : h1.objs.size ≠ e := Nat.ne_of_gt (Heap.lt_size e1)
  have d3 := Obj.data_mapFields hd (·.setIfInBounds 1 (Value.ref h1.objs.size))
  have e3 := Heap.get?_update_self (Obj.mapFields (·.setIfInBounds 1 (Value.ref h1.objs.size))) e2 (Obj.isFreed_of_fields d3)
  have tt : (h1.push ob).get? h1.objs.size = some ob := Heap.get?_push_size h1 (Obj.isFreed_of_fields hob)
  have t3 := (Heap.get?_update_other (h1.push ob) (Obj.mapFields (·.setIfInBounds 1 (Value.ref h1.objs.size))) (Ne.symm ne)).trans tt
  have stay : ∀ b o, b ≠ e → h1.get? b = some o → ((h1.push ob).update e (Obj.mapFields (·.setIfInBounds 1 (Value.ref h1.objs.size)))).get? b = some o := fun b o nb q =>
    (Heap.get?_update_other _ _ (Ne.symm nb)).trans (Heap.get?_push_of_some _ q)
  refine ⟨Heap.get?_none_of_le (by rw [k.1]; exact Nat.le_refl _), ⟨⟨_, _, ob, ts, e3, Obj.cls_mapFields _ _, d3, by simp [hsz], by rw [Array.getElem?_setIfInBounds_ne (by decide)]; exact h2, t3, hob, h3⟩, ne⟩, fun b o q n1 n2 => stay b o (by simpa using n1) ((k.2.1 b n2).trans q), fun b o q n1 => ?_⟩
  obtain ⟨sl, q2⟩ := k.2.2 b o q
  exact ⟨sl, stay b _ (by simpa using n1) q2⟩
section
variable {M : Model} {A : Around} {E : Value → Shared → Prop} {s : Shared} {base : Heap} {env : Env} {outer : List Env} {L e T : Addr} {cls fl : Value} {Q : Unit → Shared → Prop}
theorem entry2 {oe : Obj} {vs : Array Value} {hd0 : Value} {hn : Bool} (hfr : A.frames = some (env :: outer)) (hl : s.heap.FunFrames base (env :: outer)) (hf : env.frame = some L) (he : s.heap.get? e = some oe) (hd : oe.data = .fields vs) (hsz : 1 < vs.size) (h2 : vs[2]? = some .none)
    (h : ∀ h' T', s.heap.get? T' = none → Air e oe.cls (rawInt L) T' h' → Wind [e] (frs (env :: outer)) s.heap h' → Q () { s with heap := h' }) :
    wpAny M A (do let a ← frameOf env; let pl ← entryPlaceOf L hn; let b ← EntryCells.newEntry hd0 a .none (rawInt L) .none pl; setField (.ref e) 1 b) Q E s := by
  have nfr : e ∉ frs (env :: outer) := fun z => by
    obtain ⟨_, o, qo, nf⟩ := hl.mem z
    rw [he] at qo
    cases qo
    exact nf vs hd
  refine wpAny_bind (wpAny_frameOf_fun hfr hl hf fun h1 k1 => wpAny_bind (wpAny_entryPlaceOf fun pp hpp => ?_))
  unfold EntryCells.newEntry newFields
  refine wpAny_bind (wpAny_newObj_type ?_ (hpp.sizeOk5 _ _ _ _ _))
  obtain ⟨z1, z2, z3⟩ := air_laid (fl := rawInt L) (ob := { cls := .type "traceback", dict := none, data := .fields ([hd0, .ref L, .none, rawInt L, .none] ++ (if pp.isEmpty then List.replicate 6 Value.none else pp)).toArray }) k1 he nfr hd hsz h2 rfl (by simp)
  exact wpAny_setField (Heap.get?_push_of_some _ ((k1.2.1 e nfr).trans he)) hd hsz (h _ _ z1 z2 z3)
theorem note_first {oe : Obj} {vs : Array Value} (hfr : A.frames = some (env :: outer)) (hl : s.heap.FunFrames base (env :: outer)) (hf : env.frame = some L) (he : s.heap.get? e = some oe) (hd : oe.data = .fields vs) (h1 : vs[1]? = some .none) (h2 : vs[2]? = some .none)
    (h : ∀ h' T', s.heap.get? T' = none → Air e oe.cls (rawInt L) T' h' → Wind [e] (frs (env :: outer)) s.heap h' → Q () { s with heap := h' }) : wpAny M A (noteFrame (.ref e) env) Q E s := by
  unfold noteFrame
  simp only [hf]
  refine wpAny_bind (wpAny_field he hd h1 ?_)
  rw [if_neg (by decide)]
  exact entry2 hfr hl hf he hd (Array.getElem?_eq_some_iff.mp h1).1 h2 h
/-- the trace's mark is taken away -/
theorem set_none2 (a : Air e cls fl T s.heap) (h : ∀ h', Air e cls .none T h' → Wind [T] [] s.heap h' → Q () { s with heap := h' }) : wpAny M A (setFlight (.ref e) none) Q E s := by
  obtain ⟨⟨oe, vs, oT, ts, he, hc, hd, h1, h2, hT, hdT, h3⟩, ne⟩ := a
  have z3 : 3 < ts.size := (Array.getElem?_eq_some_iff.mp h3).1
  have oth : ∀ b, b ≠ T → (s.heap.update T (Obj.mapFields (·.setIfInBounds 3 Value.none))).get? b = s.heap.get? b := fun b nb => Heap.get?_update_other _ _ (Ne.symm nb)
  have dT := Obj.data_mapFields hdT (·.setIfInBounds 3 Value.none)
  have tt := Heap.get?_update_self (Obj.mapFields (·.setIfInBounds 3 Value.none)) hT (Obj.isFreed_of_fields dT)
  unfold setFlight
  refine wpAny_bind (wpAny_field he hd h1 ?_)
  rw [if_pos (by simp : (Value.ref T != Value.none) = true)]
  refine wpAny_setField hT hdT z3 (h _ ⟨⟨oe, vs, _, _, (oth e (Ne.symm ne)).trans he, hc, hd, h1, h2, tt, dT, by simp [z3]⟩, ne⟩ ⟨fun b o q n1 _ => (oth b (by simpa using n1)).trans q, fun b o q n1 => ⟨o.slots, (oth b (by simpa using n1)).trans q⟩⟩)
theorem note_next (hfr : A.frames = some (env :: outer)) (hl : s.heap.FunFrames base (env :: outer)) (hf : env.frame = some L) (a : Air e cls .none T s.heap)
    (h : ∀ h' T', s.heap.get? T' = none → Air e cls (rawInt L) T' h' → Wind [e, T] (frs (env :: outer)) s.heap h' → Q () { s with heap := h' }) : wpAny M A (noteFrame (.ref e) env) Q E s := by
  obtain ⟨⟨oe, vs, oT, ts, he, hc, hd, h1, h2, hT, hdT, h3⟩, ne⟩ := a
  subst hc
  have z3 : 3 < ts.size := (Array.getElem?_eq_some_iff.mp h3).1
  have oth : ∀ b, b ≠ T → (s.heap.update T (Obj.mapFields (·.setIfInBounds 3 Value.none))).get? b = s.heap.get? b := fun b nb => Heap.get?_update_other _ _ (Ne.symm nb)
  have wd : Wind [T] (frs (env :: outer)) s.heap (s.heap.update T (Obj.mapFields (·.setIfInBounds 3 Value.none))) := ⟨fun b o q n1 _ => (oth b (by simpa using n1)).trans q, fun b o q n1 => ⟨o.slots, (oth b (by simpa using n1)).trans q⟩⟩
  unfold noteFrame
  simp only [hf]
  refine wpAny_bind (wpAny_field he hd h1 ?_)
  rw [if_pos (by simp : (Value.ref T != Value.none) = true)]
  refine wpAny_bind (wpAny_field hT hdT h3 ?_)
  rw [if_neg (by simp [rawInt] : ¬ ((Value.none == rawInt L) = true))]
  refine wpAny_bind (wpAny_setField hT hdT z3 ?_)
  refine entry2 (s := { s with heap := s.heap.update T (Obj.mapFields (·.setIfInBounds 3 Value.none)) }) hfr (wd.frames hl fun b hb o q => ?_) hf ((oth e (Ne.symm ne)).trans he) hd (Array.getElem?_eq_some_iff.mp h1).1 h2 fun h' T' z1 z2 z4 => h h' T' ?_ z2 (wd.trans z4 (by simp) (fun b o _ z => by simp at z; simp [z]))
  · obtain rfl : b = T := by simpa using hb
    rw [hT] at q
    cases q
    exact ⟨ts, hdT⟩
  · by_cases hb : T' = T
    · subst hb
      have tt := Heap.get?_update_self (Obj.mapFields (·.setIfInBounds 3 Value.none)) hT (Obj.isFreed_of_fields (Obj.data_mapFields hdT _))
      rw [tt] at z1
      cases z1
    · exact (oth T' hb).symm.trans z1
end
end L2
set_option Elab.async false
set_option linter.all false
set_option maxRecDepth 100000
/-! an exception of one's own, by its class: isinstance -/
namespace L2
open PySem PySem.W PySem.Spec PyProof.Rows
/-- what the text says of a class of exceptions -/
structure XCls (K : PySem.W.Frag) (C : Addr) : Prop where
  ga : PySem.W.findIn K (.ref C) "__getattribute__" = some (some (.builtin "BaseException.__getattribute__"))
  gt : PySem.W.findIn K (.ref C) "__getattr__" = some none
  cl : PySem.W.findIn K (.ref C) "__class__" = some (some (.builtin "object.__class__"))
  ob : PySem.W.subIn K (.ref C) (.type "object") = some true
  be : PySem.W.subIn K (.ref C) (.type "BaseException") = some true
  is : (PySem.W.clsIn K C).isSome = true
/-- an object of the class C -/
def ExcAt (e C : Addr) (h : Heap) : Prop := ∃ o, h.get? e = some o ∧ o.cls = .ref C
section
variable {prog : Program} {w : World} {A : Around} {E : Value → Shared → Prop} {h : Heap} {g : Array GenState} {d : Drawn} {t : Nat} {os : OsState} {a C : Addr} {o : Obj} {K : PySem.W.Frag}
theorem xcls_get {R : Result → Shared → Prop} (X : K.In h) (Z : XCls K C) (hx : h.get? a = some o) (hc : o.cls = .ref C) (hq : R (.ok (.ret (.ref C))) ⟨h, g, d, t, os⟩) :
    codeAny (model prog w) A (.call (.builtin "getset_descriptor.__get__") ⟨[.builtin "object.__class__", .ref a, .ref C], []⟩) R ⟨h, g, d, t, os⟩ := by
  have h5 : (⟨h, g, d, t, os⟩ : Shared).TypeIs (.builtin "object.__class__") "getset_descriptor" := F.typeOf_object_class
  have ls : Looks (model prog w) h (isSubtype (.ref C) (.type (".".intercalate ("object.__class__".cutAt '.').dropLast))) true := by rw [F.owner_object_class]; exact looks_subIn X Z.ob
  refine codeAny_call_builtin F.slot_gs_get.plain F.entry_gs_get (F.slot_gs_get.check _ _ _ _ _ _ _ _ h5 (F.args_gs_get _ _ _) ?_)
  repeat (any_goals (first | assumption | (with_reducible refine wpAny_loadPart_at hx ?_; rw [hc]) | with_reducible refine ls.at ?_ | wp_step))
  refine ⟨Code.quiet_builtin _ (by decide +kernel), codeAny_builtin F.entry_object_class ?_⟩
  repeat (any_goals (first | assumption | (with_reducible refine wpAny_loadPart_at hx ?_; rw [hc]) | wp_step))
theorem xcls_entry {tk : Tok} {Q : Fin → Shared → Prop} (X : K.In h) (Z : XCls K C) (hx : h.get? a = some o) (hc : o.cls = .ref C) (hq : Q (.done (.ret (.ref C))) ⟨h, g, d, t, os⟩) :
    wpAny (model prog w) A (Builtin.«object.__getattribute__» ⟨[.ref a, .str "__class__" tk], []⟩) Q E ⟨h, g, d, t, os⟩ := by
  have h5 : (⟨h, g, d, t, os⟩ : Shared).TypeIs (.builtin "object.__class__") "getset_descriptor" := F.typeOf_object_class
  have f5 := F.typeOf_object_class
  have f6 := F.slot_gs_get.lookup
  have f7 := F.slot_gs_set.lookup
  have l4 := looks_findIn (M := model prog w) X Z.cl
  repeat (any_goals (first | assumption | (with_reducible refine wpAny_loadPart_at hx ?_; rw [hc]) | with_reducible refine l4.at ?_ | wp_step))
  refine xcls_get X Z hx hc ?_
  repeat (any_goals (first | assumption | wp_step))
theorem xcls_check {M : Model} {nv : Value} {Q : Unit → Shared → Prop} (X : K.In h) (Z : XCls K C) (hx : h.get? a = some o) (hc : o.cls = .ref C) (hq : Q () ⟨h, g, d, t, os⟩) :
    wpAny M A (checkBuiltinCall "BaseException.__getattribute__" ⟨[.ref a, nv], []⟩) Q E ⟨h, g, d, t, os⟩ := by
  have k1 : builtinKind "BaseException.__getattribute__" = some .slot := by decide +kernel
  have k2 : splitId "BaseException.__getattribute__" = some ("BaseException", "__getattribute__") := by decide +kernel
  have ls : Looks M h (isSubtype (.ref C) (.type "BaseException")) true := looks_subIn X Z.be
  have k3 := F.args_bexc_ga (.ref a) nv
  simp only [checkBuiltinCall, k1, k2]
  refine wpAny_bind ?_
  unfold isInstance
  repeat (first | (with_reducible refine wpAny_loadPart_at hx ?_; rw [hc]) | with_reducible refine ls.at ?_ | wp_step)
  exact hq
theorem xcls_call {tk : Tok} {R : Result → Shared → Prop} (X : K.In h) (Z : XCls K C) (hx : h.get? a = some o) (hc : o.cls = .ref C) (hq : R (.ok (.ret (.ref C))) ⟨h, g, d, t, os⟩) :
    codeAny (model prog w) A (.call (.builtin "BaseException.__getattribute__") ⟨[.ref a, .str "__class__" tk], []⟩) R ⟨h, g, d, t, os⟩ :=
  codeAny_call_builtin (by decide +kernel) F.entry_bexc_ga (xcls_check X Z hx hc (xcls_entry X Z hx hc hq))
theorem xcls_by {tk : Tok} {Q : Value → Shared → Prop} (X : K.In h) (Z : XCls K C) (hx : h.get? a = some o) (hc : o.cls = .ref C) (hq : Q (.ref C) ⟨h, g, d, t, os⟩) :
    wpAny (model prog w) A (getAttrBy (.ref a) (.str "__class__" tk) false) Q E ⟨h, g, d, t, os⟩ := by
  have l1 := looks_findIn (M := model prog w) X Z.ga
  have l2 := looks_findIn (M := model prog w) X Z.gt
  have f3 := F.excAttr_ValueError.ga.bind (.ref a)
  have y2 : (Value.builtin "BaseException.__getattribute__" == Value.builtin "object.__getattribute__") = false := by decide +kernel
  have y1 : (onTheHeap (Value.ref C) && Value.builtin "BaseException.__getattribute__" == Value.builtin "object.__getattribute__") = false := by rw [y2]; rfl
  repeat (any_goals (first | assumption | (with_reducible refine wpAny_loadPart_at hx ?_; rw [hc]) | with_reducible refine l1.at ?_ | with_reducible refine l2.at ?_ | wp_step))
  refine xcls_call X Z hx hc ?_
  repeat (any_goals (first | assumption | wp_step))
theorem xcls_attr {Q : Option Value → Shared → Prop} (X : K.In h) (Z : XCls K C) (hx : h.get? a = some o) (hc : o.cls = .ref C) (hq : Q (some (.ref C)) ⟨h, g, d, t + 1, os⟩) : wpAny (model prog w) A (getAttr? (.ref a) "__class__") Q E ⟨h, g, d, t, os⟩ := by
  unfold getAttr? getAttrBy?
  repeat (any_goals (first | assumption | with_reducible apply xcls_by X Z hx hc | wp_step))
theorem kitx_exc (Z : XCls K C) : KitX K (.ref a) (.ref C) (ExcAt a C) where
  ty := fun M h _ p => by
    obtain ⟨o, h1, h2⟩ := p
    exact h2 ▸ (Looks.ld h1).andThen .now
  it := fun _ _ X _ => by
    have hi := Z.is
    unfold clsIn at hi
    split at hi
    · rename_i ho
      intro A' Q' E' s' k q
      unfold isType loadHead
      exact wpAny_bind (wpAny_loadPart (k _ _ (X _ _ ho)) (wpAny_pure q))
    · cases hi
  ne := fun h tp dd its n sl X htp => Bool.eq_false_iff.mpr fun q => by
    have e : C = tp := Value.ref.inj (beq_iff_eq.mp q)
    subst e
    have hi := Z.is
    unfold clsIn at hi
    split at hi
    · rename_i ho
      exact absurd ((X _ _ ho).symm.trans htp) (fun z => nomatch z)
    · cases hi
  ca := fun {_ _ _ _ _ s} X p k => by
    obtain ⟨o, h1, h2⟩ := p
    obtain ⟨hh, gg, dd, tt, oo⟩ := s
    exact xcls_attr X Z h1 h2 k
end
section
variable {X : Cx}
/-- an exception of the class C at e, its context none -/
def ExcX (e C : Addr) (h : Heap) : Prop := ∃ o vs, h.get? e = some o ∧ o.cls = .ref C ∧ o.data = .fields vs ∧ vs[2]? = some .none
abbrev ExH (H : Hp) (e C : Addr) : Prop := H e = some (.ext (ExcX e C))
theorem excX_ok {P : Program} {w : World} {H : Hp} {h : Heap} {e C : Addr} (p : ExcX e C h) : ObjOk P w H h e (.ext (ExcX e C)) := by
  obtain ⟨o, vs, q, r⟩ := p
  exact ⟨⟨o, vs, q, r⟩, ⟨o, q⟩, fun h1 h2 ⟨o', vs', q', r'⟩ k => ⟨o', vs', k _ q', r'⟩⟩
/-- isinstance(e, c), e an exception -/
def rInstX (K : PySem.W.Frag) : List V → Hp → VK → Prop := fun xs H Q => ∃ (e C : Addr) (c : V) (cv : Value) (b : Bool), xs = [.ref e, c] ∧ RelV c cv ∧ (∀ u, RelV c u → u = cv) ∧ ExH H e C ∧ XCls K C ∧ PySem.W.kitOne K (.ref C) cv = some b ∧ Q (.bl b) H
theorem call_instX : CallR X (.builtin "isinstance") (rInstX X.K) := by
  intro pins s σ H xs us Q I r h
  obtain ⟨e, C, c, cv, b, rfl, _, one, ex, Z, k, q⟩ := h
  obtain ⟨u, u2, rfl, ru, rc⟩ := vals2 r
  cases (show u = Value.ref e from ru)
  cases one u2 rc
  obtain ⟨⟨o, vs, h1, h2, _⟩, _⟩ := (show ObjOk X.prog X.w H s.heap e (.ext (ExcX e C)) from I.hok e _ ex)
  exact PySem.W.kia_one (kitx_exc Z) I.kIn ⟨o, h1, h2⟩ k (fun z => nomatch z) fun tk => ⟨.bl b, H, I.tok _, rfl, q⟩
end
end L2
set_option Elab.async false
set_option linter.all false
set_option maxRecDepth 100000
/-! an exception leaves a def; it is caught -/
namespace L2
open PySem PySem.W PySem.Spec PyProof.Rows
structure Fly2 (H : Hp) (hs : Heap) (e : Addr) (cls : Value) (T : Addr) (h : Heap) : Prop where
  air : Air e cls .none T h
  e0 : hs.get? e = none
  t0 : hs.get? T = none
  eH : H e = none
  tH : H T = none
/-- how an exception lies behind a call -/
def CX2 (P : Program) (w : World) : CXT := fun outer H s E ev s' =>
  ∃ (e T : Addr) (cls : Value) (H' : Hp), ev = .ref e ∧ s'.os = s.os ∧ AllBare s'.gens ∧ Un (frs outer) [] H H' s.heap s'.heap ∧ HOk P w H' s'.heap ∧ Fly2 H' s.heap e cls T s'.heap ∧ E cls none H'
theorem pass2 {X : Cx} : Passes (CX2 X.prog X.w) X E0 := fun _ _ _ _ _ _ _ h => by
  obtain ⟨_, _, _, _, _, _, _, _, _, _, z⟩ := h
  exact z.elim
theorem Wind.hok {P : Program} {w : World} {H : Hp} {as fr : List Addr} {h h' : Heap} (x : Wind as fr h h') (hfr : ∀ b ∈ fr, H b = none) (has : ∀ b ∈ as, H b = none) (k : HOk P w H h) : HOk P w H h' := fun a o ea =>
  (k a o ea).stay (fun b u hb q => by
    have hn : H b ≠ none := by
      rcases hb with z | z
      · rw [z, ea]; intro y; cases y
      · rw [z]; intro y; cases y
    exact x.keep b u q (fun z => hn (has b z)) fun z => hn (hfr b z)) (fun _ q => q) fun _ _ q => q
theorem un_wind {fr as : List Addr} {hs h h' : Heap} {H0 H : Hp} (u : Un fr [] H0 H hs h) (x : Wind as fr h h') (has : ∀ b ∈ as, hs.get? b = none) : Un fr [] H0 H hs h' where
  keep := fun b o q n hb hx => x.keep b o (u.keep b o q n hb hx) (fun z => by rw [has b z] at q; cases q) hb
  slot := fun b o q n hb hx => by
    obtain ⟨sl, q1⟩ := u.slot b o q n hb hx
    obtain ⟨sl', q2⟩ := x.slot b _ q1 fun z => by rw [has b z] at q; cases q
    exact ⟨sl', q2⟩
  free := u.free
  there := fun b o q hx => by
    obtain ⟨o', q1⟩ := u.there b o q hx
    obtain ⟨sl', q2⟩ := x.slot b o' q1 fun z => by rw [has b z] at q; cases q
    exact ⟨_, q2⟩
  tups := u.tups
  frzs := u.frzs
  tbls := u.tbls
section
variable {P : Program} {w : World} {K : PySem.W.Frag} {mg : Str → Option Value} {base : Heap} {N : List Str} {qual : Str} {scope : Scope} {f : Addr} {cd : Value} {A : Around} {outer : List Env} {s0 : Shared} {H0 : Hp} {E : XK}
  {pins : List (Addr × Obj)} {σ : St} {H H' : Hp} {s s' : Shared} {h' : Heap} {e T : Addr} {cls : Value}
/-- what is true behind the frame that was left -/
theorem left_cx2 (I : Inv (cxOf (CX2 P w) P w K mg base N qual scope f cd A outer s0 H0 E) pins σ H s) {as : List Addr} (L : Wind as (frs (envOfC qual scope s0.heap.objs.size f cd :: outer)) s.heap h')
    (u1 : ∀ b ∈ as, s0.heap.get? b = none) (has : ∀ b ∈ as, H b = none) (air : Air e cls .none T h') (en : s0.heap.get? e = none) (tn : s0.heap.get? T = none) (eH : H e = none) (tH : H T = none) (q : E cls none H) : CX2 P w outer H0 s0 E (.ref e) { s with heap := h' } := by
  have B : Un (frs outer) [] H0 H s0.heap s.heap := I.base
  have own : ∀ b o, s0.heap.get? b = some o → b ∉ frs outer → b ∉ frs (envOfC qual scope s0.heap.objs.size f cd :: outer) := fun b o qb hb z => by
    obtain ⟨ev, hev, hf⟩ := List.mem_filterMap.mp z
    rcases List.mem_cons.mp hev with r | r
    · subst r
      have e1 : s0.heap.objs.size = b := Option.some.inj hf
      have lt := Heap.lt_size qb
      rw [e1] at lt
      exact Nat.lt_irrefl _ lt
    · exact hb (List.mem_filterMap.mpr ⟨ev, r, hf⟩)
  have out : ∀ b o, s0.heap.get? b = some o → b ∉ as := fun b o qb z => by rw [u1 b z] at qb; cases qb
  refine ⟨e, T, cls, H, rfl, I.os, I.bare, ?_, L.hok (fun b hb => (I.frOk b hb).1) has I.hok, ⟨air, en, tn, eH, tH⟩, q⟩
  refine ⟨fun b o qb n hb hx => L.keep b o (B.keep b o qb n hb hx) (out b o qb) (own b o qb hb), fun b o qb n hb hx => ?_, B.free, fun b o qb hx => ?_, B.tups, B.frzs, B.tbls⟩
  · obtain ⟨sl, q1⟩ := B.slot b o qb n hb hx
    obtain ⟨sl', q2⟩ := L.slot b _ q1 (out b o qb)
    exact ⟨sl', q2⟩
  · obtain ⟨o', q1⟩ := B.there b o qb hx
    obtain ⟨sl', q2⟩ := L.slot b o' q1 (out b o qb)
    exact ⟨_, q2⟩
/-- an exception that was just made leaves the def -/
theorem leave_new2 (I : Inv (cxOf (CX2 P w) P w K mg base N qual scope f cd A outer s0 H0 E) pins σ H s) {vs : List Value} (hx : Heap.MadeExcOf s.heap h' e cls vs) (q : E cls none H) :
    (cxOf (CX2 P w) P w K mg base N qual scope f cd A outer s0 H0 E).xe (.ref e) { s with heap := h' } := by
  have sub : ∀ b o, s0.heap.get? b = some o → ∃ o', s.heap.get? b = some o' := fun b o z => I.base.there b o z (by simp [cxOf])
  have none0 : ∀ b, s.heap.get? b = none → s0.heap.get? b = none := fun b z => by
    cases y : s0.heap.get? b with
    | none => rfl
    | some o =>
      obtain ⟨o', y'⟩ := sub b o y
      rw [z] at y'
      cases y'
  have noneS : ∀ b, h'.get? b = none → s.heap.get? b = none := fun b z => by
    cases y : s.heap.get? b with
    | none => rfl
    | some o =>
      have y' := hx.keeps b o y
      rw [z] at y'
      cases y'
  obtain ⟨t, he, _, _⟩ := hx.there
  have w0 : Wind [] (frs (envOfC qual scope s0.heap.objs.size f cd :: outer)) s.heap h' := .of_keeps hx.keeps
  refine wpAny_bind (note_first (s := { s with heap := h' }) (env := envOfC qual scope s0.heap.objs.size f cd) (outer := outer) (L := s0.heap.objs.size) (base := base) I.ok.frames (w0.frames I.stack (fun b z => nomatch z)) rfl he rfl rfl rfl fun h1 T1 f1 a1 w1 => ?_)
  refine set_none2 (s := { s with heap := h1 }) a1 fun h2 a2 w2 => ?_
  have w01 := w0.trans (cs := [e]) w1 (by simp) (fun b o _ z => z)
  have w12 : Wind [T1] (frs (envOfC qual scope s0.heap.objs.size f cd :: outer)) h1 h2 := ⟨fun b o q n _ => w2.keep b o q n (by simp), w2.slot⟩
  have w02 := w01.trans (cs := [e, T1]) w12 (by simp) (fun b o _ z => by simp at z; simp [z])
  have eS := hx.new
  have tS := noneS T1 f1
  refine left_cx2 (s := s) (h' := h2) I w02 (fun b hb => ?_) (fun b hb => ?_) a2 (none0 e eS) (none0 T1 tS) (I.hok.none_of eS) (I.hok.none_of tS) q
  · rcases List.mem_cons.mp hb with r | r
    · rw [r]; exact none0 e eS
    · rw [List.mem_singleton.mp r]; exact none0 T1 tS
  · rcases List.mem_cons.mp hb with r | r
    · rw [r]; exact I.hok.none_of eS
    · rw [List.mem_singleton.mp r]; exact I.hok.none_of tS
theorem throws_new2 {C : Addr} : Throws (cxOf (CX2 P w) P w K mg base N qual scope f cd A outer s0 H0 E) E C := fun _ _ _ _ _ _ _ I hx q => leave_new2 I hx q
end
section
variable {P : Program} {w : World} {K : PySem.W.Frag} {mg : Str → Option Value} {base : Heap} {x qual : Str} {st : Stmt} {f : Addr} {fd : FuncData} {N ps : List Str} {k : Nat} {sp : Sp}
/-- a def that may raise -/
theorem FunD.ok2 (F : FunD K x qual st f fd) (S : FnScope N ps (defScope st)) (len : ∀ vs H Q E, sp vs H Q E → vs.length = ps.length)
    (hbody : ∀ (cdv : Value) (A : Around) (outer : List Env) (s : Shared) (H : Hp) (vs : List V) (Q : VK) (E : XK), Room k (A.deeper (envOfC qual (defScope st) s.heap.objs.size f cdv)) → sp vs H Q E →
      ∃ t, QSs (cxOf (CX2 P w) P w K mg base N qual (defScope st) f cdv A outer s H E) (defBody st) t ∧ t { nx := fun _ H' => Q .non H', rt := Q } (start N vs) H) : FnOk P w K mg base (CX2 P w) (k + 1) f fd ps sp := by
  obtain ⟨oc, od, dV, kV, doc, pm, an, cdv, ct, osl, rfl, lk, hcd⟩ := F.ex
  refine fn_of lk hcd S len fun A outer s H vs Q E hr hsp => ?_
  obtain ⟨t, h, q⟩ := hbody cdv A outer s H vs Q E hr hsp
  exact ⟨t, h.ok, q⟩
end
end L2
set_option Elab.async false
set_option linter.all false
set_option maxRecDepth 100000
/-! the suite behind `except C as e`: the exception is handled while it runs -/
namespace L2
open PySem PySem.W PySem.Spec PyProof.Rows
/-! ### a walk over a list ends while an exception is handled -/
theorem ent_unchain : entryFor table "proto.unchain" = some Builtin.«proto.unchain» := entryFor_of_fast (by kernel_rfl)
section
variable {prog : Program} {w : World} {A : Around} {E : Value → Shared → Prop} {s : Shared}
theorem raise_new2 {α : Type} {a ea C : Addr} {oa : Obj} {vs : Array Value} {Q : α → Shared → Prop} (hh : A.handled = some (.ref ea)) (ex : ExcX ea C s.heap) (hne : a ≠ ea) (ho : s.heap.get? a = some oa) (hd : oa.data = .fields vs) (h2 : 2 < vs.size)
    (h : E (.ref a) { s with heap := s.heap.update a (Obj.mapFields (·.setIfInBounds 2 (.ref ea))) }) : wpAny (model prog w) A (raiseNew (.ref a) : Sem α) Q E s := by
  obtain ⟨o, us, q1, _, q3, q4⟩ := ex
  unfold raiseNew
  refine wpAny_bind (wpAny_handled ?_)
  rw [hh]
  have nn : (Value.ref ea != Value.ref a) = true := by
    rw [bne_iff_ne]
    exact fun z => hne (Value.ref.inj z).symm
  simp only [nn, if_true]
  refine wpAny_bind (wpAny_holding (wpAny_runValue (codeAny_builtin ent_unchain ?_)))
  unfold Builtin.«proto.unchain»
  refine wpAny_bind (wpAny_field q1 q3 q4 ?_)
  rw [if_pos (by decide)]
  refine wpAny_pure ?_
  have sf : wpAny (model prog w) A (setField (.ref a) 2 (.ref ea)) (fun _ s' => E (.ref a) s') E s := wpAny_setField ho hd h2 h
  exact wpAny_bind (wpAny_mono (show wpAny (model prog w) A (updateField a 2 (.ref ea)) (fun _ s' => E (.ref a) s') E s from sf) (fun _ s' z => wpAny_throw z) fun _ _ z => z)
theorem ExcX.keeps {ea C : Addr} {h h' : Heap} (x : ExcX ea C h) (k : ∀ o, h.get? ea = some o → h'.get? ea = some o) : ExcX ea C h' := by
  obtain ⟨o, us, q1, q2⟩ := x
  exact ⟨o, us, k o q1, q2⟩
theorem stop_raised {hp : Heap} {oe : Obj} {vs : Array Value} {ea C : Addr} {Q : Option Value → Shared → Prop} {Q' : Fin → Shared → Prop} (hh : A.handled = some (.ref ea)) (ex : ExcX ea C hp) (hd : oe.data = .fields vs) (h2 : 2 < vs.size) (hc : oe.cls = .type "StopIteration")
    (hq : ∀ h', (∀ b o, hp.get? b = some o → h'.get? b = some o) → Q none { s with heap := h' }) :
    wpAny (model prog w) A.in1 (raiseNew (.ref hp.objs.size)) Q' (fun e s' => wpAny (model prog w) A (do let b ← isInstance e (.type "StopIteration"); if b = true then pure none else throw e) Q E s') { s with heap := hp.push oe } := by
  have g1 : (hp.push oe).get? hp.objs.size = some oe := Heap.get?_push_size _ (Obj.isFreed_of_fields hd)
  have ne : hp.objs.size ≠ ea := by
    obtain ⟨o, us, q1, _⟩ := ex
    exact Nat.ne_of_gt (Heap.lt_size q1)
  have g2 := Heap.get?_update_self (Obj.mapFields (·.setIfInBounds 2 (Value.ref ea))) g1 (Obj.isFreed_of_fields (Obj.data_mapFields hd _))
  refine raise_new2 (s := { s with heap := hp.push oe }) (A := A.in1) hh (ex.keeps fun o q => Heap.get?_push_of_some _ q) ne g1 hd h2 ?_
  refine wpAny_bind (wpAny_isInstance (T := "StopIteration") (b := true) ⟨_, g2, (Obj.cls_mapFields _ _).trans hc⟩ isSubtype_stop ?_)
  exact wpAny_pure (hq _ fun b o q => (Heap.get?_update_other _ _ (Nat.ne_of_gt (Heap.lt_size q))).trans (Heap.get?_push_of_some _ q))
theorem list_end2 {it l ea C : Addr} {i : Nat} {items : Array Value} {Q : Option Value → Shared → Prop} (hh : A.handled = some (.ref ea)) (ex : ExcX ea C s.heap) (hei : ea ≠ it) (hit : s.heap.IsListIter it l i) (hl : s.heap.IsList l items) (hx : items[i]? = none)
    (hQ : ∀ h', Heap.ExtBut it s.heap h' → Q none { s with heap := h' }) : wpAny (model prog w) A (pyNext (.ref it)) Q E s := by
  obtain ⟨o, ho, hc, hd⟩ := id hit
  obtain ⟨ol, hol, _, nl, hdl⟩ := hl
  unfold pyNext
  refine wpAny_bind (wpAny_attempt (wpAny_callSpecial?_slot (name := Str.ofString "__next__") hit.typeIs slot_listiter_next (wpAny_call_entry slot_listiter_next hit.typeIs entry_listiter_next ?_ (args_listiter_next _))))
  show wpAny _ _ (field (.ref it) 0 >>= _) _ _ s
  refine wpAny_bind (wpAny_field ho hd (x := .ref l) rfl ?_)
  simp only [show (Value.ref l == Value.none) = false from rfl, Bool.false_eq_true, if_false]
  refine wpAny_bind (wpAny_field ho hd (x := .int i 0) rfl ?_)
  refine wpAny_bind (wpAny_seqItems hol hdl ?_)
  simp only [Int.toNat_natCast, hx]
  refine wpAny_bind (wpAny_rule (wpAny_bind (wpAny_setField ho hd (by simp) (wpAny_bind ?_))))
  simp only [newExc, newTuple]
  refine wpAny_bind (wpAny_newObj_type ?_ (by size_fits))
  refine wpAny_bind (m := firstArgMember _ _) (wpAny_of_eq (a := Value.none) (by first | rfl | (simp only [firstArgMember]; rfl)) (wpAny_newObj_type ?_ (by size_fits)))
  have x1 : Heap.ExtBut it s.heap (s.heap.update it (Obj.mapFields fun x => x.setIfInBounds 0 Value.none)) := (Heap.SameBut.update ..).extBut
  obtain ⟨o', us, q1, q2⟩ := ex
  exact stop_raised (s := s) hh ⟨o', us, Heap.get?_push_of_some _ (x1 _ _ hei q1), q2⟩ rfl (Nat.lt_of_lt_of_le (by decide : 2 < 6) (by simp)) rfl fun h' k => hQ h' fun b ob nb q => k b ob (Heap.get?_push_of_some _ (x1 b ob nb q))
/-- the walk over a list while an exception is handled -/
theorem walks2 {ea C I ax : Addr} (hh : A.handled = some (.ref ea)) (hne : ax ≠ I) (hei : ea ≠ I) (items : Array Value) :
    Walks prog w A I [I, ax, ea] [I] items.size (fun i v => items[i]? = some v) (fun i h => (h.IsListIter I ax i ∧ h.IsList ax items) ∧ ExcX ea C h) where
  sub := fun b hb => by simp at hb; simp [hb]
  frame := fun _ _ _ st hk => ⟨⟨st.1.1.at fun o e => hk I (by simp) o e, st.1.2.at fun o e => hk ax (by simp) o e⟩, st.2.keeps fun o e => hk ea (by simp) o e⟩
  item := fun i s Q E hi st hQ => by
    refine wpAny_pyNext_list_item st.1.1 st.1.2 (x := items[i]) (by simp [hi]) fun h1 i1 s1 => ?_
    exact hQ _ h1 s.toks (by simp [hi]) ⟨⟨i1, st.1.2.extBut s1.extBut hne⟩, st.2.keeps fun o e => s1.extBut ea o hei e⟩ fun b o hb e => s1.extBut b o (fun z => hb (by simp [z])) e
  done := fun s Q E st hQ => list_end2 hh st.2 hei st.1.1 st.1.2 (by simp) fun h1 x1 => hQ h1 s.toks fun b o hb e => x1 b o (fun z => hb (by simp [z])) e
  self := fun _ _ _ _ st hQ => wpAny_pyIter_listiter st.1.1 hQ
end
section
variable {X : Cx}
/-- any(a list of truths), while an exception is handled -/
theorem call_any2 {ea : Addr} (hh : X.A.handled = some (.ref ea)) : CallR X (.builtin "any") (fun xs H Q => ∃ (p : Addr) (bs : List Bool) (C : Addr), xs = [.ref p] ∧ H p = some (.lst (bs.map V.bl)) ∧ ExH H ea C ∧ Q (.bl (bs.any id)) H) := by
  intro pins s σ H xs us Q I r h
  obtain ⟨p, bs, C, rfl, hp, ex, q⟩ := h
  cases r with
  | cons r rr =>
    cases rr
    cases (show _ = Value.ref p from r)
    obtain ⟨its, rv, pl, hz⟩ := I.list (SqL.of hp)
    obtain ⟨xx, _⟩ := (show ObjOk X.prog X.w H s.heap ea (.ext (ExcX ea C)) from I.hok ea _ ex)
    have hl := rv.length
    have ho : (s.heap.push { cls := .type "list_iterator", data := .fields #[.ref p, .int 0 0] }).IsListIter s.heap.objs.size p 0 := ⟨_, Heap.get?_push_size _ rfl, rfl, rfl⟩
    have np : p ≠ s.heap.objs.size := Nat.ne_of_lt (I.hok.lt hp)
    have ne : ea ≠ s.heap.objs.size := Nat.ne_of_lt (I.hok.lt ex)
    refine call_any_walk (wpAny_pyIter_list pl.isList ⟨s.heap.objs.size, _, _, _, _, _, fun i => bs.getD i false, rfl, walks2 (C := C) (A := X.A.in1) hh np ne its.toArray, ⟨⟨ho, pl.isList.at fun o e => Heap.get?_push_of_some _ e⟩, xx.keeps fun o e => Heap.get?_push_of_some _ e⟩, fun i v s Q E hv hq => ?_, fun h' tk k => ?_⟩)
    · have hi : its[i]? = some v := by simpa using hv
      have hb : i < bs.length := by
        have := (List.getElem?_eq_some_iff.mp hi).1
        rw [← hl, List.length_map] at this
        exact this
      obtain ⟨u, hu, ru⟩ := rv.get (x := V.bl bs[i]) (by rw [List.getElem?_map, List.getElem?_eq_getElem hb]; rfl)
      rw [hi] at hu
      cases hu
      cases (show v = Value.bool bs[i] from ru)
      have e : bs.getD i false = bs[i] := by rw [List.getD_eq_getElem?_getD, List.getElem?_eq_getElem hb]; rfl
      have hq : Q (bs.getD i false) s := hq
      rw [e] at hq
      exact wpAny_pure hq
    · have e : (List.range its.toArray.size).any (fun i => bs.getD i false) = bs.any id := by
        have hs : its.toArray.size = bs.length := by rw [List.size_toArray, ← hl, List.length_map]
        rw [hs]
        have key : (List.range bs.length).map (fun i => bs.getD i false) = bs := by
          refine List.ext_getElem (by simp) fun i h1 h2 => ?_
          simp [h2]
        conv => rhs; rw [← key]
        rw [List.any_map]
        rfl
      refine ⟨.bl (bs.any id), H, I.kept (t' := tk) fun b o q => ?_, by rw [← e]; rfl, q⟩
      exact k b o (fun z => Nat.ne_of_lt (Heap.lt_size q) (by simpa using z)) (Heap.get?_push_of_some _ q)
end
end L2
set_option Elab.async false
set_option linter.all false
set_option maxRecDepth 100000
/-! a def that is called while an exception is handled; try .. except C as e -/
namespace L2
open PySem PySem.W PySem.Spec PyProof.Rows
structure RoomE (ea : Addr) (k : Nat) (A : Around) : Prop where
  hd : A.handled = some (.ref ea)
  dp : A.depth + 3 * k + 5 < recursionLimit
  un : A.units + 16 * k + 200 < cLine
theorem RoomE.deeper {ea : Addr} {k : Nat} {A : Around} (r : RoomE ea (k + 1) A) (env : Env) : RoomE ea k (A.deeper env) :=
  ⟨r.hd, by have := r.dp; show A.depth + 1 + 3 * k + 5 < _; omega, by have := r.un; show A.units + 3 + 16 * k + 200 < _; omega⟩
theorem Room.marked {ea : Addr} {k : Nat} {A : Around} (r : Room k A) : RoomE ea k (A.mark (some (.ref ea))) := ⟨rfl, r.dp, r.un⟩
/-- a context in which an exception is handled -/
abbrev Cx.hot (X : Cx) : Cx := { X with calm := false }
section
variable {X : Cx} {pins : List (Addr × Obj)} {σ : St} {H : Hp} {s : Shared}
end
structure FnOkE (P : Program) (w : World) (K : PySem.W.Frag) (mg : Str → Option Value) (base : Heap) (k : Nat) (f : Addr) (fd : FuncData) (ps : List Str) (sp : Addr → Sp) : Prop where
  len : ∀ ea vs H Q E, sp ea vs H Q E → vs.length = ps.length
  run : ∀ (ea : Addr) (A : Around) (outer : List Env) (s : Shared) (H : Hp) (args : Args) (us : List Value) (vs : List V) (Q : VK) (E : XK), RoomE ea k A → Env0 P w K mg base A outer s H → BindsTo s fd args (ps.zip us) → Vals vs us → sp ea vs H Q E →
    codeAny (model P w) A (.call (.ref f) args) (CR CX0 outer P w H s Q E) s
section
variable {P : Program} {w : World} {K : PySem.W.Frag} {mg : Str → Option Value} {base : Heap}
/-- a def's body while an exception is handled -/
theorem Fun.okE {x qual : Str} {st : Stmt} {f : Addr} {fd : FuncData} {N ps : List Str} {k : Nat} {sp : Addr → Sp} (F : Fun K x qual st f fd) (S : FnScope N ps (defScope st)) (len : ∀ ea vs H Q E, sp ea vs H Q E → vs.length = ps.length)
    (hbody : ∀ (cdv : Value) (ea : Addr) (A : Around) (outer : List Env) (s : Shared) (H : Hp) (vs : List V) (Q : VK) (E : XK), RoomE ea k (A.deeper (envOfC qual (defScope st) s.heap.objs.size f cdv)) → sp ea vs H Q E →
      ∃ t, QSs (cxOf CX0 P w K mg base N qual (defScope st) f cdv A outer s H E).hot.nox (defBody st) t ∧ t { nx := fun _ H' => Q .non H', rt := Q } (start N vs) H) : FnOkE P w K mg base (k + 1) f fd ps sp := by
  obtain ⟨oc, od, kV, doc, pm, an, cdv, ct, osl, rfl, lk, hcd⟩ := F.ex
  refine ⟨len, fun ea A outer s H args us vs Q E hr e0 hb r hsp => ?_⟩
  have hl := len _ _ _ _ _ hsp
  have KX : K.In s.heap := e0.mod.kin.keeps fun b o e => (e0.bs b o e).1
  have lim : s.heap.NoLimit := e0.mod.nolimit.keeps fun b o e => (e0.bs b o e).1
  have hkind : ∀ y ∈ ps.zip us, (defScope st).names.lookup y.1 = some .local ∨ ((defScope st).names.lookup y.1 = some .cell ∧ ((cellsFrom (s.heap.objs.size + 1) (defScope st).names []).lookup y.1).isSome = true) := fun ⟨n, v⟩ hy => by
    rcases S.par n (List.of_mem_zip hy).1 with q | q
    · exact .inl q
    · exact .inr ⟨q, PySem.W.cellsFrom_some _ _ _ (.inl q)⟩
  refine codeAny_call_function (by have := hr.dp; omega) (KX _ _ lk) rfl S.co S.gen rfl (PySem.W.codeRec_of KX hcd) (hb _ _ _ _ ?_)
  refine wpAny_newFunctionEnv_cells S.kind hkind fun env he s1 x => ?_
  subst he
  refine ⟨lim.keeps x.toInCall.keep, codeAny_func ?_⟩
  obtain ⟨t, ht, hq⟩ := hbody cdv ea A outer s H vs Q E (hr.deeper _) hsp
  have I0 : Inv (cxOf CX0 P w K mg base N qual (defScope st) f cdv { A with handled := none } outer s H E) [] (start N vs) H s1 := inv_start S rfl ⟨e0.frames, e0.mod, e0.bs, e0.bsz, e0.funs, e0.frf, e0.hok, e0.bare⟩ hl r x
  have ok0 := I0.ok
  have I : Inv (cxOf CX0 P w K mg base N qual (defScope st) f cdv A outer s H E).hot [] (start N vs) H s1 :=
    ⟨⟨ok0.mod, ok0.kind, ok0.glob, ok0.blt, ok0.above, ok0.inj, ok0.has, ok0.cab, fun z => (nomatch z), Around.frames_deeper e0.frames, ok0.stk, ok0.exf, ok0.bs, ok0.bsz, ok0.noex, ok0.exfs, ok0.funs, ok0.frf⟩, I0.os, I0.bare, I0.base, I0.loc, I0.cell, I0.free, I0.freeC, I0.pin, I0.hok, I0.len⟩
  refine wpAny_mono (ht.ok.nox [] s1 (start N vs) H _ I hq) (fun fl s' hs => ?_) fun e s' hs => hs
  have fin : ∀ {σ' : St} {H' : Hp} {v : V} {u : Value}, Inv (cxOf CX0 P w K mg base N qual (defScope st) f cdv A outer s H E).hot [] σ' H' s' → RelV v u → Q v H' → CE outer P w H s Q u s' :=
    fun {σ' H' v u} J rv q => ⟨v, H', J.os, J.bare, J.base, J.hok, rv, q⟩
  cases fl with
  | ret u =>
    obtain ⟨v, σ', H', J, rv, q⟩ := hs
    exact fin J rv q
  | next =>
    obtain ⟨σ', H', J, q⟩ := hs
    exact fin (v := V.non) (u := Value.none) J rfl q
  | brk =>
    obtain ⟨_, _, _, q⟩ := hs
    exact False.elim q
  | cont =>
    obtain ⟨_, _, _, q⟩ := hs
    exact False.elim q
end
section
variable {X : Cx} {k : Nat} {f : Addr} {fd : FuncData} {ps : List Str} {sp : Addr → Sp} {ds : List Value} {dvs : List V} {x : Str} {p pos : Pos} {e : Expr} {es : List Expr} {t : TA} {ea : Addr}
theorem qpe_callE (F : FnOkE X.prog X.w X.K X.mg X.base k f fd ps sp) (hr : RoomE ea k X.A) (hg : Gl X x) (hm : X.mg x = some (.ref f)) (hk : PySem.W.keepIn X.K (.ref f) = true) (hb : Binds X.K fd ps ds) (hd : Vals dvs ds)
    (ha : QA X (e :: es) t) (hdb : (x == ("__debug__" : Str)) = false := by decide) (he : starEach (e :: es) X.env = (false, eval e X.env) :: starEach es X.env := by rfl) (hpl : (backTo pos (starEach es X.env)).any (·.1) = false := by rfl) :
    QE X (.Call (.Name x p) (e :: es) [] pos) (tCall (sp ea) dvs E0 t) := ⟨by
  intro pins s σ H Q I h
  refine wpAny_Call_Name_kw (ld_glob I hg hm ?_ hdb)
  refine PySem.W.callWith_K (h₀ := X.base) I.ok.mod.kin hk (thn (ha.ok pos pins s σ H _ I h) fun us s1 ⟨vs, H1, I1, r, q⟩ => ⟨I1.kIn, ?_⟩) he hpl
  have r2 : Vals (vs ++ dvs) (us ++ ds) := r.append hd
  have hl : (us ++ ds).length = ps.length := by rw [← r2.length]; exact F.len _ _ _ _ _ q
  refine wpAny_call (codeAny_mono (F.run ea X.A X.stack s1 H1 ⟨us, []⟩ (us ++ ds) (vs ++ dvs) Q E0 hr I1.env0 (hb s1 us I1.kIn hl) r2 q) fun r s' hq => ?_)
  cases r with
  | error e => exact False.elim hq
  | ok fl =>
    cases fl with
    | ret u => exact I1.after hq
    | next => exact False.elim hq
    | brk => exact False.elim hq
    | cont => exact False.elim hq⟩
end
/-! ### caught by a class above its own -/
theorem exc_matches2 {M : Model} {A : Around} {E : Value → Shared → Prop} {K : PySem.W.Frag} {nm q : Str} {C D N : Addr} {bs bm : List Value} {hdct : Bool} {sn : List Str} {sub : List Value} {ab : Bool} {col : Option Bool} {dd : Option Addr} {k0 k1 k2 k3 k5 : Option Value} {newId : String}
    {h : Heap} {g : Array GenState} {d : Drawn} {t : Nat} {os : OsState} {e : Addr} {oe : Obj} {Q : Bool → Shared → Prop} (X : K.In h) (hD : h.get? D = some (excClassObj nm q D N bs bm hdct sn sub ab col dd k0 k1 k2 k3 k5 newId)) (hbase : bm.contains (.type "BaseException") = true)
    (he : h.get? e = some oe) (hcls : oe.cls = .ref C) (hs : PySem.W.subIn K (.ref C) (.ref D) = some true) (hq : Q true ⟨h, g, d, t, os⟩) : wpAny M A (excMatches (.ref e) (.ref D)) Q E ⟨h, g, d, t, os⟩ := by
  have b1 : (Value.ref D :: bm).contains (.type "BaseException") = true := by rw [List.contains_cons, hbase, Bool.or_true]
  have ls : Looks M h (isSubtype (.ref C) (.ref D)) true := looks_subIn X hs
  have f := tc_notTuple
  unfold excMatches
  repeat (first | (with_reducible refine wpAny_loadPart_at he ?_; rw [hcls]) | with_reducible refine wpAny_loadPart_at hD ?_ | with_reducible refine ls.at ?_ | (with_reducible refine wpAny_isSubtype_exc hD ?_; rw [b1]) | wp_step)
  exact hq
section
variable {X : Cx} {pins : List (Addr × Obj)} {σ : St} {H : Hp} {s : Shared}
/-- an object that no one had told of is told of -/
theorem Inv.track {a : Addr} {o : HO} (I : Inv X pins σ H s) (hH : H a = none) (h0 : X.s₀.heap.get? a = none) (hL : a ≠ X.env.locals) (hc : ∀ x c, X.env.cells.lookup x = some c → c ≠ a) (hp : ∀ p ∈ X.pn ++ pins, p.1 ≠ a) (new : ObjOk X.prog X.w (upd H a o) s.heap a o) : Inv X pins σ (upd H a o) s := by
  have at_ : ∀ b u, H b = some u → upd H a o b = some u := fun b u q => by rw [upd_ne (ne_of_none q hH)]; exact q
  refine ⟨I.ok, I.os, I.bare, ⟨I.base.keep, I.base.slot, fun b ob q n hx => ?_, I.base.there, fun b xs q => at_ b _ (I.base.tups b xs q), fun b ob u q => at_ b _ (I.base.frzs b ob u q), fun b ps q => ?_⟩, I.loc, I.cell, ?_, fun x c q => ?_, fun p q => ?_, fun b u q => ?_, I.len⟩
  · have nb : b ≠ a := fun z => by rw [z, h0] at q; cases q
    rw [upd_ne nb]
    exact I.base.free b ob q n hx
  · obtain ⟨more, q2⟩ := I.base.tbls b ps q
    exact ⟨more, at_ b _ q2⟩
  · rw [upd_ne (Ne.symm hL)]
    exact I.free
  · rw [upd_ne (hc x c q)]
    exact I.freeC x c q
  · obtain ⟨q1, q2, q3⟩ := I.pin p q
    exact ⟨q1, by rw [upd_ne (hp p q)]; exact q2, q3⟩
  · by_cases nb : b = a
    · subst nb
      rw [upd_same] at q
      cases q
      exact new
    · rw [upd_ne nb] at q
      exact (I.hok b u q).stay (fun _ _ _ z => z) (fun c z => at_ c _ z) fun c xs z => at_ c _ z
/-- the name goes behind the suite -/
theorem goes_ok {M : Model} {A : Around} {E : Value → Shared → Prop} {i : Nat} {x : Str} {pos : Pos} {Q : Unit → Shared → Prop} (I : Inv X pins σ H s) (hN : X.N.Nodup) (hi : X.N[i]? = some x) (hk : X.env.kindOf x = some .local)
    (h : ∀ s', Inv X pins (σ.set i none) H s' → Q () s') : wpAny M A (do bindName X.env x .none; unbindBehindTheSuite X.env x pos) Q E s := by
  obtain ⟨m, hn, hl⟩ := id I.loc
  have hcls : (X.env.scope.kind == .class || (X.env.scope.kind == .module && X.env.locals != X.env.globals)) = false := by rw [I.ok.kind]; rfl
  refine wpAny_nameGoes_keeps hk hn hcls fun h' v hn' hs => ?_
  obtain ⟨oL, _, _, hoL, _⟩ := id hn
  have away : ∀ b o, X.s₀.heap.get? b = some o → b ≠ X.env.locals := fun b o q => Nat.ne_of_lt (Nat.lt_of_lt_of_le (Heap.lt_size q) I.ok.above)
  refine h _ ⟨I.ok, I.os, I.bare, ⟨fun b o q n hb hx => (hs.2 b (away b o q)).trans (I.base.keep b o q n hb hx), fun b o q n hb hx => ?_, I.base.free, fun b o q hx => ?_, I.base.tups, I.base.frzs, I.base.tbls⟩, ⟨_, hn', fun j y v' e1 e2 e3 => ?_⟩, fun y c q => ?_, I.free, I.freeC, fun p hp => ?_, fun b ob q => ?_, by simpa using I.len⟩
  · obtain ⟨sl, q1⟩ := I.base.slot b o q n hb hx
    exact ⟨sl, (hs.2 b (away b o q)).trans q1⟩
  · obtain ⟨o', q1⟩ := I.base.there b o q hx
    exact ⟨o', (hs.2 b (away b o q)).trans q1⟩
  · by_cases hj : j = i
    · subst hj
      have : j < σ.length := by rw [I.len]; exact (List.getElem?_eq_some_iff.mp hi).1
      rw [List.getElem?_set_self this] at e2
      cases e2
    · rw [List.getElem?_set_ne (Ne.symm hj)] at e2
      obtain ⟨u', r', q⟩ := hl j y v' e1 e2 e3
      refine ⟨u', r', ?_⟩
      rcases q with ⟨k, e⟩ | ⟨k, c, e, z⟩
      · refine .inl ⟨k, ?_⟩
        have : y ≠ x := fun e => hj (nodup_ix hN e1 (e ▸ hi))
        simp [this, e]
      · exact .inr ⟨k, c, e, z.sameBut hs (I.cne y c e)⟩
  · obtain ⟨w', z⟩ := I.cell y c q
    exact ⟨w', z.sameBut hs (I.cne y c q)⟩
  · obtain ⟨e, n, ne, nf, d⟩ := I.pin p hp
    exact ⟨(hs.2 p.1 ne).trans e, n, ne, nf, d⟩
  · refine (I.hok b ob q).stay (fun c w' hc z => (hs.2 c ?_).trans z) (fun _ z => z) fun _ _ z => z
    rintro rfl
    rcases hc with z | z
    · rw [← z, I.free] at q; cases q
    · rw [I.free] at z; cases z
end
/-- the ends of a suite whose name goes -/
def unb (i : Nat) (D : Ends) : Ends := { nx := fun σ H => D.nx (σ.set i none) H, rt := D.rt, bk := fun σ H => D.bk (σ.set i none) H, ct := fun σ H => D.ct (σ.set i none) H }
def tTryAs (sp : Sp) (dvs : List V) (C : Addr) (i : Nat) (t : TA) (ts : Addr → TS) : TS := fun D σ H => t σ H fun vs H1 => sp (vs ++ dvs) H1 (fun _ H2 => D.nx σ H2)
  (fun cls _ H2 => cls = .ref C ∧ ∀ ea, H2 ea = none → ts ea (unb i D) (σ.set i (some (.ref ea))) (upd H2 ea (.ext (ExcX ea C))))
section
variable {X : Cx} {k i : Nat} {f C Dc : Addr} {fd : FuncData} {ps : List Str} {sp : Sp} {dvs : List V} {ds : List Value} {x y n : Str} {p pos cpos epos hpos np : Pos} {e : Expr} {es : List Expr} {t : TA} {b0 : Stmt} {suite : List Stmt} {ts : Addr → TS}
theorem qps_tryAs (F : FnOk X.prog X.w X.K X.mg X.base (CX2 X.prog X.w) k f fd ps sp) (hr : Room k X.A) (hg : Gl X x) (hm : X.mg x = some (.ref f)) (hk : PySem.W.keepIn X.K (.ref f) = true) (hb : Binds X.K fd ps ds) (hd : Vals dvs ds)
    (ha : ∀ Eb, QA (X.wish Eb) (e :: es) t) (hst : X.stack = X.env :: X.outer) (hfr : X.env.frame = some X.env.locals) (hxe : ∀ ev s, X.xe ev s → False)
    (hgy : Gl X y) (hmy : X.mg y = some (.ref Dc)) (qy : PySem.W.excIn X.K Dc bmVE "ValueError.__new__" = true) (hCD : PySem.W.subIn X.K (.ref C) (.ref Dc) = some true)
    (hN : X.N.Nodup) (hi : X.N[i]? = some n) (hloc : X.env.kindOf n = some .local) (hex : X.ex = []) (hs : ∀ ea, QSs (X.marked (.ref ea)) (b0 :: suite) (ts ea))
    (he : starEach (e :: es) X.env = (false, eval e X.env) :: starEach es X.env := by rfl) (hpl : (backTo cpos (starEach es X.env)).any (·.1) = false := by rfl) (hdb : (x == ("__debug__" : Str)) = false := by decide) (hdy : (y == ("__debug__" : Str)) = false := by decide)
    (hsw : swapsWith (.Call (.Name x p) (e :: es) [] cpos) none epos.line X.env = pure false := by rfl) :
    QS X (.Try [.Expr (.Call (.Name x p) (e :: es) [] cpos) epos] [.ExceptHandler (some (.Name y np)) (some n) (b0 :: suite) hpos] [] [] pos) (tTryAs sp dvs C i t ts) := ⟨by
  intro pins s σ H D I h
  refine wpAny_Try_except ?_
  refine wpAny_execs_cons (wpAny_mono (Q := SP X pins D) ?_ (fun fl s1 q => ?_) fun _ _ z => z)
  · generalize hEb : (fun (e : Value) (s₁ : Shared) => wpAny (model X.prog X.w) X.A (noteFrame e X.env) (fun _ s₂ => wpAny (model X.prog X.w) X.A (setFlight e none) (fun _ s₃ => wpAny (model X.prog X.w) X.A (handleBy e X.env [.ExceptHandler (some (.Name y np)) (some n) (b0 :: suite) hpos]) (SP X pins D) X.xe s₃) X.xe s₂) X.xe s₁) = Eb
    have I0 := I.wish Eb
    refine wpAny_Expr_any (Q := SP X pins D) ?_ I.quiet hsw
    refine wpAny_Call_Name_kw (ld_glob I hg hm ?_ hdb)
    refine PySem.W.callWith_K (h₀ := X.base) I.ok.mod.kin hk (thn ((ha Eb).ok cpos pins s σ H _ I0 h) fun us s1 ⟨vs, H1, I1, r, q⟩ => ⟨I1.kIn, ?_⟩) he hpl
    have r2 : Vals (vs ++ dvs) (us ++ ds) := r.append hd
    have hl : (us ++ ds).length = ps.length := by rw [← r2.length]; exact F.len _ _ _ _ q
    have J1 : Inv X pins σ H1 s1 := I1.unwish
    refine wpAny_call (codeAny_mono (F.run X.A X.stack s1 H1 ⟨us, []⟩ (us ++ ds) (vs ++ dvs) _ _ hr J1.env0 (hb s1 us J1.kIn hl) r2 q) fun r s' hq => ?_)
    cases r with
    | ok fl =>
      cases fl with
      | ret u =>
        obtain ⟨v, H2, I2, _, q2⟩ := J1.after hq
        exact ⟨σ, H2, I2, q2⟩
      | next => exact False.elim hq
      | brk => exact False.elim hq
      | cont => exact False.elim hq
    | error ev =>
      show Eb ev s'
      rw [← hEb]
      obtain ⟨ea, T, cls, H', rfl, os, bare, un, hok, fl, rfl, q⟩ := hq
      obtain ⟨hh, g, d, tk, os'⟩ := s'
      obtain rfl : os' = s1.os := os
      have I2 : Inv X pins σ H' { s1 with heap := hh, gens := g, drawn := d, toks := tk } := J1.call (h' := hh) (g' := g) (d' := d) (t' := tk) (ch := []) un hok bare (fun b z => nomatch z)
      have noneS : ∀ b ∈ [ea, T], s1.heap.get? b = none := fun b hb => by
        rcases List.mem_cons.mp hb with r | r
        · rw [r]; exact fl.e0
        · rw [List.mem_singleton.mp r]; exact fl.t0
      have noneH : ∀ b ∈ [ea, T], H' b = none := fun b hb => by
        rcases List.mem_cons.mp hb with r | r
        · rw [r]; exact fl.eH
        · rw [List.mem_singleton.mp r]; exact fl.tH
      have go : ∀ h5, Wind [ea, T] (frs X.stack) hh h5 → Inv X pins σ H' { s1 with heap := h5, gens := g, drawn := d, toks := tk } := fun h5 L =>
        J1.call (h' := h5) (g' := g) (d' := d) (t' := tk) (ch := []) (un_wind un L noneS) (L.hok (fun b hb => (I2.frOk b hb).1) noneH hok) bare (fun b z => nomatch z)
      refine note_next (s := { s1 with heap := hh, gens := g, drawn := d, toks := tk }) (L := X.env.locals) (env := X.env) (outer := X.outer) (base := X.base) (by rw [← hst]; exact I.ok.frames) (by rw [← hst]; exact I2.stack) hfr fl.air fun h4 T4 f4 a4 w4 => ?_
      refine set_none2 (s := { s1 with heap := h4, gens := g, drawn := d, toks := tk }) a4 fun h5 a5 w5 => ?_
      rw [← hst] at w4
      have w45 : Wind [T4] (frs X.stack) h4 h5 := ⟨fun b o q n _ => w5.keep b o q n (by simp), w5.slot⟩
      have fresh4 : ∀ b o, hh.get? b = some o → b ∈ [T4] → b ∈ [ea, T] := fun b o y z => by
        obtain rfl := List.mem_singleton.mp z
        rw [show hh.get? b = none from f4] at y
        cases y
      have w05 := w4.trans (cs := [ea, T]) w45 (by simp) fresh4
      have I5 := go h5 w05
      obtain ⟨⟨ob, us5, _, _, hob, hobc, _⟩, _⟩ := id a5
      refine wpAny_handleBy_cons (codeAny_handlers_test (ld_glob (X := X.marked (.ref ea)) I5.marked hgy hmy ?_ hdy)) (by intro q; cases q)
      obtain ⟨tl, N, nm, qn, bs, hdct, sn, sub, ab, col, dd, k0, k1, k2, k3, k5, mN, hC, hN', hni, TL⟩ := (own_cls (h := X.base) I.ok.mod.kin hmy qy).obj
      refine exc_matches2 I5.kIn (I5.bk _ _ hC) (TL.hasType (by decide +kernel)) hob hobc hCD (codeAny_handlers_suite_as ?_)
      refine set_none2 (s := { s1 with heap := h5, gens := g, drawn := d, toks := tk }) a5 fun h6 a6 w6 => ?_
      have w56 : Wind [T4] (frs X.stack) h5 h6 := ⟨fun b o q n _ => w6.keep b o q n (by simp), w6.slot⟩
      have w06 := w05.trans (cs := [ea, T]) w56 (by simp) fresh4
      have I6 := go h6 w06
      -- the exception is told of
      have out1 : ∀ b o, s1.heap.get? b = some o → b ≠ ea := fun b o z y => by rw [y, fl.e0] at z; cases z
      have x6 : ExcX ea C h6 := by
        obtain ⟨⟨o6, v6, _, _, z1, z2, z3, _, z4, _⟩, _⟩ := a6
        exact ⟨o6, v6, z1, z2, z3, z4⟩
      have I7 : Inv X pins σ (upd H' ea (.ext (ExcX ea C))) { s1 with heap := h6, gens := g, drawn := d, toks := tk } := by
        refine I6.track fl.eH ?_ ?_ (fun x c z => ?_) (fun p z => ?_) (excX_ok x6)
        · cases z : X.s₀.heap.get? ea with
          | none => rfl
          | some o =>
            obtain ⟨o', z'⟩ := J1.base.there ea o z (by rw [hex]; simp)
            exact absurd rfl (out1 ea o' z')
        · obtain ⟨m, ⟨o, _, _, ho, _⟩, _⟩ := J1.loc
          exact Ne.symm (out1 _ o ho)
        · obtain ⟨v, o, ho, _⟩ := J1.cell x c z
          exact out1 c o ho
        · obtain ⟨q1, _⟩ := J1.pin p z
          exact out1 p.1 p.2 q1
      refine store_ok (X := X.marked (.ref ea)) (E := _) I7.marked hN hi (.inl hloc) (v := .ref ea) rfl (fun s8 I8 => ?_) (.inr hloc)
      refine wpAny_mono ((hs ea).ok pins s8 _ _ (unb i D) I8 (q ea fl.eH)) (fun f9 s9 q9 => ?_) fun ev s' z => (hxe ev s' z).elim
      have J9 := SP.unmarked I.ok q9
      cases f9 with
      | next => obtain ⟨σ', H9, I9, q9⟩ := J9; exact goes_ok I9 hN hi hloc fun s' I' => ⟨_, _, I', q9⟩
      | brk => obtain ⟨σ', H9, I9, q9⟩ := J9; exact goes_ok I9 hN hi hloc fun s' I' => ⟨_, _, I', q9⟩
      | cont => obtain ⟨σ', H9, I9, q9⟩ := J9; exact goes_ok I9 hN hi hloc fun s' I' => ⟨_, _, I', q9⟩
      | ret u => obtain ⟨v, σ', H9, I9, r9, q9⟩ := J9; exact goes_ok I9 hN hi hloc fun s' I' => ⟨v, _, _, I', r9, q9⟩
  · cases fl with
    | next => exact wpAny_execs_nil (wpAny_execs_nil q)
    | ret v => exact q
    | brk => exact q
    | cont => exact q⟩
end
end L2
set_option Elab.async false
set_option linter.all false
set_option maxRecDepth 100000
namespace L2
open PySem PySem.W PySem.Spec PyProof.Rows
theorem bt_ValueError : bootBuiltins "ValueError" = some (.type "ValueError") := by decide +kernel
theorem FnOkE.mono {P : Program} {w : World} {K : PySem.W.Frag} {mg : Str → Option Value} {base : Heap} {j k : Nat} {f : Addr} {fd : FuncData} {ps : List Str} {sp : Addr → Sp} (F : FnOkE P w K mg base j f fd ps sp) (h : j ≤ k) : FnOkE P w K mg base k f fd ps sp :=
  ⟨F.len, fun ea A outer s H args us vs Q E r => F.run ea A outer s H args us vs Q E ⟨r.hd, by have := r.dp; omega, by have := r.un; omega⟩⟩
/-! ### tuples of whole numbers, held against one another -/
theorem ints_same (ns ms : List Int) : ((List.range (min ns.length ms.length)).all (fun j => ns.getD j 0 == ms.getD j 0) && ns.length == ms.length) = decide (ns = ms) := by
  rw [Bool.eq_iff_iff, Bool.and_eq_true, List.all_eq_true, beq_iff_eq, decide_eq_true_iff]
  constructor
  · rintro ⟨h1, h2⟩
    refine List.ext_getElem h2 fun i a b => ?_
    have q := beq_iff_eq.mp (h1 i (List.mem_range.mpr (by omega)))
    rw [List.getD_eq_getElem?_getD, List.getD_eq_getElem?_getD, List.getElem?_eq_getElem a, List.getElem?_eq_getElem b] at q
    exact q
  · rintro rfl
    exact ⟨fun j _ => beq_self_eq_true _, rfl⟩
section
variable {X : Cx}
end
/-! ### what is a fraction -/
theorem iteP {a b : Int} {A B : Prop} (h1 : b < a → A) (h2 : ¬ b < a → B) : if decide (b < a) = true then A else B :=
  ite2 (fun h => h1 (of_decide_eq_true h)) fun h => h2 fun z => h (decide_eq_true z)
end L2
set_option Elab.async false
set_option linter.all false
set_option maxRecDepth 100000
/-! LIST COMPREHENSIONS over the layer: [elt for x in iter], [elt for x in iter if c]. -/
namespace L2
open PySem PySem.W PySem.Spec PyProof.Rows
/-- the slots that the comprehension sees -/
def pick (idx : List Nat) (σ : St) : St := idx.map fun k => (σ[k]?).getD none
def AllCap (X : Cx) (cl : List (Str × Addr)) : List Str → Prop
  | [] => True
  | n :: r => (cl.lookup n = X.env.cells.lookup n ∧ X.env.kindOf n = some .cell) ∧ AllCap X cl r
theorem AllCap.mem {X : Cx} {cl : List (Str × Addr)} : ∀ {caps : List Str}, AllCap X cl caps → ∀ n ∈ caps, cl.lookup n = X.env.cells.lookup n ∧ X.env.kindOf n = some .cell
  | _ :: _, h, n, hn => by
    rcases List.mem_cons.mp hn with e | e
    · subst e; exact h.1
    · exact AllCap.mem h.2 n e
/-- the block of a comprehension -/
abbrev Cx.comp (X : Cx) (sc : Scope) (cl : List (Str × Addr)) (x : Str) (caps : List Str) (s0 : Shared) (H0 : Hp) (C : Addr) (fp : List Addr) : Cx :=
  { prog := X.prog, w := X.w, K := X.K, mg := X.mg, base := X.base, A := X.A, N := x :: caps, s₀ := s0, H₀ := H0, env := compEnvC sc cl C X.env, outer := X.stack, stack := X.stack, ex := fp, fn := fun _ => false, calm := X.calm, pn := [], xe := fun _ _ => False }
/-- what is to be known of the scopes -/
structure CompOk (X : Cx) (sc : Scope) (cl : List (Str × Addr)) (x : Str) (caps : List Str) (idx : List Nat) : Prop where
  clos : closureFor sc X.env = pure cl
  nocell : ∀ y ∈ sc.names, y.2 ≠ .cell
  kind : sc.kind = .function
  names : ∀ y ∈ sc.names, y.2 = .local → sc.names.lookup y.1 = some .local
  xl : sc.names.lookup x = some .local
  free : ∀ y ∈ sc.names, y.2 = .free → y.1 ∈ caps
  cln : cl.map Prod.fst = caps
  cap : AllCap X cl caps
  nd : (x :: caps).Nodup
  ix : idx.map (fun k => X.N[k]?) = caps.map some
  notloc : ∀ y ∈ caps, sc.names.lookup y ≠ some .local
theorem mem_fst_of_lookup {cl : List (Str × Addr)} {y : Str} {c : Addr} (h : cl.lookup y = some c) : y ∈ cl.map Prod.fst := List.mem_map.mpr ⟨(y, c), PySem.mem_of_lookup h, rfl⟩
section
variable {X : Cx} {sc : Scope} {cl : List (Str × Addr)} {x : Str} {caps : List Str} {idx : List Nat} {pins : List (Addr × Obj)} {σ : St} {H : Hp} {s : Shared} {C : Addr} {fp : List Addr}
theorem CompOk.cell (Z : CompOk X sc cl x caps idx) {y : Str} {c : Addr} (h : cl.lookup y = some c) : X.env.cells.lookup y = some c := by
  have hm : y ∈ caps := by rw [← Z.cln]; exact mem_fst_of_lookup h
  rw [← (Z.cap.mem y hm).1]
  exact h
theorem relabel_mem {env : Env} {y : Str} {k : NameKind} (h : (relabel sc env).names.lookup y = some k) (hk : k = .cell ∨ k = .free) : ∃ k0, (y, k0) ∈ sc.names ∧ (k0 = .cell ∨ k0 = .free) := by
  have hm := PySem.mem_of_lookup h
  obtain ⟨⟨n, k0⟩, h1, h2⟩ := List.mem_map.mp hm
  dsimp only at h2
  by_cases hc : (k0 == NameKind.free && env.scope.kind == .function && env.kindOf n == some .cell) = true
  · rw [if_pos hc] at h2
    cases h2
    simp only [Bool.and_eq_true, beq_iff_eq] at hc
    exact ⟨k0, h1, .inr hc.1.1⟩
  · rw [if_neg hc] at h2
    cases h2
    exact ⟨k, h1, hk⟩
/-- the block begins -/
theorem Inv.comp (I : Inv X pins σ H s) (Z : CompOk X sc cl x caps idx) (hC : s.heap.objs.size ≤ C) {h' : Heap} {t' : Nat} (k : ∀ b o, s.heap.get? b = some o → h'.get? b = some o) {m : Str → Option Value} (hn : h'.Ns C m) (hf : ∀ b ∈ fp, FpOk X pins H b) (hfp : ∀ b ∈ fp, b < s.heap.objs.size) :
    Inv (X.comp sc cl x caps s H C fp) [] (none :: pick idx σ) H { s with heap := h', toks := t' } := by
  have nC : ∀ b o, s.heap.get? b = some o → b ≠ C := fun b o q => Nat.ne_of_lt (Nat.lt_of_lt_of_le (Heap.lt_size q) hC)
  have hHC : H C = none := I.hok.fresh hC
  refine ⟨⟨I.ok.mod, Z.kind, I.ok.glob, I.ok.blt, hC, fun y z c h1 h2 => I.ok.inj y z c (Z.cell h1) (Z.cell h2), fun y hy => ?_, fun y c z => (nomatch z), I.ok.hd, I.ok.frames, .inl rfl, fun b hb => ⟨Nat.ne_of_lt (Nat.lt_of_lt_of_le (hfp b hb) hC), fun y c q => (hf b hb).2.2.2.2.1 y c (Z.cell q)⟩, fun b o q => ?_, ?_, fun b o q z => ?_, fun b hb z => ?_, I.stack, fun b hb => I.stkFree b hb⟩,
    rfl, I.bare, Un.kept k, ⟨m, hn, fun i y v e1 e2 e3 => ?_⟩, fun y c q => ?_, hHC, fun y c q => I.freeC y c (Z.cell q), fun p hp => (nomatch hp), I.hok.kept k, ?_⟩
  · obtain ⟨k0, h1, h2⟩ := hy.elim (fun z => relabel_mem (sc := sc) (env := X.env) z (.inl rfl)) (fun z => relabel_mem (sc := sc) (env := X.env) z (.inr rfl))
    have hm : y ∈ caps := Z.free (y, k0) h1 (h2.resolve_left (Z.nocell (y, k0) h1))
    obtain ⟨q1, q2⟩ := Z.cap.mem y hm
    obtain ⟨c, q3⟩ := I.ok.has y (.inl q2)
    exact ⟨c, q1.trans q3⟩
  · exact ⟨I.bk b o q, I.base.free b o (I.ok.bs b o q).1 (I.ok.bs b o q).2 (I.ok.noex b o q)⟩
  · exact Nat.le_trans I.ok.bsz I.sz
  · obtain ⟨_, _, _, h1, _⟩ := hf b z
    rcases h1 with h1 | h1
    · exact I.ok.noex b o q h1
    · exact absurd (Nat.lt_of_lt_of_le (Heap.lt_size q) (Nat.le_trans I.ok.bsz h1)) (Nat.lt_irrefl _)
  · obtain ⟨_, h1, h2, _⟩ := hf b hb
    rcases List.mem_cons.mp (I.stkSub b z) with e | e
    · exact h1 e
    · exact h2 e
  · cases i with
    | zero => cases e2
    | succ j =>
      have e1 : caps[j]? = some y := e1
      have e2 : (pick idx σ)[j]? = some (some v) := e2
      have hix := congrArg (fun l => l[j]?) Z.ix
      simp only [List.getElem?_map, e1, Option.map_some] at hix
      unfold pick at e2
      rw [List.getElem?_map] at e2
      cases hk : idx[j]? with
      | none => rw [hk] at e2; cases e2
      | some kk =>
        rw [hk] at e2 hix
        simp only [Option.map_some, Option.some.injEq] at e2 hix
        have e4 : σ[kk]? = some (some v) := by
          cases hs : σ[kk]? with
          | none => rw [hs] at e2; cases e2
          | some o => rw [hs] at e2; exact congrArg some e2
        have hm : y ∈ caps := List.mem_of_getElem? e1
        obtain ⟨q1, q2⟩ := Z.cap.mem y hm
        obtain ⟨mX, _, hl⟩ := I.loc
        obtain ⟨u, r, lk⟩ := hl kk y v hix e4 (.inr (.inl q2))
        refine ⟨u, r, ?_⟩
        rcases lk with ⟨z, _⟩ | ⟨_, c, q3, q4⟩
        · rw [q2] at z; cases z
        · have vis : (compEnvC sc cl C X.env).kindOf y = some .cell ∨ (compEnvC sc cl C X.env).kindOf y = some .free := by
            rcases e3 with z | z | z
            · exfalso
              have hm2 := PySem.mem_of_lookup z
              obtain ⟨⟨n0, k0⟩, h1, h2⟩ := List.mem_map.mp hm2
              dsimp only at h2
              by_cases hc : (k0 == NameKind.free && X.env.scope.kind == .function && X.env.kindOf n0 == some .cell) = true
              · rw [if_pos hc] at h2; cases h2
              · rw [if_neg hc] at h2
                cases h2
                exact Z.notloc y hm (Z.names _ h1 rfl)
            · exact .inl z
            · exact .inr z
          exact .inr ⟨vis, c, q1.trans q3, q4.keeps k⟩
  · obtain ⟨v, q1⟩ := I.cell y c (Z.cell q)
    exact ⟨v, q1.keeps k⟩
  · show (none :: pick idx σ).length = (x :: caps).length
    have := congrArg List.length Z.ix
    simp only [List.length_map] at this
    simp [pick, this]
/-- behind the block -/
theorem Inv.uncomp {pins' : List (Addr × Obj)} {σ' : St} {H' : Hp} {s' : Shared} (I : Inv X pins σ H s) (J : Inv (X.comp sc cl x caps s H C fp) pins' σ' H' s') (hf : ∀ b ∈ fp, FpOk X pins H b) : Inv X pins σ H' s' :=
  I.call' J.os J.base J.hok J.bare fun b hb => ⟨(hf b hb).2.2.2.1, (hf b hb).2.1, (hf b hb).2.2.2.2.1, (hf b hb).2.2.2.2.2⟩
end
section
variable {prog : Program} {w : World} {A : Around} {R : Result → Shared → Prop} {s : Shared}
/-- the loop of a comprehension -/
theorem comp_loop {elt target iter : Expr} {ifs : List Expr} {scope : Scope} {pos : Pos} {it acc : Value} {env : Env} (I : Nat → Shared → Prop)
    (turn : ∀ n s, I n s → wpAny (model prog w) A (pyNext it) (fun r s1 => match r with
      | none => R (.ok .next) s1
      | some v => wpAny (model prog w) A (letOwnedTupleGo target it v) (fun _ s1' => wpAny (model prog w) A (assign target env v) (fun _ s2 =>
          wpAny (model prog w) A (forIn ifs true fun c r => if r = true then do let ok ← isTrue c env (eval c env); pure (ForInStep.yield ok) else pure (ForInStep.yield r)) (fun ok s3 =>
            if ok = true then wpAny (model prog w) A (eval elt env) (fun x s4 =>
              wpAny (model prog w) A (call (.builtin "list.append") [acc, x]) (fun _ s5 => ∃ m, m < n ∧ I m s5) (fun _ _ => False) s4) (fun _ _ => False) s3
            else ∃ m, m < n ∧ I m s3) (fun _ _ => False) s2) (fun _ _ => False) s1') (fun _ _ => False) s1) (fun _ _ => False) s)
    (n : Nat) (h : I n s) : codeAny (model prog w) A (.compLoop (.ListComp elt [⟨target, iter, ifs, 0⟩] scope pos) 0 it acc env) R s := by
  refine codeAny_loop rfl I (fun n s hI => ?_) n h
  show wpAny _ A ((compTurn (.ListComp elt [⟨target, iter, ifs, 0⟩] scope pos) 0 it acc env).onRaise (fun x => do noteFrame x env; theTreesLotGoes x)) _ _ s
  refine wpAny_noted ?_
  rw [compTurn_list]
  refine wpAny_bind (wpAny_standAt (wpAny_bind (wpAny_mono (turn n s hI) (fun r s1 h1 => ?_) fun _ _ z => z.elim)))
  cases r with
  | none => exact wpAny_pure h1
  | some v =>
    refine wpAny_bind (wpAny_mono h1 (fun _ s1' h1' => wpAny_bind (wpAny_mono h1' (fun _ s2 h2 => wpAny_bind (wpAny_mono h2 (fun ok s3 h3 => ?_) fun _ _ z => z.elim)) fun _ _ z => z.elim)) fun _ _ z => z.elim)
    cases ok with
    | false => exact wpAny_pure ⟨rfl, h3⟩
    | true =>
      exact wpAny_bind (wpAny_bind (wpAny_mono h3 (fun x s4 h4 => wpAny_bind (wpAny_mono h4 (fun _ s5 h5 => wpAny_pure (wpAny_pure ⟨rfl, h5⟩)) fun _ _ z => z.elim)) fun _ _ z => z.elim))
end
/-- the tests of a comprehension -/
structure QIf (X : Cx) (ifs : List Expr) (t : TT) : Prop where
  ok : ∀ (pins : List (Addr × Obj)) (s : Shared) (σ : St) (H : Hp) (Q : Bool → Hp → Prop), Inv X pins σ H s → t σ H Q →
    wpAny (model X.prog X.w) X.A (forIn ifs true fun c r => if r = true then do let ok ← isTrue c X.env (eval c X.env); pure (ForInStep.yield ok) else pure (ForInStep.yield r)) (TP X pins σ Q) X.xe s
def tAlways : TT := fun _ H Q => Q true H
theorem qif_none {X : Cx} : QIf X [] tAlways := ⟨fun _ _ _ H _ I h => by
  rw [List.forIn_nil]
  exact wpAny_pure ⟨H, I, h⟩⟩
/-- the list that comes, turn by turn: the turn, a measure, the list so far -/
def CompW (J : It) (D : Addr) (p : St) (tt : TT) (te : TE) (Q : V → Hp → Prop) (H1 : Hp) : Prop := ∃ W : Nat → Nat → List V → Hp → Prop, (∃ m, W 0 m [] (upd H1 D (.lst []))) ∧ ∀ i m ys H, W i m ys H →
  H D = some (.lst ys) ∧ ((J.stop i H ∧ Q (.ref D) H) ∨ (J.go i H ∧ ∀ x H', J.yld i H x H' → tt (some x :: p) H' fun c H2 =>
    if c = true then te (some x :: p) H2 fun v H3 => H3 D = some (.lst ys) ∧ ys.length < sizeLine ∧ ∃ m', m' < m ∧ W (i + 1) m' (ys ++ [v]) (upd H3 D (.lst (ys ++ [v]))) else ∃ m', m' < m ∧ W (i + 1) m' ys H2))
def tCompL (wi : TI) (idx : List Nat) (tt : TT) (te : TE) (Q : V → Hp → Prop) : St → Hp → Prop := fun σ H => wi σ H fun J H1 => ∀ D, H1 D = none → CompW J D (pick idx σ) tt te Q H1
def tComp (wi : TI) (idx : List Nat) (tt : TT) (te : TE) : TE := fun σ H Q => tCompL wi idx tt te Q σ H
section
variable {X : Cx} {sc : Scope} {cl : List (Str × Addr)} {x : Str} {caps : List Str} {idx : List Nat} {wi : TI} {tt : TT} {te : TE} {elt iter : Expr} {ifs : List Expr} {pos px : Pos}
/-- the block, ahead of the letting go of its names -/
theorem comp_run {use : Option (Value → Sem Unit)} {Q : V → Hp → Prop} {Q' : Value → Shared → Prop} (hc : X.calm = true) (Z : CompOk X sc cl x caps idx) (hi : QI X (.Name x px) iter wi)
    (ht : ∀ s0 H0 C fp, QIf (X.comp sc cl x caps s0 H0 C fp) ifs tt) (he : ∀ s0 H0 C fp, QE (X.comp sc cl x caps s0 H0 C fp) elt te) (hs : ∀ z, foldedSetIterable iter X.env z = pure z)
    {pins : List (Addr × Obj)} {s : Shared} {σ : St} {H : Hp} (I : Inv X pins σ H s) (h : tCompL wi idx tt te Q σ H)
    (fin : ∀ (D C : Addr) (H' : Hp) (s' : Shared) (m : Str → Option Value), Inv X pins σ H' s' → s'.heap.Ns C m → (∀ h2 : Heap, ∀ t2 σ2 s2, Inv X pins σ2 H' s2 → (∀ b o, b ≠ C → s2.heap.get? b = some o → h2.get? b = some o) → Inv X pins σ2 H' { s2 with heap := h2, toks := t2 }) → C ≠ X.env.locals → (∀ y c, X.env.cells.lookup y = some c → c ≠ C) → Q (.ref D) H' → compPost (model X.prog X.w) X.A X.xe use Q' (.ref D) C (.ok .next) s') :
    wpAny (model X.prog X.w) X.A (comprehension (.ListComp elt [⟨.Name x px, iter, ifs, 0⟩] sc pos) sc X.env (firstIterPos [⟨.Name x px, iter, ifs, 0⟩] pos) (newList []) false (eval iter X.env) use) Q' X.xe s := by
  refine wpAny_comprehension_free rfl hs Z.clos Z.kind Z.names (thn (hi.ok pins s σ H _ I h) fun v s1 h1 => thn h1 fun itv s2 h2 => ?_)
  obtain ⟨it, fp, tn, J, H2, e, I2, T, st2, f2, qD⟩ := h2
  subst e
  refine wpAny_newObj_type (wpAny_newFunctionEnv (fun y hy => Z.nocell y hy) (by intro y hy; simp at hy) (fun h4 ns4 sb4 => ?_) Z.kind)
  dsimp only at ns4 sb4 ⊢
  have fD := I2.hok.fresh (Nat.le_refl s2.heap.objs.size)
  obtain ⟨W, ⟨m0, w0⟩, turn⟩ := qD s2.heap.objs.size fD
  have hlt : ∀ b ∈ fp, b < s2.heap.objs.size := fun b hb => by
    obtain ⟨o, q, _⟩ := T.obj 0 s2.heap st2 b hb
    exact Heap.lt_size q
  have I3 : Inv X pins σ (upd H2 s2.heap.objs.size (.lst [])) { s2 with heap := s2.heap.push { cls := .type "list", dict := none, data := .seq ([] : List Value).toArray }, toks := s2.toks } :=
    I2.laid (a := s2.heap.objs.size) (o := .lst []) (t' := s2.toks) (fun _ _ q => Heap.get?_push_of_some _ q) (Nat.le_refl _) ⟨Nat.zero_le _, [], 0, .nil, Heap.get?_push_size _ rfl⟩
  generalize hs3 : ({ s2 with heap := s2.heap.push { cls := .type "list", dict := none, data := .seq ([] : List Value).toArray }, toks := s2.toks } : Shared) = s3 at I3
  have e3 : s2.heap.push { cls := .type "list", dict := none, data := .seq ([] : List Value).toArray } = s3.heap := by rw [← hs3]
  rw [e3] at ns4 sb4
  have sz3 : s3.heap.objs.size = s2.heap.objs.size + 1 := by rw [← e3, Heap.size_push]
  have k34 : ∀ b o, s3.heap.get? b = some o → h4.get? b = some o := fun b o q => sb4.extBut b o (Nat.ne_of_lt (Heap.lt_size q)) (Heap.get?_push_of_some _ q)
  have f3 : ∀ b ∈ fp, FpOk X pins (upd H2 s2.heap.objs.size (.lst [])) b := fun b hb => ⟨by rw [upd_ne (Nat.ne_of_lt (hlt b hb))]; exact (f2 b hb).1, (f2 b hb).2⟩
  have J4 := I3.comp (t' := s2.toks + ([] : List (Str × Value)).length) Z (C := s3.heap.objs.size) (Nat.le_refl _) k34 ns4 f3 (fun b hb => by rw [sz3]; exact Nat.lt_succ_of_lt (hlt b hb))
  have tn4 : tn 0 h4 := T.keep 0 s2.heap h4 st2 fun b hb o q => k34 b o (by rw [← e3]; exact Heap.get?_push_of_some _ q)
  generalize hC : s3.heap.objs.size = C at *
  generalize hD : s2.heap.objs.size = D at *
  have hCL : C ≠ X.env.locals := by rw [← hC]; exact Nat.ne_of_gt I3.lt
  have hCc : ∀ y c, X.env.cells.lookup y = some c → c ≠ C := fun y c q => by
    obtain ⟨v, o, ho, _⟩ := I3.cell y c q
    rw [← hC]
    exact Nat.ne_of_lt (Heap.lt_size ho)
  have stat : ∀ {H' : Hp}, (∀ b ∈ fp, H' b = none) → ∀ b ∈ fp, FpOk (X.comp sc cl x caps s3 (upd H2 D (.lst [])) C fp) [] H' b := fun hn b hb =>
    ⟨hn b hb, by show b ≠ C; rw [sz3]; exact Nat.ne_of_lt (Nat.lt_succ_of_lt (hlt b hb)), fun z => by
      rcases List.mem_cons.mp (I3.stkSub b z) with q | q
      · exact (f2 b hb).2.1 q
      · exact (f2 b hb).2.2.1 q, .inl hb, fun y c q => (f2 b hb).2.2.2.2.1 y c (Z.cell q), fun p z => nomatch z⟩
  have loop : ∀ s5 : Shared, s5 = { s3 with heap := h4, toks := s2.toks + ([] : List (Str × Value)).length } →
      codeAny (model X.prog X.w) X.A (.compLoop (.ListComp elt [⟨.Name x px, iter, ifs, 0⟩] sc pos) 0 (.ref it) (.ref D) (compEnvC sc cl C X.env)) (compPost (model X.prog X.w) X.A X.xe use Q' (.ref D) C) s5 := by
    rintro s5 rfl
    refine comp_loop (fun n s' => ∃ i ys H', Inv (X.comp sc cl x caps s3 (upd H2 D (.lst [])) C fp) [] (none :: pick idx σ) H' s' ∧ tn i s'.heap ∧ (∀ b ∈ fp, H' b = none) ∧ W i n ys H') ?_ m0 ⟨0, [], _, J4, tn4, fun b hb => (f3 b hb).1, w0⟩
    rintro n s5 ⟨i, ys, H5, J5, st5, fr5, w5⟩
    obtain ⟨hD5, t5⟩ := turn i n ys H5 w5
    rcases t5 with ⟨stop, q5⟩ | ⟨go, step⟩
    · refine thn (T.done (X.comp sc cl x caps s3 (upd H2 D (.lst [])) C fp) rfl rfl rfl hc i [] s5 _ H5 _ J5 (stat fr5) st5 stop) fun r s6 ⟨hr, J6⟩ => ?_
      subst hr
      obtain ⟨m6, ns6, _⟩ := J6.loc
      have I6 := I3.uncomp J6 f3
      refine fin D C H5 s6 m6 I6 ns6 (fun h2 t2 σ2 s7 I7 k7 => ?_) hCL hCc q5
      refine I7.turned (it := C) k7 J6.free hCL (.inr ?_) hCc (fun p hp z => ?_)
      · rw [← hC]; exact I3.sz
      · have q := (I3.pin p hp).1
        rw [z, ← hC] at q
        exact absurd (Heap.lt_size q) (Nat.lt_irrefl _)
    · refine thn (T.item (X.comp sc cl x caps s3 (upd H2 D (.lst [])) C fp) rfl rfl rfl hc i [] s5 _ H5 _ J5 (stat fr5) st5 go) fun r s6 ⟨u, hr, h6⟩ => ?_
      subst hr
      refine thn h6 fun _ s6' ⟨xv, H6, J6, r6, y6, st6, fr6⟩ => ?_
      have J6' := J6.pinned (stat fr6) (T.obj _ _ st6)
      have again : ∀ {σ7 : St} {H7 : Hp} {s7 : Shared} {ys' : List V}, Inv (X.comp sc cl x caps s3 (upd H2 D (.lst [])) C fp) ([] ++ pinsAt fp s6'.heap) ((none :: pick idx σ).set 0 σ7.head?.join) H7 s7 → (∃ m', m' < n ∧ W (i + 1) m' ys' H7) →
          ∃ m, m < n ∧ ∃ i ys H', Inv (X.comp sc cl x caps s3 (upd H2 D (.lst [])) C fp) [] (none :: pick idx σ) H' s7 ∧ tn i s7.heap ∧ (∀ b ∈ fp, H' b = none) ∧ W i m ys H' := fun {σ7 H7 s7 ys'} J7 ⟨m', hm, w7⟩ => by
        refine ⟨m', hm, i + 1, ys', H7, (J7.unpinned (pins := [])).weak (by simp) (fun j v q => ?_), T.keep _ _ _ st6 fun b hb o e => (J7.pin (b, o) (List.mem_append_right _ (List.mem_append_right _ (mem_pinsAt hb e)))).1, fun b hb => ?_, w7⟩
        · cases j with
          | zero => cases q
          | succ j => exact q
        · obtain ⟨o, e, d⟩ := T.obj _ _ st6 b hb
          exact (J7.pin (b, o) (List.mem_append_right _ (List.mem_append_right _ (mem_pinsAt hb e)))).2.1
      have again' : ∀ {H7 : Hp} {s7 : Shared} {ys' : List V}, Inv (X.comp sc cl x caps s3 (upd H2 D (.lst [])) C fp) ([] ++ pinsAt fp s6'.heap) (some xv :: pick idx σ) H7 s7 → (∃ m', m' < n ∧ W (i + 1) m' ys' H7) →
          ∃ m, m < n ∧ ∃ i ys H', Inv (X.comp sc cl x caps s3 (upd H2 D (.lst [])) C fp) [] (none :: pick idx σ) H' s7 ∧ tn i s7.heap ∧ (∀ b ∈ fp, H' b = none) ∧ W i m ys H' := fun {H7 s7 ys'} J7 w7 => again (σ7 := [some xv]) J7 w7
      refine wpAny_assign_Name (store_ok J6' (i := 0) Z.nd rfl (.inl (lookup_relabel_local Z.xl)) r6 (fun s7 J7 => ?_) (.inr (lookup_relabel_local Z.xl)))
      have J7 : Inv (X.comp sc cl x caps s3 (upd H2 D (.lst [])) C fp) ([] ++ pinsAt fp s6'.heap) (some xv :: pick idx σ) H6 s7 := J7
      refine thn ((ht s3 (upd H2 D (.lst [])) C fp).ok _ s7 _ H6 _ J7 (step xv H6 y6)) fun ok s8 ⟨H8, J8, q8⟩ => ?_
      cases ok with
      | false => exact again' J8 q8
      | true =>
        refine thn ((he s3 (upd H2 D (.lst [])) C fp).ok _ s8 _ H8 _ J8 q8) fun u9 s9 ⟨v9, H9, J9, r9, hD9, hl9, q9⟩ => ?_
        refine thn (mt_append (X := X.comp sc cl x caps s3 (upd H2 D (.lst [])) C fp) _ s9 _ H9 (.ref D) [v9] (.ref D) [u9] (fun _ H10 => ∃ m', m' < n ∧ W (i + 1) m' (ys ++ [v9]) H10) J9 rfl (.cons r9 .nil) ⟨D, ys, v9, rfl, rfl, hD9, hl9, q9⟩) fun _ s10 ⟨_, H10, J10, _, q10⟩ => ?_
        exact again' J10 q10
  have start5 := loop _ rfl
  subst hs3
  subst hC
  exact codeAny_compStart_list start5 (T.self X.A 0 _ _ _ tn4 start5)
/-- [elt for x in iter if ..] -/
theorem qpe_comp (hc : X.calm = true) (Z : CompOk X sc cl x caps idx) (hi : QI X (.Name x px) iter wi) (ht : ∀ s0 H0 C fp, QIf (X.comp sc cl x caps s0 H0 C fp) ifs tt) (he : ∀ s0 H0 C fp, QE (X.comp sc cl x caps s0 H0 C fp) elt te)
    (hs : ∀ z, foldedSetIterable iter X.env z = pure z := by intro _; rfl) : QE X (.ListComp elt [⟨.Name x px, iter, ifs, 0⟩] sc pos) (tComp wi idx tt te) := ⟨fun pins s σ H Q I h => by
  rw [eval_ListComp]
  refine comp_run (use := none) hc Z hi ht he hs I h fun D C H' s' m I' ns hC _ _ q => ⟨m, ns, fun h2 sb => ?_⟩
  exact ⟨.ref D, H', hC h2 s'.toks σ s' I' fun b o nb z => sb.extBut b o nb z, rfl, q⟩⟩
/-- y = [elt for x in iter if ..], where the store comes ahead of the letting go of x -/
theorem qps_comp {i : Nat} {y : Str} {py spos : Pos} (hc : X.calm = true) (hN : X.N.Nodup) (hy : X.N[i]? = some y) (hl : X.env.kindOf y = some .local) (Z : CompOk X sc cl x caps idx) (hi : QI X (.Name x px) iter wi)
    (ht : ∀ s0 H0 C fp, QIf (X.comp sc cl x caps s0 H0 C fp) ifs tt) (he : ∀ s0 H0 C fp, QE (X.comp sc cl x caps s0 H0 C fp) elt te) (hsw : swapsWith (.ListComp elt [⟨.Name x px, iter, ifs, 0⟩] sc pos) (some (.Name y py)) spos.line X.env = pure true := by rfl)
    (hs : ∀ z, foldedSetIterable iter X.env z = pure z := by intro _; rfl) : QS X (.Assign [.Name y py] (.ListComp elt [⟨.Name x px, iter, ifs, 0⟩] sc pos) spos) (tAsg (tComp wi idx tt te) (gName i)) := ⟨fun pins s σ H D I h => by
  rw [exec_Assign_Name_used _ _ _ _ hsw]
  refine wpAny_bind (wpAny_standAt (wpAny_bind ?_))
  show wpAny _ X.A (do let _ ← comprehension (.ListComp elt [⟨.Name x px, iter, ifs, 0⟩] sc pos) sc X.env _ (newList []) false (eval iter X.env) (some (assign (.Name y py) X.env))) _ _ s
  refine wpAny_bind (thn (comp_run (use := some (assign (.Name y py) X.env)) (Q := fun v H1 => D.nx (σ.set i (some v)) H1) (Q' := fun _ s' => SP X pins D .next s') hc Z hi ht he hs I h fun L C H' s' m I' ns hC nL nc q => ?_) fun _ s' z => wpAny_pure (wpAny_pure z))
  refine wpAny_assign_Name (store_ok2 I' hN hy (.inl hl) (v := .ref L) rfl (fun s2 I2 ⟨a, sb, ha⟩ => ?_) (.inr hl))
  have na : a ≠ C := by
    rcases ha with e | e
    · rw [e]; exact Ne.symm nL
    · exact nc y a e
  refine ⟨m, ns.sameBut sb (Ne.symm na), fun h2 sb2 => ?_⟩
  exact ⟨_, H', hC h2 s2.toks _ s2 I2 fun b o nb z => sb2.extBut b o nb z, q⟩⟩
end
end L2
set_option Elab.async false
set_option linter.all false
set_option maxRecDepth 100000
/-! MORE RULES: the layer's others wrapped; all, any, min of three; == and != of lists, tuples, left numbers; slices with a step; list(range(..)). -/
namespace L2
open PySem PySem.W PySem.Spec PyProof.Rows
theorem bt_all : bootBuiltins "all" = some (.builtin "all") := by decide +kernel
theorem bt_str : bootBuiltins "str" = some (.type "str") := by decide +kernel
section
variable {es : List Expr} {env : Env} {pos : Pos}
theorem star_ListComp {a : Expr} {gs : List Comprehension} {sc : Scope} : starEach (.ListComp a gs sc pos :: es) env = (false, eval (.ListComp a gs sc pos) env) :: starEach es env := by rw [starEach]; intro e p z; cases z
end
structure QO (X : Cx) (e : Option Expr) (t : TO) : Prop where
  ok : PO X e t
section
variable {X : Cx} {a b c e l o i : Expr} {es : List Expr} {ta tb tc te tl to ti : TE} {tA : TT} {t : TA} {pos p p2 : Pos} {lo hi : Option Expr} {tlo thi : TO} {tg : Expr}
theorem qpo_none : QO X none tNoPart := ⟨po_none⟩
theorem qpo_some (h : QE X e te) : QO X (some e) (tPart te) := ⟨po_some h.ok⟩
theorem qpe_slice {r : V → Option Int → Option Int → Hp → VK → Prop} (hr : SlR X r) (he : QE X e te) (hl : QO X lo tlo) (hu : QO X hi thi) : QE X (.Subscript e (.Slice lo hi none p2) pos) (tSl r te tlo thi) := ⟨pe_slice hr he.ok hl.ok hu.ok⟩
theorem qpe_chain {op op' : CmpOp} {r r' : R2} (ho : OpR X (compareOp op) r) (ho' : OpR X (compareOp op') r') (ha : QE X a ta) (hb : QE X b tb) (hc : QE X c tc)
    (hm : lastMarks [op, op'] [b, c] = false := by with_unfolding_all rfl) : QE X (.Compare a [op, op'] [b, c] pos) (tChain r r' ta tb tc) := ⟨pe_chain ho ho' ha.ok hb.ok hc.ok hm⟩
theorem qpe_ifExp (hc : QT X c tA) (ha : QE X a ta) (hb : QE X b tb) : QE X (.IfExp c a b pos) (tIf tA ta tb) := ⟨pe_ifExp hc.ok ha.ok hb.ok⟩
theorem qpg_sub {t : TSet} (ho : QE X o to) (hi : QE X i ti) (hs : PSet X t)
    (ha : ∀ v, assign (.Subscript o i pos) X.env v = (do
      let ov ← holding [v] (eval o X.env)
      let iv ← holding [v, ov] (eval i X.env)
      standAt pos
      holding [v, ov, iv] (setItem ov iv v)
      release [v, ov, iv] []) := by intro _; rfl) : QG X (.Subscript o i pos) (gSub to ti t) := ⟨pg_sub ho.ok hi.ok hs ha⟩
theorem qpe_callTy {T : String} {x : Str} {r : List V → Hp → VK → Prop} (hc : CallR X (.type T) r) (hg : Gl X x) (hm : X.mg x = none) (hv : bootBuiltins x = some (.type T)) (ha : QA X (e :: es) t) (hn : x ≠ "__name__" := by decide) (hdb : (x == ("__debug__" : Str)) = false := by decide)
    (he : starEach (e :: es) X.env = (false, eval e X.env) :: starEach es X.env := by rfl) (hpl : (backTo pos (starEach es X.env)).any (·.1) = false := by rfl) : QE X (.Call (.Name x p) (e :: es) [] pos) (tCB r t) := ⟨pe_callTy hc hg hm hv ha.ok hn hdb he hpl⟩
/-! ### min of three, all, any -/
theorem getD_bool {bs : List Bool} {its : List Value} (rv : Vals (bs.map V.bl) its) {i : Nat} {v : Value} (hv : its.toArray[i]? = some v) : v = .bool (bs.getD i false) := by
  have hl := rv.length
  have hi : its[i]? = some v := by simpa using hv
  have hb : i < bs.length := by
    have := (List.getElem?_eq_some_iff.mp hi).1
    rw [← hl, List.length_map] at this
    exact this
  obtain ⟨u, hu, ru⟩ := rv.get (x := V.bl bs[i]) (by rw [List.getElem?_map, List.getElem?_eq_getElem hb]; rfl)
  rw [hi] at hu
  cases hu
  have e : bs.getD i false = bs[i] := by rw [List.getD_eq_getElem?_getD, List.getElem?_eq_getElem hb]; rfl
  rw [e]
  exact ru
theorem range_bools (bs : List Bool) : (List.range bs.length).map (fun i => bs.getD i false) = bs := by
  refine List.ext_getElem (by simp) fun i h1 h2 => ?_
  simp [h2]
/-- all(a list of truths) -/
theorem call_allL (hc : X.calm = true) : CallR X (.builtin "all") (fun xs H Q => ∃ (p : Addr) (bs : List Bool), xs = [.ref p] ∧ SqL X.K H p (bs.map V.bl) ∧ Q (.bl (bs.all id)) H) := by
  intro pins s σ H xs us Q I r h
  obtain ⟨p, bs, rfl, hp, q⟩ := h
  cases r with
  | cons r rr =>
    cases rr
    cases (show _ = Value.ref p from r)
    obtain ⟨its, rv, pl, hz⟩ := I.list hp
    have hl := rv.length
    have hs : its.toArray.size = bs.length := by rw [List.size_toArray, ← hl, List.length_map]
    have ho : (s.heap.push { cls := .type "list_iterator", data := .fields #[.ref p, .int 0 0] }).IsListIter s.heap.objs.size p 0 := ⟨_, Heap.get?_push_size _ rfl, rfl, rfl⟩
    have np : p ≠ s.heap.objs.size := by
      obtain ⟨o, ho, _⟩ := pl.isList
      exact Nat.ne_of_lt (Heap.lt_size ho)
    refine call_all_walk (wpAny_pyIter_list pl.isList ⟨s.heap.objs.size, _, _, _, _, _, fun i => bs.getD i false, rfl, Walks.list (A := X.A.in1) (I.ok.hd hc) _ _ np its.toArray, ⟨ho, pl.isList.at fun o e => Heap.get?_push_of_some _ e⟩, fun i v s Q E hv hq => ?_, fun h' tk k => ?_⟩)
    · rw [getD_bool rv hv]
      exact wpAny_pure hq
    · have e : (List.range its.toArray.size).all (fun i => bs.getD i false) = bs.all id := by
        rw [hs]
        conv => rhs; rw [← range_bools bs]
        rw [List.all_map]
        rfl
      refine ⟨.bl (bs.all id), H, I.kept (t' := tk) fun b o q => ?_, by rw [← e]; rfl, q⟩
      exact k b o (fun z => Nat.ne_of_lt (Heap.lt_size q) (by simpa using z)) (Heap.get?_push_of_some _ q)
/-! ### == of lists and tuples -/
/-- x == y as items, at any place -/
def Eqs (X : Cx) (k : Nat) (H : Hp) (x y : V) (e : Bool) : Prop := ∀ (pins : List (Addr × Obj)) (s : Shared) (σ : St) (A : Around) (u v : Value), Inv X pins σ H s → A.units + k < cLine → RelV x u → RelV y v → SeqAt.EqAt A s u v e
theorem Eqs.flat {H : Hp} {x y : V} (fx : flatV x = true) (fy : flatV y = true) {k : Nat} : Eqs X k H x y (eqV x y) := fun _ _ _ _ _ _ _ _ rx ry => eqAt_V rx ry fx fy
/-- two lists of items -/
def sameE (e : Nat → Bool) (xs ys : List V) : Bool := (List.range (min xs.length ys.length)).all e && xs.length == ys.length
theorem item_rel {xs : List V} {its : List Value} (r : Vals xs its) {j : Nat} (hj : j < its.toArray.size) (hx : j < xs.length) : RelV xs[j] its.toArray[j] := by
  obtain ⟨u, hu, ru⟩ := r.get (List.getElem?_eq_getElem hx)
  have : its.toArray[j] = u := by
    have h1 := (List.getElem?_eq_some_iff.mp hu).2
    simpa using h1
  rw [this]
  exact ru
theorem Eqs.tup {H : Hp} {a b : Addr} {xs ys : List V} {k : Nat} {e : Nat → Bool} (ha : SqT X.K H a xs) (hb : SqT X.K H b ys) (he : ∀ j (h1 : j < xs.length) (h2 : j < ys.length), Eqs X k H xs[j] ys[j] (e j)) (refl : xs = ys → sameE e xs ys = true) : Eqs X (k + 1) H (.ref a) (.ref b) (sameE e xs ys) :=
  fun pins s σ A u v I hu rx ry => by
  cases (show u = Value.ref a from rx)
  cases (show v = Value.ref b from ry)
  by_cases hab : a = b
  · subst hab
    have := refl (I.tuple_inj ha hb)
    rw [this]
    exact SeqAt.EqAt.same _
  · obtain ⟨its, r1, p1, _⟩ := I.tuple ha
    obtain ⟨its2, r2, p2, _⟩ := I.tuple hb
    have l1 : its.toArray.size = xs.length := by rw [List.size_toArray, ← r1.length]
    have l2 : its2.toArray.size = ys.length := by rw [List.size_toArray, ← r2.length]
    have main := SeqAt.RcAt.tuples (A := A) (s := s) (e := e) (show s.heap.IsTuple a its.toArray from p1) (show s.heap.IsTuple b its2.toArray from p2) (by omega) (fun j h1 h2 =>
      he j (by omega) (by omega) pins s σ A.in1 _ _ I (by show A.units + 1 + k < cLine; omega) (item_rel r1 h1 (by omega)) (item_rel r2 h2 (by omega)))
    rw [l1, l2] at main
    exact SeqAt.EqAt.of_refs hab main
/-- == of two tuples, of two lists -/
def rEqD (X : Cx) (neg : Bool) : R2 := fun x y H Q => ∃ (a b : Addr) (xs ys : List V) (e : Nat → Bool), x = .ref a ∧ y = .ref b ∧ ((SqT X.K H a xs ∧ SqT X.K H b ys) ∨ (SqL X.K H a xs ∧ SqL X.K H b ys)) ∧ (∀ j (h1 : j < xs.length) (h2 : j < ys.length), Eqs X 32 H xs[j] ys[j] (e j)) ∧ Q (.bl (if neg then !sameE e xs ys else sameE e xs ys)) H
theorem lists_len {e : Nat → Bool} {xs ys : List V} (h : xs.length ≠ ys.length) : sameE e xs ys = false := by
  unfold sameE
  rw [show (xs.length == ys.length) = false from beq_eq_false_iff_ne.mpr h, Bool.and_false]
theorem op_eqD (hu : X.A.units + 40 < cLine) : OpR X (compareOp .Eq) (rEqD X false) := by
  intro pins s σ H x y v u Q I rx ry h
  obtain ⟨a, b, xs, ys, e, rfl, rfl, hab, he, q⟩ := h
  cases rx
  cases ry
  rcases hab with ⟨ha, hb⟩ | ⟨ha, hb⟩
  · obtain ⟨its, r1, p1, _⟩ := I.tuple ha
    obtain ⟨its2, r2, p2, _⟩ := I.tuple hb
    have l1 : its.toArray.size = xs.length := by rw [List.size_toArray, ← r1.length]
    have l2 : its2.toArray.size = ys.length := by rw [List.size_toArray, ← r2.length]
    have main := SeqAt.RcAt.tuples (A := X.A) (s := s) (e := e) (show s.heap.IsTuple a its.toArray from p1) (show s.heap.IsTuple b its2.toArray from p2) (by omega) (fun j h1 h2 =>
      he j (by omega) (by omega) pins s σ X.A.in1 _ _ I (by show X.A.units + 1 + 32 < cLine; omega) (item_rel r1 h1 (by omega)) (item_rel r2 h2 (by omega)))
    rw [l1, l2] at main
    exact main _ _ _ _ ⟨.bl (sameE e xs ys), H, I, rfl, q⟩
  · obtain ⟨its, r1, p1, _⟩ := I.list ha
    obtain ⟨its2, r2, p2, _⟩ := I.list hb
    have l1 : its.toArray.size = xs.length := by rw [List.size_toArray, ← r1.length]
    have l2 : its2.toArray.size = ys.length := by rw [List.size_toArray, ← r2.length]
    by_cases hl : xs.length = ys.length
    · have main := SeqAt.RcAt.lists (A := X.A) (s := s) (e := e) p1.isList p2.isList (by omega) (by omega) (fun j h1 h2 =>
        he j (by omega) (by omega) pins s σ X.A.in1 _ _ I (by show X.A.units + 1 + 32 < cLine; omega) (item_rel r1 h1 (by omega)) (item_rel r2 h2 (by omega)))
      have es : (List.range its.toArray.size).all e = sameE e xs ys := by
        unfold sameE
        rw [l1, ← hl, Nat.min_self, beq_self_eq_true, Bool.and_true]
      rw [es] at main
      exact main _ _ _ _ ⟨.bl (sameE e xs ys), H, I, rfl, q⟩
    · have main := SeqAt.RcAt.lists_lengths (A := X.A) (s := s) p1.isList p2.isList (by rw [l1, l2, bne_iff_ne]; exact hl) (by omega)
      rw [if_neg (by decide), lists_len hl] at q
      exact main _ _ _ _ ⟨.bl false, H, I, rfl, q⟩
theorem op_neD (hu : X.A.units + 40 < cLine) : OpR X (compareOp .NotEq) (rEqD X true) := by
  intro pins s σ H x y v u Q I rx ry h
  obtain ⟨a, b, xs, ys, e, rfl, rfl, hab, he, q⟩ := h
  cases rx
  cases ry
  rcases hab with ⟨ha, hb⟩ | ⟨ha, hb⟩
  · obtain ⟨its, r1, p1, _⟩ := I.tuple ha
    obtain ⟨its2, r2, p2, _⟩ := I.tuple hb
    have l1 : its.toArray.size = xs.length := by rw [List.size_toArray, ← r1.length]
    have l2 : its2.toArray.size = ys.length := by rw [List.size_toArray, ← r2.length]
    have main := SeqAt.RcNeAt.tuples (A := X.A) (s := s) (e := e) (show s.heap.IsTuple a its.toArray from p1) (show s.heap.IsTuple b its2.toArray from p2) (by omega) (fun j h1 h2 =>
      he j (by omega) (by omega) pins s σ X.A.in1 _ _ I (by show X.A.units + 1 + 32 < cLine; omega) (item_rel r1 h1 (by omega)) (item_rel r2 h2 (by omega)))
    rw [l1, l2] at main
    exact main _ _ _ _ ⟨.bl (!sameE e xs ys), H, I, rfl, q⟩
  · obtain ⟨its, r1, p1, _⟩ := I.list ha
    obtain ⟨its2, r2, p2, _⟩ := I.list hb
    have l1 : its.toArray.size = xs.length := by rw [List.size_toArray, ← r1.length]
    have l2 : its2.toArray.size = ys.length := by rw [List.size_toArray, ← r2.length]
    by_cases hl : xs.length = ys.length
    · have main := SeqAt.RcNeAt.lists (A := X.A) (s := s) (e := e) p1.isList p2.isList (by omega) (by omega) (fun j h1 h2 =>
        he j (by omega) (by omega) pins s σ X.A.in1 _ _ I (by show X.A.units + 1 + 32 < cLine; omega) (item_rel r1 h1 (by omega)) (item_rel r2 h2 (by omega)))
      have es : (List.range its.toArray.size).all e = sameE e xs ys := by
        unfold sameE
        rw [l1, ← hl, Nat.min_self, beq_self_eq_true, Bool.and_true]
      rw [es] at main
      exact main _ _ _ _ ⟨.bl (!sameE e xs ys), H, I, rfl, q⟩
    · have main := SeqAt.RcNeAt.lists_lengths (A := X.A) (s := s) p1.isList p2.isList (by rw [l1, l2, bne_iff_ne]; exact hl) (by omega)
      rw [if_pos rfl, lists_len hl] at q
      exact main _ _ _ _ ⟨.bl true, H, I, rfl, q⟩
end
end L2
set_option Elab.async false
set_option linter.all false
set_option maxRecDepth 100000
/-! == of ints, truths and left numbers; comprehensions whose items are plain; slices with a step; list(range(..)) -/
namespace L2
open PySem PySem.W PySem.Spec PyProof.Rows
theorem OpR.of {X : Cx} {f : Value → Value → Sem Value} {r r' : R2} (h : OpR X f r) (k : ∀ x y H Q, r' x y H Q → r x y H Q) : OpR X f r' := fun pins s σ H x y v u Q I rx ry q => h pins s σ H x y v u Q I rx ry (k x y H Q q)
/-! ### flat items -/
def eF (xs ys : List V) : Nat → Bool := fun j => eqV (xs.getD j .non) (ys.getD j .non)
theorem getD_lt {xs : List V} {j : Nat} (h : j < xs.length) : xs.getD j .non = xs[j] := by rw [List.getD_eq_getElem?_getD, List.getElem?_eq_getElem h]; rfl
theorem eqs_flat {X : Cx} {k : Nat} {H : Hp} {xs ys : List V} (fx : xs.all flatV = true) (fy : ys.all flatV = true) : ∀ j (h1 : j < xs.length) (h2 : j < ys.length), Eqs X k H xs[j] ys[j] (eF xs ys j) := fun j h1 h2 => by
  unfold eF
  rw [getD_lt h1, getD_lt h2]
  exact Eqs.flat (List.all_eq_true.mp fx _ (List.getElem_mem h1)) (List.all_eq_true.mp fy _ (List.getElem_mem h2))
theorem int_flat (ns : List Int) : (ns.map V.int).all flatV = true := by rw [List.all_eq_true]; intro v hv; obtain ⟨n, _, rfl⟩ := List.mem_map.mp hv; rfl
theorem same_ints (ns ms : List Int) : sameE (eF (ns.map V.int) (ms.map V.int)) (ns.map V.int) (ms.map V.int) = decide (ns = ms) := by
  rw [← ints_same]
  unfold sameE
  rw [List.length_map, List.length_map]
  congr 1
  rw [Bool.eq_iff_iff, List.all_eq_true, List.all_eq_true]
  have key : ∀ j ∈ List.range (min ns.length ms.length), eF (ns.map V.int) (ms.map V.int) j = (ns.getD j 0 == ms.getD j 0) := fun j hj => by
    have h := List.mem_range.mp hj
    have h1 : j < ns.length := by omega
    have h2 : j < ms.length := by omega
    unfold eF
    rw [getD_lt (by rw [List.length_map]; exact h1), getD_lt (by rw [List.length_map]; exact h2), List.getElem_map, List.getElem_map, List.getD_eq_getElem?_getD, List.getD_eq_getElem?_getD, List.getElem?_eq_getElem h1, List.getElem?_eq_getElem h2]
    rfl
  exact ⟨fun h j hj => (key j hj).symm.trans (h j hj), fun h j hj => (key j hj).trans (h j hj)⟩
section
variable {X : Cx}
/-- == of two lists, or of two tuples, of whole numbers -/
def rEqI (K : PySem.W.Frag) (neg : Bool) : R2 := fun x y H Q => ∃ (a b : Addr) (ns ms : List Int), x = .ref a ∧ y = .ref b ∧ ((SqT K H a (ns.map V.int) ∧ SqT K H b (ms.map V.int)) ∨ (SqL K H a (ns.map V.int) ∧ SqL K H b (ms.map V.int))) ∧ Q (.bl (if neg then !decide (ns = ms) else decide (ns = ms))) H
theorem rEqI.d {neg : Bool} {x y : V} {H : Hp} {Q : VK} (h : rEqI X.K neg x y H Q) : rEqD X neg x y H Q := by
  obtain ⟨a, b, ns, ms, rfl, rfl, hab, q⟩ := h
  refine ⟨a, b, _, _, eF (ns.map V.int) (ms.map V.int), rfl, rfl, hab, eqs_flat (int_flat ns) (int_flat ms), ?_⟩
  rw [same_ints]
  exact q
theorem op_neI2 (hu : X.A.units + 40 < cLine) : OpR X (compareOp .NotEq) (rEqI X.K true) := (op_neD hu).of fun _ _ _ _ h => h.d
/-! ### left numbers -/
/-- at a stands the left number (p, l, fs) -/
def LeftAt (K : PySem.W.Frag) (H : Hp) (a : Addr) (p l : Int) (fs : List Int) : Prop := ∃ b, H a = some (.tup [.int p, .int l, .ref b]) ∧ H b = some (.tup (fs.map V.int))
theorem LeftAt.same {K : PySem.W.Frag} {H H' : Hp} {a : Addr} {p l : Int} {fs : List Int} (h : LeftAt K H a p l fs) (g : Same H H') : LeftAt K H' a p l fs := by
  obtain ⟨b, h1, h2⟩ := h
  exact ⟨b, g _ _ h1, g _ _ h2⟩
def rEqL (K : PySem.W.Frag) (neg : Bool) : R2 := fun x y H Q => ∃ (a b : Addr) (p l p' l' : Int) (fs fs' : List Int), x = .ref a ∧ y = .ref b ∧ LeftAt K H a p l fs ∧ LeftAt K H b p' l' fs' ∧ Q (.bl (if neg then !decide (p = p' ∧ l = l' ∧ fs = fs') else decide (p = p' ∧ l = l' ∧ fs = fs'))) H
theorem rEqL.d {neg : Bool} {x y : V} {H : Hp} {Q : VK} (h : rEqL X.K neg x y H Q) : rEqD X neg x y H Q := by
  obtain ⟨a, b, p, l, p', l', fs, fs', rfl, rfl, ⟨c, h1, h2⟩, ⟨c', h1', h2'⟩, q⟩ := h
  have h1 := SqT.of (K := X.K) h1
  have h2 := SqT.of (K := X.K) h2
  have h1' := SqT.of (K := X.K) h1'
  have h2' := SqT.of (K := X.K) h2'
  have hin : Eqs X 32 H (.ref c) (.ref c') (sameE (eF (fs.map V.int) (fs'.map V.int)) (fs.map V.int) (fs'.map V.int)) := Eqs.tup (k := 31) h2 h2' (eqs_flat (int_flat fs) (int_flat fs')) (fun z => by
    rw [same_ints]
    exact decide_eq_true ((List.map_inj_right (fun a b z => V.int.inj z)).mp z))
  rw [same_ints] at hin
  refine ⟨a, b, _, _, fun j => match j with | 0 => p == p' | 1 => l == l' | _ => decide (fs = fs'), rfl, rfl, .inl ⟨h1, h1'⟩, fun j j1 j2 => ?_, ?_⟩
  · match j, j1 with
    | 0, _ => exact Eqs.flat (x := .int p) (y := .int p') rfl rfl
    | 1, _ => exact Eqs.flat (x := .int l) (y := .int l') rfl rfl
    | 2, _ => exact hin
    | j + 3, j1 => exact absurd j1 (by simp)
  · have e : sameE (fun j => match j with | 0 => p == p' | 1 => l == l' | _ => decide (fs = fs')) [V.int p, V.int l, V.ref c] [V.int p', V.int l', V.ref c'] = decide (p = p' ∧ l = l' ∧ fs = fs') := by
      show (((List.range 3).all fun j => match j with | 0 => p == p' | 1 => l == l' | _ => decide (fs = fs')) && true) = _
      rw [Bool.and_true, Bool.eq_iff_iff, decide_eq_true_iff]
      simp [List.range, List.range.loop]
    rw [e]
    exact q
theorem op_eqL (hu : X.A.units + 40 < cLine) : OpR X (compareOp .Eq) (rEqL X.K false) := (op_eqD hu).of fun _ _ _ _ h => h.d
end
theorem Room.u40 {k : Nat} {A : Around} (r : Room k A) : A.units + 40 < cLine := by have := r.un; omega
/-! ### comprehensions with plain items -/
/-- what a walk of n turns over the items it tells -/
structure Plain (J : It) (xs : List V) (Hs : Hp → Prop) : Prop where
  stop : ∀ H, Hs H → J.stop xs.length H
  go : ∀ i H, i < xs.length → Hs H → J.go i H
  yld : ∀ i H x H', i < xs.length → Hs H → J.yld i H x H' → H' = H ∧ xs[i]? = some x
theorem plain_list {K : PySem.W.Frag} {a : Addr} {xs : List V} : Plain (Itl K a) xs (fun H => SqL K H a xs) where
  stop := fun H h => ⟨xs, h, Nat.le_refl _⟩
  go := fun i H hi h => ⟨xs, xs[i], h, List.getElem?_eq_getElem hi⟩
  yld := fun i H x H' _ h y => ⟨y.1, y.2 xs h⟩
theorem plain_tup {K : PySem.W.Frag} {a : Addr} {xs : List V} : Plain (Itt K a) xs (fun H => SqT K H a xs) where
  stop := fun H h => ⟨xs, h, Nat.le_refl _⟩
  go := fun i H hi h => ⟨xs, xs[i], h, List.getElem?_eq_getElem hi⟩
  yld := fun i H x H' _ h y => ⟨y.1, y.2 xs h⟩
theorem plain_rev {K : PySem.W.Frag} {a : Addr} {xs : List V} : Plain (Itv K a xs) xs.reverse (fun H => SqL K H a xs) where
  stop := fun H h => ⟨h, by simp⟩
  go := fun i H hi h => ⟨h, by simpa using hi⟩
  yld := fun i H x H' hi h y => ⟨y.1, by
    have hi : i < xs.length := by simpa using hi
    rw [List.getElem?_reverse hi]
    exact y.2⟩
/-- the list of what comes: f of the items for which c -/
theorem comp_plain {J : It} {xs : List V} {Hs : Hp → Prop} {p : St} {tt : TT} {te : TE} {Q : V → Hp → Prop} {H1 : Hp} {D : Addr} (c : V → Bool) (f : V → V) (P : Plain J xs Hs) (hz : xs.length < sizeLine) (hD : H1 D = none) (hs : ∀ ys, Hs (upd H1 D (.lst ys)))
    (ht : ∀ x ∈ xs, ∀ ys (R : Bool → Hp → Prop), R (c x) (upd H1 D (.lst ys)) → tt (some x :: p) (upd H1 D (.lst ys)) R)
    (he : ∀ x ∈ xs, c x = true → ∀ ys (R : V → Hp → Prop), R (f x) (upd H1 D (.lst ys)) → te (some x :: p) (upd H1 D (.lst ys)) R)
    (q : Q (.ref D) (upd H1 D (.lst ((xs.filter c).map f)))) : CompW J D p tt te Q H1 := by
  refine ⟨fun i m ys H => m = xs.length - i ∧ i ≤ xs.length ∧ ys = ((xs.take i).filter c).map f ∧ H = upd H1 D (.lst ys), ⟨xs.length, by simp, Nat.zero_le _, rfl, rfl⟩, ?_⟩
  rintro i m ys H ⟨rfl, hi, hys, rfl⟩
  refine ⟨upd_same, ?_⟩
  by_cases hlt : i < xs.length
  · refine .inr ⟨P.go i _ hlt (hs ys), fun x H' y => ?_⟩
    obtain ⟨rfl, hx⟩ := P.yld i _ x H' hlt (hs ys) y
    have hm : x ∈ xs := List.mem_of_getElem? hx
    have tk : xs.take (i + 1) = xs.take i ++ [x] := by rw [List.take_succ, hx]; rfl
    have ylen : ys.length ≤ i := by
      rw [hys, List.length_map]
      exact Nat.le_trans (List.length_filter_le _ _) (by rw [List.length_take]; exact Nat.min_le_left _ _)
    refine ht x hm ys _ ?_
    cases hc : c x with
    | false =>
      refine iteF ⟨xs.length - (i + 1), by omega, rfl, hlt, ?_, rfl⟩
      rw [tk, List.filter_append, hys]
      simp [hc]
    | true =>
      refine iteT (he x hm hc ys _ ⟨upd_same, by omega, xs.length - (i + 1), by omega, rfl, hlt, ?_, by rw [upd_upd]⟩)
      rw [tk, List.filter_append, hys]
      simp [hc]
  · have e : i = xs.length := by omega
    subst e
    refine .inl ⟨P.stop _ (hs ys), ?_⟩
    rw [List.take_length] at hys
    rw [hys]
    exact q
/-! ### slices with a step -/
section
variable {X : Cx} {e : Expr} {te : TE} {lo hi : Option Expr} {tlo thi : TO} {st : Expr} {ts : TE} {pos p2 : Pos}
end
end L2
set_option Elab.async false
set_option linter.all false
set_option maxRecDepth 100000
namespace L2
open PySem PyProof.Rows
/-! ### a, b, .. = a list -/
section
variable {prog : Program} {w : World} {A : Around} {E : Value → Shared → Prop}
variable {s : Shared}
end
section
variable {X : Cx} {pos : Pos}
end
end L2
set_option Elab.async false
set_option linter.all false
set_option maxRecDepth 100000
namespace L2
open PySem
/-! ### slices by their ends; figures -/
theorem cut_to {xs : List V} {k : Int} (hk : 0 ≤ k) : cutV xs none (some k) = xs.take k.toNat := by
  obtain ⟨n, rfl⟩ : ∃ n : Nat, k = (n : Int) := ⟨k.toNat, by omega⟩
  unfold cutV
  rw [HT.sIx_none, HT.sIx_nat, List.drop_zero, Int.toNat_natCast, Nat.sub_zero]
  rcases Nat.le_total n xs.length with h | h
  · rw [Nat.min_eq_left h]
  · rw [Nat.min_eq_right h, List.take_length, List.take_of_length_le h]
theorem cut_from {xs : List V} {k : Int} (hk : 0 ≤ k) : cutV xs (some k) none = xs.drop k.toNat := by
  obtain ⟨n, rfl⟩ : ∃ n : Nat, k = (n : Int) := ⟨k.toNat, by omega⟩
  unfold cutV
  rw [HT.sIx_none, HT.sIx_nat, Int.toNat_natCast]
  rcases Nat.le_total n xs.length with h | h
  · rw [Nat.min_eq_left h, List.take_of_length_le (by rw [List.length_drop]; omega)]
  · rw [Nat.min_eq_right h, Nat.sub_self, List.take_zero, List.drop_of_length_le h]
theorem cut_both {xs : List V} {i j : Int} (hi : 0 ≤ i) (hj : 0 ≤ j) : cutV xs (some i) (some j) = (xs.take j.toNat).drop i.toNat := by
  obtain ⟨n, rfl⟩ : ∃ n : Nat, i = (n : Int) := ⟨i.toNat, by omega⟩
  obtain ⟨m, rfl⟩ : ∃ n : Nat, j = (n : Int) := ⟨j.toNat, by omega⟩
  unfold cutV
  rw [HT.sIx_nat, HT.sIx_nat, Int.toNat_natCast, Int.toNat_natCast, List.drop_take]
  rcases Nat.le_total n xs.length with h | h
  · rw [Nat.min_eq_left h]
    rcases Nat.le_total m xs.length with h2 | h2
    · rw [Nat.min_eq_left h2]
    · rw [Nat.min_eq_right h2, List.take_of_length_le (by rw [List.length_drop] <;> omega), List.take_of_length_le (by rw [List.length_drop]; omega)]
  · rw [Nat.min_eq_right h, List.drop_of_length_le (Nat.le_refl _), List.drop_of_length_le h, List.take_nil, List.take_nil]
theorem map_take {ns : List Int} {k : Nat} : (ns.map V.int).take k = (ns.take k).map V.int := (List.map_take ..).symm
theorem map_drop {ns : List Int} {k : Nat} : (ns.map V.int).drop k = (ns.drop k).map V.int := (List.map_drop ..).symm
theorem at_head {x : V} {xs : List V} : atI (x :: xs) 0 = some x := atI_nat (j := 0) rfl
theorem ix_nat {n k : Nat} (h : k < n) : ixN n (k : Int) = some k := by
  unfold ixN
  rw [if_pos (by omega), if_pos (by omega), Int.toNat_natCast]
theorem filter_all (xs : List V) : (xs.filter fun _ => true) = xs := List.filter_eq_self.mpr fun _ _ => rfl
/-- all of them figures -/
def Figs (p : Int) (fs : List Int) : Prop := ∀ f ∈ fs, 0 ≤ f ∧ f < p
theorem Figs.mods {p : Int} (hp : 2 ≤ p) (ns : List Int) : Figs p (ns.map (· % p)) := fun f hf => by
  obtain ⟨n, _, rfl⟩ := List.mem_map.mp hf
  exact ⟨Int.emod_nonneg _ (by omega), Int.emod_lt_of_pos _ (by omega)⟩
/-! ### primes -/
def primesL : List Int := [2, 3, 5, 7, 11, 13, 17, 19, 23, 29, 31, 37, 41, 43, 47, 53, 59, 61, 67, 71, 73, 79, 83, 89, 97]
def Pr (p : Int) : Prop := p ∈ primesL
instance (p : Int) : Decidable (Pr p) := inferInstanceAs (Decidable (p ∈ primesL))
theorem Pr.two {p : Int} (h : Pr p) : 2 ≤ p := by
  have : ∀ q ∈ primesL, (2 : Int) ≤ q := by decide
  exact this p h
theorem Pr.most {p : Int} (h : Pr p) : p ≤ 97 := by
  have : ∀ q ∈ primesL, q ≤ (97 : Int) := by decide
  exact this p h
theorem primes_at : ∀ v ∈ primesL.map V.int, ∃ p : Int, v = .int p ∧ Pr p := fun v hv => by
  obtain ⟨p, h, rfl⟩ := List.mem_map.mp hv
  exact ⟨p, rfl, h⟩
theorem inV_primes (p : Int) : inV (.int p) (primesL.map V.int) = decide (Pr p) := by
  unfold inV
  rw [List.any_map, Bool.eq_iff_iff, List.any_eq_true, decide_eq_true_iff]
  constructor
  · rintro ⟨x, hx, e⟩
    have : x = p := beq_iff_eq.mp e
    rw [← this]
    exact hx
  · intro h
    exact ⟨p, h, beq_self_eq_true p⟩
/-! ### what is a left number -/
def isFig (p : Int) : V → Bool
  | .int f => decide (0 ≤ f) && decide (f < p)
  | _ => false
/-- (x, y, zs): whether this is a left number -/
def leftB (x y : V) (zs : List V) : Bool := match x, y with
  | .int p, .int _ => decide (Pr p) && zs.all (isFig p) && !decide (zs.head? = some (.int 0))
  | _, _ => false
inductive LeftT (K : PySem.W.Frag) (H : Hp) : V → Bool → Prop where
  | no {v : V} {t : String} {i b : Bool} (k : Kind t i b false) (ty : TyOf K H v (.type t)) : LeftT K H v false
  | len {a : Addr} {xs : List V} (h : H a = some (.tup xs)) (n : xs.length ≠ 3) : LeftT K H (.ref a) false
  | part {a : Addr} {x y z : V} (h : H a = some (.tup [x, y, z])) (tx : Thing K H x) (ty : Thing K H y) {t : String} {i b : Bool} (k : Kind t i b false) (tz : TyOf K H z (.type t)) : LeftT K H (.ref a) false
  | full {a c : Addr} {x y : V} {zs : List V} (h : H a = some (.tup [x, y, .ref c])) (tx : Thing K H x) (ty : Thing K H y) (hc : H c = some (.tup zs)) (tz : ∀ z ∈ zs, Thing K H z) (n : zs.length ≤ 3000) {b : Bool} (e : b = leftB x y zs) : LeftT K H (.ref a) b
theorem ints_things {K : PySem.W.Frag} {H : Hp} (fs : List Int) : ∀ z ∈ fs.map V.int, Thing K H z := fun z hz => by
  obtain ⟨f, _, rfl⟩ := List.mem_map.mp hz
  exact Thing.int f
def spIsLeft (K : PySem.W.Frag) : Sp := fun vs H Q _ => ∃ (v : V) (b : Bool), vs = [v] ∧ LeftT K H v b ∧ ∀ H' : Hp, Same H H' → Q (.bl b) H'
/-! ### promises about the drawing of input -/
def spPlaceC : Sp := fun vs H Q _ => ∃ c : Int, vs = [.int c] ∧ ∀ n : Int, -100000000000000000000000000000 ≤ n → n ≤ 100000000000000000000000000000 → Q (.int n) H
end L2
set_option Elab.async false
set_option linter.all false
set_option maxRecDepth 100000
namespace L2
open PySem
theorem same_upd {H1 H2 : Hp} {b : Addr} {o : HO} (kb : H1 b = none) (g : Same H1 H2) : Same H1 (upd H2 b o) := fun x u e => by
  rw [upd_ne (ne_of_none e kb)]
  exact g x u e
/-! ### numbers by their figures -/
/-- the sum of the figures -/
def un (p : Int) : List Int → Int
  | [] => 0
  | f :: fs => un p fs * p + f
theorem for_revN {K : PySem.W.Frag} {a : Addr} {xs : List V} {g : TG} {tb : TS} {nx : St → Hp → Prop} {rt : VK} {σ : St} {H : Hp} (Pv : Nat → St → Hp → Prop) (h0 : Pv 0 σ H) (hl : ∀ i σ H, i ≤ xs.length → Pv i σ H → SqL K H a xs)
    (hs : ∀ i x σ H, xs[xs.length - 1 - i]? = some x → i < xs.length → Pv i σ H → g x σ H fun σ2 H2 => tb { nx := Pv (i + 1), rt := rt, bk := nx, ct := Pv (i + 1) } σ2 H2) (hd : ∀ σ H, Pv xs.length σ H → nx σ H) :
    ∃ W : Nat → Nat → St → Hp → Prop, (∃ m, W 0 m σ H) ∧ ∀ i m σ H, W i m σ H →
      ((Itv K a xs).stop i H ∧ nx σ H) ∨ ((Itv K a xs).go i H ∧ ∃ N : St → Hp → Prop, (∀ σ' H', N σ' H' → ∃ m', m' < m ∧ W (i + 1) m' σ' H') ∧ ∀ x H', (Itv K a xs).yld i H x H' → g x σ H' fun σ2 H2 => tb { nx := N, rt := rt, bk := nx, ct := N } σ2 H2) :=
  for_rev (D := { nx := nx, rt := rt }) Pv h0 hl hs hd
/-! ### the promises about left numbers -/
def isPr : V → Bool
  | .int p => decide (Pr p)
  | _ => false
end L2
set_option Elab.async false
set_option linter.all false
set_option maxRecDepth 100000
namespace L2
open PySem
/-! ### figures at places -/
def endL (l : Int) (fs : List Int) : Int := l + (fs.length : Int)
/-- the figure at a place below the end -/
def figN (l : Int) (fs : List Int) (n : Int) : Int := if n < l then 0 else fs.getD (n - l).toNat 0
/-- where they part -/
inductive IsPart (l : Int) (fs : List Int) (l' : Int) (fs' : List Int) : Option Int → Prop where
  | none (h : ∀ n, n < endL l fs → n < endL l' fs' → figN l fs n = figN l' fs' n) : IsPart l fs l' fs' none
  | some {x : Int} (h1 : x < endL l fs) (h2 : x < endL l' fs') (ne : figN l fs x ≠ figN l' fs' x) (h : ∀ n, n < x → figN l fs n = figN l' fs' n) : IsPart l fs l' fs' (some x)
/-! ### cut -/
/-! ### promises -/
end L2
set_option Elab.async false
set_option linter.all false
set_option maxRecDepth 100000
namespace L2
open PySem PySem.W PyProof.Rows
/-! ### the cells of a script are layable: each has at most 2 ** 20 bits -/
end L2
namespace Att
open PySem PySem.W PySem.Calls PyProof.Rows
end Att
namespace L2
open PySem PySem.Spec PyProof.Rows
end L2
namespace L2
open PySem PySem.Spec PyProof.Rows
section
variable {X : Cx}
end
end L2
set_option Elab.async false
set_option linter.all false
set_option maxRecDepth 100000
namespace L2
namespace RT
open PySem PyProof.Rows
theorem owner_rv : Manifest.owners.lookup (String.ofList ['d', 'e', 's', 'r', 'e', 'v', 'e', 'r'].reverse) = some Manifest.sig_reversed := by kernel_rfl
theorem slot_next : Slot "reversed" "__next__" "reversed.__next__" :=
  .of (owner := "reversed") (n := "__next__") (by rw [typeLookup_type, builtinLookup_eq_fast]; kernel_rfl) (by decide +kernel) (by decide +kernel) (by decide +kernel)
    (by first | exact .inl (by decide +kernel) | exact .inr (by decide +kernel)) (by rw [isSubtype_type]; kernel_rfl)
theorem entry_next : entryFor table "reversed.__next__" = some Builtin.«reversed.__next__» := entryFor_of_tree (by kernel_rfl)
theorem args_next (a : Value) : argsOk "reversed.__next__" ⟨[a], []⟩ := by
  unfold argsOk; rw [signature?_of (id := "reversed.__next__") (n := ['_', '_', 't', 'x', 'e', 'n', '_', '_']) (o := ['d', 'e', 's', 'r', 'e', 'v', 'e', 'r']) (by kernel_rfl) owner_rv]; kernel_rfl
theorem slot_iter : Slot "reversed" "__iter__" "reversed.__iter__" :=
  .of (owner := "reversed") (n := "__iter__") (by rw [typeLookup_type, builtinLookup_eq_fast]; kernel_rfl) (by decide +kernel) (by decide +kernel) (by decide +kernel)
    (by first | exact .inl (by decide +kernel) | exact .inr (by decide +kernel)) (by rw [isSubtype_type]; kernel_rfl)
theorem args_iter (a : Value) : argsOk "reversed.__iter__" ⟨[a], []⟩ := by
  unfold argsOk; rw [signature?_of (id := "reversed.__iter__") (n := ['_', '_', 'r', 'e', 't', 'i', '_', '_']) (o := ['d', 'e', 's', 'r', 'e', 'v', 'e', 'r']) (by kernel_rfl) owner_rv]; kernel_rfl
theorem entry_iter : entryFor table "reversed.__iter__" = some Builtin.«dict_keyiterator.__iter__» :=
  entryFor_alias (id' := "dict_keyiterator.__iter__") (by kernel_rfl) (by first | rfl | decide +kernel | (unfold String.splitOn; simp +decide [String.splitOnAux])) (by decide +kernel) (by kernel_rfl)
def obj (t : Addr) (i : Int) : Obj := { cls := .type "reversed", data := .fields #[.ref t, rawInt i] }
section
variable {prog : Program} {w : World} {A : Around} {E : Value → Shared → Prop} {s : Shared}
end
end RT
open PySem PySem.Spec PyProof.Rows
section
variable {X : Cx} {tg : Expr}
end
end L2
set_option Elab.async false
set_option linter.all false
set_option maxRecDepth 100000
namespace L2
open PySem
/-! ### sums -/
end L2
set_option Elab.async false
set_option linter.all false
set_option maxRecDepth 100000
namespace L2
open PySem
/-! ### longer ones -/
end L2
set_option Elab.async false
set_option linter.all false
set_option maxRecDepth 100000
namespace HT
open PySem PyProof.Rows
open PySem.SeqAt
open PySem.AutoSeq1 (wpAny_loadPart')
open PySem.MeetsSeq PySem.MeetsSeq2 PySem.MeetsSeq3
section
variable {prog : Program} {w : World} {A : Around} {E : Value → Shared → Prop} {s : Shared}
end
end HT
namespace L2
open PySem PySem.Spec PyProof.Rows
section
variable {X : Cx}
end
end L2
set_option Elab.async false
set_option linter.all false
set_option maxRecDepth 100000
namespace L2
open PySem PySem.W PySem.Spec PyProof.Rows
/-! ### try, its body calls under tests -/
section
variable {X : Cx} {i : Nat} {C Dc : Addr} {y n : Str} {pos hpos np : Pos} {b0 : Stmt} {suite : List Stmt} {ts : Addr → TS}
end
end L2
set_option Elab.async false
set_option linter.all false
set_option maxRecDepth 100000
/-! A LIST OR A TUPLE: isinstance(x, (list, tuple)), a walk, a slice. -/
namespace L2
open PySem PySem.Spec PyProof.Rows
section
variable {X : Cx}
/-- a walk over a list or a tuple -/
def iSeq (K : PySem.W.Frag) (tl : TE) : TI := fun σ H R => iList K tl σ H R ∨ iTup K tl σ H R
theorem qpi_seq {tg l : Expr} {tl : TE} (hl : QE X l tl) : QI X tg l (iSeq X.K tl) := ⟨fun pins s σ H R I h => h.elim (pi_list hl.ok pins s σ H R I) (pi_tup hl.ok pins s σ H R I)⟩
theorem small3001 {n : Nat} (h : n ≤ 3001) : n < sizeLine := Nat.lt_of_le_of_lt h (by decide)
end
end L2
set_option Elab.async false
set_option linter.all false
set_option maxRecDepth 100000
/-! ZIP OF TWO LISTS OR TUPLES, and enumerate of it: the steps. -/
namespace ZP
open PySem PySem.Builtin PyProof.Rows
section
variable {prog : Program} {w : World} {A : Around} {E : Value → Shared → Prop} {s : Shared}
def nm (tu : Bool) : String := if tu = true then "tuple_iterator" else "list_iterator"
/-! ### zip -/
/-! ### zip is made -/
end
end ZP
set_option Elab.async false
set_option linter.all false
set_option maxRecDepth 100000
/-! FOR OVER zip(a, b) and enumerate(zip(a, b)) -/
namespace ZP
open PySem PySem.Builtin PyProof.Rows
section
variable {prog : Program} {w : World} {A : Around} {E : Value → Shared → Prop} {s : Shared}
end
end ZP
namespace L2
open PySem PySem.Spec PyProof.Rows
section
variable {X : Cx} {pins : List (Addr × Obj)} {σ : St} {H : Hp} {s : Shared} {h' : Heap}
end
section
variable {X : Cx}
end
end L2
set_option Elab.async false
set_option linter.all false
set_option maxRecDepth 100000
namespace ZP
open PySem PySem.Builtin PyProof.Rows
section
variable {prog : Program} {w : World} {A : Around} {E : Value → Shared → Prop} {s : Shared}
end
end ZP
namespace L2
open PySem PySem.Spec PyProof.Rows
section
variable {X : Cx}
end
end L2
set_option Elab.async false
set_option linter.all false
set_option maxRecDepth 100000
namespace L2
open PySem PySem.Spec PyProof.Rows
/-! ### loops over zip, enumerate(zip) -/
/-! ### tuples put together -/
section
variable {X : Cx}
end
/-! ### where two part -/
/-! ### sums by figures -/
/-! ### opposites -/
end L2
set_option Elab.async false
set_option linter.all false
set_option maxRecDepth 100000
namespace L2
open PySem
/-! ### the doubt of a sum -/
end L2
set_option Elab.async false
set_option linter.all false
set_option maxRecDepth 100000
namespace L2
/-! ### primes divide a product only where they divide a factor -/
end L2
set_option Elab.async false
set_option linter.all false
set_option maxRecDepth 100000
/-! RANGES OF GREAT NUMBERS: a walk, and a list of them. -/
namespace L2
namespace LR
open PySem PyProof.Rows
set_option maxRecDepth 100000
theorem owner_lr : Manifest.owners.lookup (String.ofList ['r', 'o', 't', 'a', 'r', 'e', 't', 'i', '_', 'e', 'g', 'n', 'a', 'r', 'g', 'n', 'o', 'l'].reverse) = some Manifest.sig_longrange_iterator := by kernel_rfl
theorem slot_next : Slot "longrange_iterator" "__next__" "longrange_iterator.__next__" :=
  .of (owner := "longrange_iterator") (n := "__next__") (by rw [typeLookup_type, builtinLookup_eq_fast]; kernel_rfl) (by decide +kernel) (by decide +kernel) (by decide +kernel)
    (by first | exact .inl (by decide +kernel) | exact .inr (by decide +kernel)) (by rw [isSubtype_type]; kernel_rfl)
theorem entry_next : entryFor table "longrange_iterator.__next__" = some Builtin.«longrange_iterator.__next__» := entryFor_of_tree (by kernel_rfl)
theorem args_next (a : Value) : argsOk "longrange_iterator.__next__" ⟨[a], []⟩ := by
  unfold argsOk; rw [signature?_of (id := "longrange_iterator.__next__") (n := ['_', '_', 't', 'x', 'e', 'n', '_', '_']) (o := ['r', 'o', 't', 'a', 'r', 'e', 't', 'i', '_', 'e', 'g', 'n', 'a', 'r', 'g', 'n', 'o', 'l']) (by kernel_rfl) owner_lr]; kernel_rfl
theorem slot_iter : Slot "longrange_iterator" "__iter__" "longrange_iterator.__iter__" :=
  .of (owner := "longrange_iterator") (n := "__iter__") (by rw [typeLookup_type, builtinLookup_eq_fast]; kernel_rfl) (by decide +kernel) (by decide +kernel) (by decide +kernel)
    (by first | exact .inl (by decide +kernel) | exact .inr (by decide +kernel)) (by rw [isSubtype_type]; kernel_rfl)
theorem args_iter (a : Value) : argsOk "longrange_iterator.__iter__" ⟨[a], []⟩ := by
  unfold argsOk; rw [signature?_of (id := "longrange_iterator.__iter__") (n := ['_', '_', 'r', 'e', 't', 'i', '_', '_']) (o := ['r', 'o', 't', 'a', 'r', 'e', 't', 'i', '_', 'e', 'g', 'n', 'a', 'r', 'g', 'n', 'o', 'l']) (by kernel_rfl) owner_lr]; kernel_rfl
theorem entry_iter : entryFor table "longrange_iterator.__iter__" = some Builtin.«dict_keyiterator.__iter__» :=
  entryFor_alias (id' := "dict_keyiterator.__iter__") (by kernel_rfl) (by first | rfl | decide +kernel | (unfold String.splitOn; simp +decide [String.splitOnAux])) (by decide +kernel) (by kernel_rfl)
/-- an iterator over a range, a short or a long one -/
abbrev rn (lg : Bool) : String := if lg = true then "longrange_iterator" else "range_iterator"
def IsR (lg : Bool) (h : Heap) (it : Addr) (x left : Int) : Prop := h.get? it = some { cls := .type (rn lg), dict := none, data := .fields #[rawInt x, rawInt left, rawInt 1], slots := #[] }
section
variable {prog : Program} {w : World} {A : Around} {E : Value → Shared → Prop} {s : Shared}
theorem int_field {M : Model} {it : Addr} {x left step y : Int} {k : Nat} {id : String} {Q : Int → Shared → Prop} (hit : s.heap.get? it = some { cls := .type "longrange_iterator", dict := none, data := .fields #[rawInt x, rawInt left, rawInt step], slots := #[] })
    (hk : (#[rawInt x, rawInt left, rawInt step] : Array Value)[k]? = some (rawInt y)) (h : Q y s) : wpAny M A (Builtin.Iterators_pickling.intField id (.ref it) k) Q E s := by
  unfold Builtin.Iterators_pickling.intField
  refine wpAny_bind (wpAny_field hit rfl (x := rawInt y) hk ?_)
  exact wpAny_pure h
theorem next_long {it : Addr} {x left step : Int} {Q : Option Value → Shared → Prop} (hit : s.heap.get? it = some { cls := .type "longrange_iterator", dict := none, data := .fields #[rawInt x, rawInt left, rawInt step], slots := #[] }) (hleft : 0 < left)
    (hQ : ∀ h', h'.get? it = some { cls := .type "longrange_iterator", dict := none, data := .fields #[rawInt (x + step), rawInt (left - 1), rawInt step], slots := #[] } → Heap.SameBut it s.heap h' → Q (some (.int x s.toks)) { s with heap := h', toks := s.toks + 1 }) :
    wpAny (model prog w) A (pyNext (.ref it)) Q E s := by
  have hT : s.TypeIs (.ref it) "longrange_iterator" := ⟨_, hit, rfl⟩
  unfold pyNext
  refine wpAny_bind (wpAny_attempt (wpAny_callSpecial?_slot (name := Str.ofString "__next__") hT slot_next (wpAny_call_entry slot_next hT entry_next ?_ (args_next _))))
  unfold Builtin.«longrange_iterator.__next__»
  refine wpAny_bind (wpAny_of_eq (a := #[some (Value.ref it)]) (by first | rfl | kernel_rfl) ?_)
  show wpAny _ _ (Builtin.Iterators_pickling.intField _ (.ref it) 0 >>= _) _ _ _
  refine wpAny_bind (int_field hit (y := x) rfl ?_)
  refine wpAny_bind (int_field hit (y := left) rfl ?_)
  refine wpAny_bind (int_field hit (y := step) rfl ?_)
  dsimp only
  rw [if_neg (by omega)]
  refine wpAny_bind (wpAny_setField_rec hit (by simp) fun h₁ h1 s1 => ?_)
  replace h1 : h₁.get? it = some { cls := .type "longrange_iterator", dict := none, data := .fields #[rawInt (x + step), rawInt left, rawInt step], slots := #[] } := h1
  refine wpAny_bind (wpAny_setField_rec h1 (by simp) fun h₂ h2 s2 => ?_)
  replace h2 : h₂.get? it = some { cls := .type "longrange_iterator", dict := none, data := .fields #[rawInt (x + step), rawInt (left - 1), rawInt step], slots := #[] } := h2
  unfold retInt
  refine wpAny_bind (wpAny_mkInt ?_)
  exact wpAny_pure ⟨_, rfl, wpAny_pure (hQ h₂ h2 (s1.trans s2))⟩
theorem end_long {it : Addr} {x left step : Int} {Q : Option Value → Shared → Prop} (hh : A.handled = none) (hit : s.heap.get? it = some { cls := .type "longrange_iterator", dict := none, data := .fields #[rawInt x, rawInt left, rawInt step], slots := #[] }) (hleft : left ≤ 0)
    (hQ : ∀ h', Heap.ExtBut it s.heap h' → Q none { s with heap := h' }) : wpAny (model prog w) A (pyNext (.ref it)) Q E s := by
  have hT : s.TypeIs (.ref it) "longrange_iterator" := ⟨_, hit, rfl⟩
  unfold pyNext
  refine wpAny_bind (wpAny_attempt (wpAny_callSpecial?_slot (name := Str.ofString "__next__") hT slot_next (wpAny_call_entry slot_next hT entry_next ?_ (args_next _))))
  unfold Builtin.«longrange_iterator.__next__»
  refine wpAny_bind (wpAny_of_eq (a := #[some (Value.ref it)]) (by first | rfl | kernel_rfl) ?_)
  show wpAny _ _ (Builtin.Iterators_pickling.intField _ (.ref it) 0 >>= _) _ _ _
  refine wpAny_bind (int_field hit (y := x) rfl ?_)
  refine wpAny_bind (int_field hit (y := left) rfl ?_)
  refine wpAny_bind (int_field hit (y := step) rfl ?_)
  dsimp only
  rw [if_pos hleft]
  refine wpAny_bind (wpAny_rule ?_)
  show wpAny _ _ (newExc (.type "StopIteration") [] >>= _) _ _ _
  refine wpAny_bind ?_
  simp only [newExc, newTuple]
  refine wpAny_bind (wpAny_newObj_type ?_ (by size_fits))
  refine wpAny_bind (m := firstArgMember _ _) (wpAny_of_eq (a := Value.none) (by first | rfl | (simp only [firstArgMember]; rfl)) ?_)
  refine wpAny_newObj_type ?_ (by size_fits)
  simp only [raiseNew]
  refine wpAny_bind ?_
  refine wpAny_bind (wpAny_handled ?_)
  first | rw [show A.in1.handled = none from hh] | rw [hh]
  refine wpAny_bind (wpAny_pure (wpAny_throw ?_))
  refine wpAny_bind (wpAny_isInstance (T := "StopIteration") (b := true) ⟨_, Heap.get?_push_size _ rfl, rfl⟩ isSubtype_stop ?_)
  exact wpAny_pure (hQ _ (((Heap.SameBut.refl ..).extBut.push _).push _))
theorem next_any {lg : Bool} {it : Addr} {x left : Int} {Q : Option Value → Shared → Prop} (hit : IsR lg s.heap it x left) (hleft : 0 < left)
    (hQ : ∀ h', IsR lg h' it (x + 1) (left - 1) → Heap.SameBut it s.heap h' → Q (some (.int x s.toks)) { s with heap := h', toks := s.toks + 1 }) : wpAny (model prog w) A (pyNext (.ref it)) Q E s := by
  cases lg with
  | false => exact wpAny_pyNext_range_item hit hleft hQ
  | true => exact next_long hit hleft hQ
theorem end_any {lg : Bool} {it : Addr} {x left : Int} {Q : Option Value → Shared → Prop} (hh : A.handled = none) (hit : IsR lg s.heap it x left) (hleft : left ≤ 0)
    (hQ : ∀ h', Heap.ExtBut it s.heap h' → Q none { s with heap := h' }) : wpAny (model prog w) A (pyNext (.ref it)) Q E s := by
  cases lg with
  | false => exact wpAny_pyNext_range_end hh hit hleft hQ
  | true => exact end_long hh hit hleft hQ
theorem self_any {lg : Bool} {it : Addr} {x left : Int} {Q : Value → Shared → Prop} (hit : IsR lg s.heap it x left) (h : Q (.ref it) s) : wpAny (model prog w) A (pyIter (.ref it)) Q E s := by
  cases lg with
  | false => exact wpAny_pyIter_rangeiter hit h
  | true =>
    have hT : s.TypeIs (.ref it) "longrange_iterator" := ⟨_, hit, rfl⟩
    refine wpAny_pyIter_slot hT slot_iter (wpAny_call_entry slot_iter hT entry_iter ?_ (args_iter _))
    show wpAny _ _ (ret (.ref it)) _ _ s
    exact wpAny_pure ⟨_, rfl, "longrange_iterator", _, hT, slot_next.lookup, h⟩
end
end LR
open PySem PySem.Spec PyProof.Rows
section
variable {X : Cx} {tg : Expr}
/-! ### list(range(a, b)) -/
namespace LR
theorem walks (lg : Bool) {prog : Program} {w : World} {A : Around} (hh : A.handled = none) (I : Addr) (a : Int) (n : Nat) :
    Walks prog w A I [I] [I] n (fun i v => ∃ t, v = .int (a + (i : Int)) t) (fun i h => IsR lg h I (a + (i : Int)) ((n : Int) - (i : Int))) where
  sub := fun _ hb => hb
  frame := fun _ _ _ st hk => hk I (by simp) _ st
  item := fun i s Q E hi st hQ => by
    refine next_any st (by omega) fun h' hit' hs' => ?_
    refine hQ _ h' _ ⟨_, rfl⟩ ?_ fun b o hb e => hs'.extBut b o (fun h => hb (by simp [h])) e
    have e1 : a + ((i + 1 : Nat) : Int) = a + (i : Int) + 1 := by omega
    have e2 : (n : Int) - ((i + 1 : Nat) : Int) = (n : Int) - (i : Int) - 1 := by omega
    rw [e1, e2]
    exact hit'
  done := fun s Q E st hQ => end_any hh st (by omega) fun h' he' => hQ h' s.toks fun b o hb e => he' b o (fun h => hb (by simp [h])) e
  self := fun _ _ _ _ st hQ => self_any st hQ
section
variable {prog : Program} {w : World} {A : Around} {E : Value → Shared → Prop} {s : Shared}
end
end LR
end
end L2
set_option Elab.async false
set_option linter.all false
set_option maxRecDepth 100000
namespace L2
open PySem
/-! ### what a left number amounts to -/
/-! ### near, by division -/
/-! ### figures and multiples -/
end L2
namespace L2
end L2
set_option Elab.async false
set_option linter.all false
set_option maxRecDepth 100000
namespace L2
open PySem
/-! ### the worth of a left number, over a great power of the prime -/
def vl (p l : Int) (fs : List Int) : Int := un p fs * p ^ (l + 200).toNat
/-! ### congruences -/
/-! ### what begins_fraction and alike tell -/
end L2
set_option Elab.async false
set_option linter.all false
set_option maxRecDepth 100000
namespace L2
open PySem PySem.Spec PyProof.Rows
/-! ### the signs of a text, walked -/
def Its (x : Str) : It := ⟨fun i _ => i < x.cps.size, fun i H v H' => H' = H ∧ ∃ c, x.cps[i]? = some c ∧ v = .str ⟨#[c]⟩, fun i _ => x.cps.size ≤ i⟩
theorem turn_ascii {P : Program} {w : World} {K : PySem.W.Frag} {tg : Expr} (it : Addr) (x : Str) (t : Tok) : Turn P w K tg (Its x) [it] it (fun i h => h.IsStrIter it "str_ascii_iterator" x t i) where
  mem := by simp
  obj := fun i h st b hb => by
    have e : b = it := by simpa using hb
    subst e
    obtain ⟨o, e, c, d⟩ := st
    exact ⟨o, e, fun v z => by rw [d] at z; cases z⟩
  keep := fun i h h' st k => let ⟨o, ho, r⟩ := st; ⟨o, k it (by simp) o ho, r⟩
  item := by
    intro X hP hw hK hc i pins s σ H E I hf st hg
    subst hP hw hK
    have hi : i < x.cps.size := hg
    obtain ⟨f0, f1, f2, f3, f4, f5⟩ := hf it (by simp)
    refine wpAny_pyNext_ascii_item st (c := x.cps[i]) (by simp [hi]) fun h' st' sb => ?_
    have I1 : Inv X pins σ H { s with heap := h', toks := s.toks + 1 } := I.turned (t' := s.toks + 1) (fun b o hb e => (sb.2 b hb).trans e) f0 f1 f3 f4 f5
    obtain ⟨o, e, c, d⟩ := id st'
    exact ⟨_, rfl, go_of (s := { s with heap := h', toks := s.toks + 1 }) e c d (by decide) ⟨.str ⟨#[x.cps[i]]⟩, H, I1, ⟨_, rfl⟩, ⟨rfl, _, by simp [hi], rfl⟩, st', fun b hb => (hf b hb).1⟩⟩
  done := by
    intro X hP hw hK hc i pins s σ H E I hf st hg
    subst hP hw hK
    have hi : x.cps.size ≤ i := hg
    obtain ⟨f0, f1, f2, f3, f4, f5⟩ := hf it (by simp)
    exact wpAny_pyNext_ascii_end (I.ok.hd hc) st (by simp; omega) fun h' eb => ⟨rfl, I.turned (t' := s.toks) (fun b o hb e => eb b o hb e) f0 f1 f3 f4 f5⟩
  self := fun _ _ _ _ _ st h => wpAny_pyIter_striter_ascii st h
theorem turn_wide {P : Program} {w : World} {K : PySem.W.Frag} {tg : Expr} (it : Addr) (x : Str) (t : Tok) : Turn P w K tg (Its x) [it] it (fun i h => h.IsStrIter it "str_iterator" x t i) where
  mem := by simp
  obj := fun i h st b hb => by
    have e : b = it := by simpa using hb
    subst e
    obtain ⟨o, e, c, d⟩ := st
    exact ⟨o, e, fun v z => by rw [d] at z; cases z⟩
  keep := fun i h h' st k => let ⟨o, ho, r⟩ := st; ⟨o, k it (by simp) o ho, r⟩
  item := by
    intro X hP hw hK hc i pins s σ H E I hf st hg
    subst hP hw hK
    have hi : i < x.cps.size := hg
    obtain ⟨f0, f1, f2, f3, f4, f5⟩ := hf it (by simp)
    refine wpAny_pyNext_wide_item st (c := x.cps[i]) (by simp [hi]) fun h' st' sb => ?_
    have I1 : Inv X pins σ H { s with heap := h', toks := s.toks + 1 } := I.turned (t' := s.toks + 1) (fun b o hb e => (sb.2 b hb).trans e) f0 f1 f3 f4 f5
    obtain ⟨o, e, c, d⟩ := id st'
    exact ⟨_, rfl, go_of (s := { s with heap := h', toks := s.toks + 1 }) e c d (by decide) ⟨.str ⟨#[x.cps[i]]⟩, H, I1, ⟨_, rfl⟩, ⟨rfl, _, by simp [hi], rfl⟩, st', fun b hb => (hf b hb).1⟩⟩
  done := by
    intro X hP hw hK hc i pins s σ H E I hf st hg
    subst hP hw hK
    have hi : x.cps.size ≤ i := hg
    obtain ⟨f0, f1, f2, f3, f4, f5⟩ := hf it (by simp)
    exact wpAny_pyNext_wide_end (I.ok.hd hc) st (by simp; omega) fun h' eb => ⟨rfl, I.turned (t' := s.toks) (fun b o hb e => eb b o hb e) f0 f1 f3 f4 f5⟩
  self := fun _ _ _ _ _ st h => wpAny_pyIter_striter_wide st h
section
variable {X : Cx} {tg : Expr}
def iStr (te : TE) : TI := fun σ H R => te σ H fun v H1 => ∃ x, v = .str x ∧ R (Its x) H1
theorem pi_str {l : Expr} {tl : TE} (hl : PE X l tl) : PI X tg l (iStr tl) := by
  intro pins s σ H R I h
  refine thn (hl pins s σ H _ I h) fun v s1 ⟨x, H1, I1, r1, q1⟩ => ?_
  obtain ⟨z, e, q⟩ := q1
  subst e
  obtain ⟨t, rfl⟩ := r1
  have fp : ∀ b ∈ [s1.heap.objs.size], FpOk X pins H1 b := fun b hb => by
    have e : b = s1.heap.objs.size := by simpa using hb
    subst e
    exact I1.fpOk (Nat.le_refl _) (I1.hok.fresh (Nat.le_refl _))
  cases ha : z.cps.all (· < 128)
  · exact wpAny_pyIter_wide ha ⟨s1.heap.objs.size, [s1.heap.objs.size], _, _, H1, rfl, I1.kept (t' := s1.toks) fun b o e => Heap.get?_push_of_some _ e, turn_wide _ z t, ⟨_, Heap.get?_push_size _ rfl, rfl, rfl⟩, fp, q⟩
  · exact wpAny_pyIter_ascii ha ⟨s1.heap.objs.size, [s1.heap.objs.size], _, _, H1, rfl, I1.kept (t' := s1.toks) fun b o e => Heap.get?_push_of_some _ e, turn_ascii _ z t, ⟨_, Heap.get?_push_size _ rfl, rfl, rfl⟩, fp, q⟩
theorem qpi_str {l : Expr} {tl : TE} (hl : QE X l tl) : QI X tg l (iStr tl) := ⟨pi_str hl.ok⟩
end
theorem plain_str {x : Str} : Plain (Its x) (x.cps.toList.map fun c => V.str ⟨#[c]⟩) (fun _ => True) where
  stop := fun H _ => by show x.cps.size ≤ _; simp
  go := fun i H hi _ => by show i < x.cps.size; simpa using hi
  yld := fun i H v H' hi _ y => ⟨y.1, by
    obtain ⟨_, c, hc, rfl⟩ := y
    rw [List.getElem?_map, Array.getElem?_toList, hc]
    rfl⟩
section
variable {X : Cx}
/-! ### methods of a text -/
def rStarts : V → List V → Hp → VK → Prop := fun x xs H Q => ∃ z y, x = .str z ∧ xs = [.str y] ∧ Q (.bl (Txt.startswith z y)) H
theorem mt_starts : MtR X "str.startswith" rStarts := by
  intro pins s σ H x xs v us Q I rx rs h
  obtain ⟨z, y, rfl, rfl, q⟩ := h
  obtain ⟨u, rfl, t', rfl⟩ := vals1 rs
  obtain ⟨t, rfl⟩ := rx
  exact SC.startswith ⟨.bl _, H, I, rfl, q⟩
theorem vals_strs : ∀ {ws : List Str} {its : List Value}, Vals (ws.map V.str) its → ∃ l : List (Str × Tok), its = strValues l ∧ l.map (·.1) = ws
  | [], _, h => by
    cases h
    exact ⟨[], rfl, rfl⟩
  | w :: ws, _, h => by
    cases h with
    | cons r rr =>
      obtain ⟨t, rfl⟩ := r
      obtain ⟨l, rfl, rfl⟩ := vals_strs rr
      exact ⟨(w, t) :: l, rfl, rfl⟩
theorem strs_vals : ∀ {l : List (Str × Tok)}, Vals ((l.map (·.1)).map V.str) (strValues l)
  | [] => .nil
  | (w, t) :: l => .cons ⟨t, rfl⟩ (strs_vals (l := l))
def rJoin (K : PySem.W.Frag) : V → List V → Hp → VK → Prop := fun x xs H Q => ∃ z a ws, x = .str z ∧ xs = [.ref a] ∧ SqL K H a (ws.map V.str) ∧ JoinOk z ws = true ∧ Q (.str (Txt.join z ws)) H
theorem mt_join : MtR X "str.join" (rJoin X.K) := by
  intro pins s σ H x xs v us Q I rx rs h
  obtain ⟨z, a, ws, rfl, rfl, hq, ok, q⟩ := h
  obtain ⟨u, rfl, e⟩ := vals1 rs
  cases (show u = Value.ref a from e)
  obtain ⟨t, rfl⟩ := rx
  obtain ⟨its, r, pl, hz⟩ := I.list hq
  obtain ⟨l, rfl, rfl⟩ := vals_strs r
  exact SC.join pl.isList rfl ok fun t' k => ⟨.str _, H, I.tok _, ⟨_, rfl⟩, q⟩
theorem join_len {sep : Str} (hs : 1 ≤ sep.length) : ∀ ws : List Str, ws.length ≤ (Str.join sep ws).length + 1
  | [] => Nat.zero_le _
  | [x] => by show 1 ≤ _; omega
  | x :: y :: r => by
    have h := join_len hs (y :: r)
    show _ ≤ (x ++ sep ++ Str.join sep (y :: r)).length + 1
    rw [Str.length_append, Str.length_append]
    simp only [List.length_cons] at h ⊢
    omega
theorem split_len (x y : Str) (hy : 1 ≤ y.length) : (Txt.split x y).length ≤ x.length + 1 := by
  have h := join_len hy (Txt.split x y)
  rwa [StrLaws.join_split] at h
def rSplit : V → List V → Hp → VK → Prop := fun x xs H Q => ∃ z y, x = .str z ∧ xs = [.str y] ∧ 1 ≤ y.length ∧ z.length + 1 ≤ sizeLine ∧ ∀ p, H p = none → Q (.ref p) (upd H p (.lst ((Txt.split z y).map V.str)))
theorem split_wp {prog : Program} {w : World} {A : Around} {E : Value → Shared → Prop} {s : Shared} {x y : Str} {t u : Tok} {Q : Value → Shared → Prop} (hy : 1 ≤ y.length) (hz : x.length + 1 ≤ sizeLine)
    (hq : ∀ (l : List (Str × Tok)) (k : Nat), l.map (·.1) = Txt.split x y → Q (.ref s.heap.objs.size) { s with heap := s.heap.push { cls := .type "list", data := .seq (strValues l).toArray }, toks := k }) :
    wpAny (model prog w) A (call (.builtin "str.split") [.str x t, .str y u]) Q E s := by
  have hy0 : (y.length == 0) = false := by
    rw [beq_eq_false_iff_ne]
    omega
  have hl := split_len x y hy
  cases h1 : (decide (x.length < y.length) || decide (Builtin.Str.strKind x < Builtin.Str.strKind y))
  · cases hf : (Builtin.Str.occurrences x y 0 x.length (x.length + 1)).isEmpty
    · have es : Txt.split x y = Builtin.Str.partsBetween x (Builtin.Str.occurrences x y 0 x.length (x.length + 1)) y.length := (if_neg (ne_true_of_eq_false h1)).trans (if_neg (ne_true_of_eq_false hf))
      refine call_meets F.slot_str_split (typeIs_str _ _ _) F.entry_str_split (F.args_str_split_2 _ _) (meets_str_split_sep x y t u h1 hy0 hf (by omega) (by rw [← es]; omega)) ?_
      show wants Q E _ { s with toks := _, heap := s.heap.push { cls := .type "list", data := .seq (strsFrom s.toks (Builtin.Str.partsBetween x (Builtin.Str.occurrences x y 0 x.length (x.length + 1)) y.length)).toArray } }
      rw [strsFrom_eq]
      exact hq (numbered s.toks _) _ ((numbered_texts _ _).trans es.symm)
    · exact call_meets F.slot_str_split (typeIs_str _ _ _) F.entry_str_split (F.args_str_split_2 _ _) (meets_str_split_not_found x y t u h1 hy0 hf)
        (hq [(x, t)] s.toks ((if_neg (ne_true_of_eq_false h1)).trans (if_pos hf)).symm)
  · exact call_meets F.slot_str_split (typeIs_str _ _ _) F.entry_str_split (F.args_str_split_2 _ _) (meets_str_split_cannot_occur x y t u h1)
      (hq [(x, t)] s.toks (if_pos h1).symm)
theorem mt_split : MtR X "str.split" rSplit := by
  intro pins s σ H x xs v us Q I rx rs h
  obtain ⟨z, y, rfl, rfl, hy, hz, q⟩ := h
  obtain ⟨u, rfl, t', rfl⟩ := vals1 rs
  obtain ⟨t, rfl⟩ := rx
  refine split_wp hy hz fun l k e => ?_
  refine ⟨.ref s.heap.objs.size, _, I.laid (t' := k) (o := .lst ((Txt.split z y).map V.str)) (fun b ob q => Heap.get?_push_of_some _ q) (Nat.le_refl _) ?_, rfl, q _ (I.hok.fresh (Nat.le_refl _))⟩
  have hl := split_len z y hy
  exact ⟨by rw [List.length_map]; omega, _, 0, by rw [← e]; exact strs_vals, Heap.get?_push_size _ rfl⟩
/-- int of a text that tells a number -/
theorem call_int_str : CallR X (.type "int") (fun xs H Q => ∃ x n, xs = [.str x] ∧ intText? x = some n ∧ x.length ≤ 640 ∧ Q (.int n) H) := by
  intro pins s σ H xs us Q I r h
  obtain ⟨x, n, rfl, hn, hl, q⟩ := h
  obtain ⟨u, rfl, t, rfl⟩ := vals1 r
  exact PySem.W.KIN.call_text hn hl ⟨.int n, H, I.tok _, ⟨_, rfl⟩, q⟩
/-- a part of a text -/
def rSlX : V → Option Int → Option Int → Hp → VK → Prop := fun x lo hi H Q => ∃ z, x = .str z ∧ z.length ≤ sizeLine ∧ Q (.str (Txt.slice z lo hi)) H
theorem sl_str : SlR X rSlX := by
  intro pins s σ H x v vl vu lo hi sl Q I rx hs pl pu h
  obtain ⟨z, rfl, hz, q⟩ := h
  obtain ⟨t, rfl⟩ := rx
  refine ⟨"str", _, F.slot_str_getitem.lookup, typeIs_str _ _ _, ?_⟩
  have fin : ∀ t' k, EP X pins σ Q (.str (Txt.slice z lo hi) t') { s with toks := k } := fun t' k => ⟨.str _, H, I.tok _, ⟨_, rfl⟩, q⟩
  cases pl <;> cases pu
  · exact wpAny_getItem_str_slice (l := none) (u := none) (st := none) hs rfl (post_val_or_str ⟨Nat.le_trans (Txt.slice_le z _ _) hz, fin⟩)
  · exact wpAny_getItem_str_slice (l := none) (u := some (_, _)) (st := none) hs rfl (post_val_or_str ⟨Nat.le_trans (Txt.slice_le z _ _) hz, fin⟩)
  · exact wpAny_getItem_str_slice (l := some (_, _)) (u := none) (st := none) hs rfl (post_val_or_str ⟨Nat.le_trans (Txt.slice_le z _ _) hz, fin⟩)
  · exact wpAny_getItem_str_slice (l := some (_, _)) (u := some (_, _)) (st := none) hs rfl (post_val_or_str ⟨Nat.le_trans (Txt.slice_le z _ _) hz, fin⟩)
end
end L2
namespace L2
open PySem PySem.Spec PyProof.Rows
section
variable {X : Cx}
/-- any(a list of truths) -/
theorem call_anyL (hc : X.calm = true) : CallR X (.builtin "any") (fun xs H Q => ∃ (p : Addr) (bs : List Bool), xs = [.ref p] ∧ SqL X.K H p (bs.map V.bl) ∧ Q (.bl (bs.any id)) H) := by
  intro pins s σ H xs us Q I r h
  obtain ⟨p, bs, rfl, hp, q⟩ := h
  cases r with
  | cons r rr =>
    cases rr
    cases (show _ = Value.ref p from r)
    obtain ⟨its, rv, pl, hz⟩ := I.list hp
    have hl := rv.length
    have hs : its.toArray.size = bs.length := by rw [List.size_toArray, ← hl, List.length_map]
    have ho : (s.heap.push { cls := .type "list_iterator", data := .fields #[.ref p, .int 0 0] }).IsListIter s.heap.objs.size p 0 := ⟨_, Heap.get?_push_size _ rfl, rfl, rfl⟩
    have np : p ≠ s.heap.objs.size := by
      obtain ⟨o, ho, _⟩ := pl.isList
      exact Nat.ne_of_lt (Heap.lt_size ho)
    refine call_any_walk (wpAny_pyIter_list pl.isList ⟨s.heap.objs.size, _, _, _, _, _, fun i => bs.getD i false, rfl, Walks.list (A := X.A.in1) (I.ok.hd hc) _ _ np its.toArray, ⟨ho, pl.isList.at fun o e => Heap.get?_push_of_some _ e⟩, fun i v s Q E hv hq => ?_, fun h' tk k => ?_⟩)
    · rw [getD_bool rv hv]
      exact wpAny_pure hq
    · have e : (List.range its.toArray.size).any (fun i => bs.getD i false) = bs.any id := by
        rw [hs]
        conv => rhs; rw [← range_bools bs]
        rw [List.any_map]
        rfl
      refine ⟨.bl (bs.any id), H, I.kept (t' := tk) fun b o q => ?_, by rw [← e]; rfl, q⟩
      exact k b o (fun z => Nat.ne_of_lt (Heap.lt_size q) (by simpa using z)) (Heap.get?_push_of_some _ q)
end
end L2
namespace L2
open PySem PySem.Spec PyProof.Rows
section
variable {X : Cx}
theorem op_rep_str : OpR X (binaryOp .Mult) (fun x y H Q => ∃ z k, x = .str z ∧ y = .int k ∧ MulOk z k ∧ Q (.str (Txt.mul z k)) H) := by
  intro pins s σ H x y v u Q I rx ry h
  obtain ⟨i, j, rfl, rfl, hz, q⟩ := h
  obtain ⟨t, rfl⟩ := rx
  obtain ⟨t', rfl⟩ := ry
  exact SB.mul hz fun t' tk => ⟨.str _, H, I.tok _, ⟨_, rfl⟩, q⟩
end
end L2
set_option Elab.async false
set_option linter.all false
set_option maxRecDepth 100000
namespace L2
open PySem PySem.Spec PyProof.Rows PySem.NumText
/-! ### words -/
theorem Kind.kit_str {K : PySem.W.Frag} {t : String} {i b u : Bool} (k : Kind t i b u) : PySem.W.kitOne K (.type t) (.type "str") = some (t == "str") := by
  cases k <;> rfl
def figsOf (cs : List Nat) : List Nat := if cs.head? = some 45 then cs.tail else cs
def isW (cs : List Nat) : Bool := !decide ((figsOf cs).length = 0) && !decide (31 < (figsOf cs).length) && (figsOf cs).all (fun c => decide (48 ≤ c ∧ c ≤ 57)) && (decide (cs = [48]) || !decide ((figsOf cs).head? = some 48))
def valW (cs : List Nat) : Int := if cs.head? = some 45 then -((digitsVal cs.tail : Nat) : Int) else ((digitsVal cs : Nat) : Int)
theorem len_list (x : Str) : x.cps.toList.length = x.length := Array.length_toList
theorem isW_int {x : Str} (h : isW x.cps.toList = true) : intText? x = some (valW x.cps.toList) ∧ x.length ≤ 640 := by
  unfold isW at h
  rw [Bool.and_eq_true, Bool.and_eq_true, Bool.and_eq_true, Bool.not_eq_true', Bool.not_eq_true', decide_eq_false_iff_not, decide_eq_false_iff_not, List.all_eq_true] at h
  obtain ⟨⟨⟨h1, h2⟩, h3⟩, _⟩ := h
  have ad : AllDigits (figsOf x.cps.toList) := fun c hc => of_decide_eq_true (h3 c hc)
  have ln := len_list x
  unfold valW
  unfold figsOf at *
  split
  · rename_i e
    rw [if_pos e] at h1 h2 ad
    cases hx : x.cps.toList with
    | nil => rw [hx] at e; cases e
    | cons c cs =>
      rw [hx] at e h1 h2 ad ln
      cases (Option.some.inj e)
      simp only [List.tail_cons, List.length_cons] at h1 h2 ad ln ⊢
      exact ⟨intText_neg hx ad (fun z => h1 (by rw [z]; rfl)) (by omega), by omega⟩
  · rename_i e
    rw [if_neg e] at h1 h2 ad
    exact ⟨intText_digits ad (fun z => h1 (by rw [z]; rfl)) (by omega), by omega⟩
/-! ### the text of a number -/
def tx (i : Int) : Str := Str.ofString (toString i)
theorem tx_nat (m : Nat) : (tx (m : Int)).cps.toList = (Nat.toDigits 10 m).map Char.toNat := PySem.W.KIN.signs_num m
theorem tx_neg (m : Nat) : (tx (-((m + 1 : Nat) : Int))).cps.toList = 45 :: (Nat.toDigits 10 (m + 1)).map Char.toNat := by
  unfold tx
  rw [signs_ofString]
  show (("-" ++ Nat.repr (m + 1)) : String).toList.map Char.toNat = _
  rw [String.toList_append, List.map_append, Nat.toList_repr]
  rfl
theorem toDigits_len {m : Nat} (h : m < 10 ^ 31) : ((Nat.toDigits 10 m).map Char.toNat).length ≤ 31 := by
  rw [List.length_map]
  exact (Nat.length_toDigits_le_iff (by decide) (by decide)).mpr h
theorem tx_len {i : Int} (h1 : -(10 ^ 31) < i) (h2 : i < 10 ^ 31) : (tx i).length ≤ 32 := by
  rw [← len_list]
  rcases Int.lt_or_le i 0 with hn | hn
  · obtain ⟨m, rfl⟩ : ∃ m : Nat, i = -((m + 1 : Nat) : Int) := ⟨(-i - 1).toNat, by omega⟩
    rw [tx_neg]
    have ln := toDigits_len (m := m + 1) (by omega)
    simp only [List.length_cons]
    omega
  · obtain ⟨m, rfl⟩ := Int.eq_ofNat_of_zero_le hn
    rw [tx_nat]
    have ln := toDigits_len (m := m) (by omega)
    omega
/-! ### words joined, and parted again -/
def blank : Str := ⟨#[32]⟩
theorem join_cons (sep x y : Str) (r : List Str) : Str.join sep (x :: y :: r) = x ++ sep ++ Str.join sep (y :: r) := rfl
theorem app_assoc (a b c : Str) : a ++ b ++ c = a ++ (b ++ c) := by
  apply Str.ext'
  simp only [Str.cps_append, Array.append_assoc]
theorem join_snoc (sep w : Str) : ∀ (x : Str) (ws : List Str), Str.join sep (x :: (ws ++ [w])) = Str.join sep (x :: ws) ++ sep ++ w
  | x, [] => rfl
  | x, y :: r => by
    rw [List.cons_append, join_cons, join_snoc sep w y r, join_cons]
    simp only [app_assoc]
theorem str_eq {a b : Str} (h : a.cps.toList = b.cps.toList) : a = b := Str.ext' (Array.toList_inj.mp h)
theorem split_ne (x y : Str) : Txt.split x y ≠ [] := by
  unfold Txt.split
  split
  · exact fun z => nomatch z
  · split
    · exact fun z => nomatch z
    · obtain ⟨p, r, e⟩ := StrLaws.partsFrom_ne x y.length 0 (Builtin.Str.occurrences x y 0 x.length (x.length + 1))
      rw [StrLaws.partsBetween_eq, e]
      exact fun z => nomatch z
/-! ### a left number read -/
def readW (ws : List Str) : Option (Int × Int × List Int) :=
  match ws with
  | a :: b :: c :: r =>
    if c = ⟨#[58]⟩ ∧ ((a :: b :: r).all fun w => isW w.cps.toList) = true ∧ leftB (.int (valW a.cps.toList)) (.int (valW b.cps.toList)) ((r.reverse.map fun w => valW w.cps.toList).map V.int) = true then
      some (valW a.cps.toList, valW b.cps.toList, r.reverse.map fun w => valW w.cps.toList) else none
  | _ => none
theorem starts_one (x : Str) (c : Nat) : Txt.startswith x ⟨#[c]⟩ = decide (x.cps.toList.head? = some c) := by
  rw [Bool.eq_iff_iff, decide_eq_true_iff]
  unfold Txt.startswith
  rw [Bool.and_eq_true, decide_eq_true_iff, StrLaws.subAt_one x c 0, List.head?_eq_getElem?]
theorem slice_tail {x : Str} (h : 1 ≤ x.length) : (Txt.slice x (some 1) none).cps.toList = x.cps.toList.tail := by
  have ln := len_list x
  rw [slice_from_eq (b := (x.length : Int)) (by decide) (by omega) rfl]
  show ((x.cps.toList.drop 1).take ((x.length : Int) - 1).toNat) = _
  rw [List.drop_one, List.take_of_length_le (by rw [List.length_tail]; omega)]
end L2
namespace L2
open PySem PySem.Spec PyProof.Rows PySem.NumText
def dg (c : Nat) : Bool := decide (48 ≤ c ∧ c ≤ 57)
theorem dg_in (c : Nat) : decide (c ∈ ([48, 49, 50, 51, 52, 53, 54, 55, 56, 57] : List Nat)) = dg c := by
  unfold dg
  rw [Bool.eq_iff_iff, decide_eq_true_iff, decide_eq_true_iff]
  simp only [List.mem_cons, List.not_mem_nil, or_false]
  omega
theorem found_dg (c : Nat) : (!(Builtin.Str.occurrences ⟨#[48, 49, 50, 51, 52, 53, 54, 55, 56, 57]⟩ ⟨#[c]⟩ 0 (Str.length ⟨#[48, 49, 50, 51, 52, 53, 54, 55, 56, 57]⟩) 1).isEmpty) = dg c := (StrLaws.found_one ⟨#[48, 49, 50, 51, 52, 53, 54, 55, 56, 57]⟩ c).trans (dg_in c)
theorem c_minus : Str.ofString "-" = ⟨#[45]⟩ := by decide +kernel
theorem c_nought : Str.ofString "0" = ⟨#[48]⟩ := by decide +kernel
theorem c_blank : Str.ofString " " = blank := by decide +kernel
theorem c_colon : Str.ofString ":" = ⟨#[58]⟩ := by decide +kernel
theorem c_bcolon : Str.ofString " :" = blank ++ ⟨#[58]⟩ := by decide +kernel
theorem starts_minus (x : Str) : Txt.startswith x (Str.ofString "-") = decide (x.cps.toList.head? = some 45) := by rw [c_minus]; exact starts_one x 45
theorem any_not (cs : List Nat) : (cs.map fun c => !dg c).any id = !(cs.all fun c => decide (48 ≤ c ∧ c ≤ 57)) := by
  induction cs with
  | nil => rfl
  | cons c cs ih =>
    simp only [List.map_cons, List.any_cons, List.all_cons, Bool.not_and, ih, id]
    rfl
end L2
namespace L2
open PySem
theorem small100k {n : Nat} (h : n ≤ 100000) : n < sizeLine := Nat.lt_of_le_of_lt h (by decide)
end L2
namespace L2
open PySem
/-- the list of what comes, where an item may make new things -/
theorem comp_same {J : It} {xs : List V} {Hs : Hp → Prop} {p : St} {te : TE} {Q : V → Hp → Prop} {H1 : Hp} {D : Addr} (f : V → V) (P : Plain J xs Hs) (hz : xs.length < sizeLine) (hD : H1 D = none) (hs : ∀ H, Same H1 H → Hs H)
    (he : ∀ x ∈ xs, ∀ (H : Hp) (R : V → Hp → Prop), Same H1 H → (∀ H', Same H H' → R (f x) H') → te (some x :: p) H R)
    (q : ∀ H', Same H1 H' → H' D = some (.lst (xs.map f)) → Q (.ref D) H') : CompW J D p tAlways te Q H1 := by
  refine ⟨fun i m ys H => m = xs.length - i ∧ i ≤ xs.length ∧ Same H1 H ∧ H D = some (.lst ys) ∧ ys = (xs.take i).map f, ⟨xs.length, by simp, Nat.zero_le _, same_new hD _, upd_same, rfl⟩, ?_⟩
  rintro i m ys H ⟨rfl, hi, g, hy, rfl⟩
  refine ⟨hy, ?_⟩
  by_cases hlt : i < xs.length
  · refine .inr ⟨P.go i _ hlt (hs H g), fun x H' y => ?_⟩
    obtain ⟨rfl, hx⟩ := P.yld i _ x H' hlt (hs H g) y
    have hm : x ∈ xs := List.mem_of_getElem? hx
    dsimp only [tAlways]
    first | rw [if_pos rfl] | skip
    refine he x hm _ _ g fun H5 g5 => ?_
    refine ⟨g5 _ _ hy, by rw [List.length_map, List.length_take]; omega, xs.length - (i + 1), by omega, rfl, hlt, same_upd hD (g.trans g5), upd_same, ?_⟩
    rw [List.take_succ, hx, List.map_append]
    rfl
  · have e : i = xs.length := by omega
    subst e
    refine .inl ⟨P.stop _ (hs H g), q H g ?_⟩
    rw [List.take_length] at hy
    exact hy
theorem join_mem (sep : Str) : ∀ (ts : List Str) (t : Str), t ∈ ts → t.length ≤ (Str.join sep ts).length
  | [], _, h => nomatch h
  | [x], t, h => by
    rcases List.mem_cons.mp h with rfl | h
    · exact Nat.le_refl _
    · cases h
  | x :: y :: r, t, h => by
    rw [join_cons, Str.length_append, Str.length_append]
    rcases List.mem_cons.mp h with rfl | h
    · omega
    · have := join_mem sep (y :: r) t h
      omega
theorem readW_cons (a b c : Str) (r : List Str) : readW (a :: b :: c :: r) = if c = ⟨#[58]⟩ ∧ ((a :: b :: r).all fun w => isW w.cps.toList) = true ∧ leftB (.int (valW a.cps.toList)) (.int (valW b.cps.toList)) ((r.reverse.map fun w => valW w.cps.toList).map V.int) = true then
      some (valW a.cps.toList, valW b.cps.toList, r.reverse.map fun w => valW w.cps.toList) else none := rfl
theorem split_mem {x : Str} {y w : Str} (h : w ∈ Txt.split x y) : w.length ≤ x.length := by
  have := join_mem y (Txt.split x y) w h
  rwa [StrLaws.join_split] at this
end L2
namespace L2
open PySem PySem.Spec PyProof.Rows PySem.NumText
theorem tx_len2 {i : Int} (h0 : 0 ≤ i) (h1 : i < 100) : (tx i).length ≤ 2 := by
  rw [← len_list]
  obtain ⟨m, rfl⟩ := Int.eq_ofNat_of_zero_le h0
  rw [tx_nat, List.length_map]
  exact (Nat.length_toDigits_le_iff (by decide) (by decide)).mpr (by omega)
theorem sum_tx : ∀ {fs : List Int}, (∀ f ∈ fs, (tx f).length ≤ 2) → ((fs.map tx).map (·.length)).sum ≤ 2 * fs.length
  | [], _ => Nat.le_refl _
  | f :: fs, h => by
    have h1 := h f List.mem_cons_self
    have h2 := sum_tx (fs := fs) fun g hg => h g (List.mem_cons_of_mem _ hg)
    simp only [List.map_cons, List.sum_cons, List.length_cons]
    omega
/-- the text of a left number -/
def wordsL (p l : Int) (fs : List Int) : List Str := tx p :: tx l :: ⟨#[58]⟩ :: fs.reverse.map tx
theorem words_len {p l : Int} {fs : List Int} (hp : 0 ≤ p) (hp' : p < 100) (l1 : -(10 ^ 31) < l) (l2 : l < 10 ^ 31) (hf : ∀ f ∈ fs, 0 ≤ f ∧ f < 100) : (Str.join blank (wordsL p l fs)).length ≤ 40 + 3 * fs.length := by
  have a := StrLaws.join_length_le blank (wordsL p l fs)
  have b := tx_len2 hp hp'
  have c := tx_len l1 l2
  have d := sum_tx (fs := fs.reverse) fun f h => tx_len2 (hf f (List.mem_reverse.mp h)).1 (hf f (List.mem_reverse.mp h)).2
  have e : blank.length = 1 := rfl
  rw [e] at a
  unfold wordsL at a ⊢
  simp only [List.map_cons, List.sum_cons, List.length_cons, List.length_map, List.length_reverse, Nat.mul_one] at a d ⊢
  have k : (⟨#[58]⟩ : Str).length = 1 := rfl
  rw [k] at a
  omega
theorem words_grow {p l f : Int} {fs gs : List Int} (h : gs = f :: fs) : Str.join blank (wordsL p l gs) = Str.join blank (wordsL p l fs) ++ blank ++ tx f := by
  subst h
  unfold wordsL
  rw [List.reverse_cons, List.map_append]
  exact join_snoc blank (tx f) (tx p) (tx l :: ⟨#[58]⟩ :: fs.reverse.map tx)
theorem words_first (p l : Int) : tx p ++ blank ++ tx l ++ (blank ++ ⟨#[58]⟩) = Str.join blank (wordsL p l []) := by
  unfold wordsL
  show _ = Str.join blank [tx p, tx l, ⟨#[58]⟩]
  rw [join_cons, join_cons]
  show _ = tx p ++ blank ++ (tx l ++ blank ++ ⟨#[58]⟩)
  simp only [app_assoc]
end L2
set_option Elab.async false
set_option linter.all false
set_option maxRecDepth 100000
namespace L2
open PySem PySem.Spec PyProof.Rows PySem.NumText
theorem slice_nil {x : Str} {lo hi : Option Int} (h : x.length = 0) : (Txt.slice x lo hi).cps.toList = [] := by
  have := Txt.slice_le x lo hi
  rw [← List.length_eq_zero_iff, len_list]
  omega
theorem first_one (x : Str) (c : Nat) : decide (V.str (Txt.slice x none (some 1)) = V.str ⟨#[c]⟩) = decide (x.cps.toList.head? = some c) := by
  have ln := len_list x
  rw [Bool.eq_iff_iff, decide_eq_true_iff, decide_eq_true_iff]
  rcases Nat.eq_zero_or_pos x.length with h | h
  · have e := slice_nil (lo := none) (hi := some 1) h
    have e2 : x.cps.toList = [] := List.length_eq_zero_iff.mp (by omega)
    rw [e2]
    constructor
    · intro z
      rw [V.str.inj z] at e
      cases e
    · intro z
      cases z
  · have e : Txt.slice x none (some 1) = ⟨((x.cps.toList.drop (0 : Int).toNat).take ((1 : Int) - 0).toNat).toArray⟩ := beq_iff_eq.mp (slice_closes_toL (by decide) (by omega))
    rw [e]
    cases hx : x.cps.toList with
    | nil => rw [hx] at ln; simp only [List.length_nil] at ln; omega
    | cons d ds =>
      constructor
      · intro z
        have := congrArg (fun s : Str => s.cps.toList) (V.str.inj z)
        have e2 : [d] = [c] := this
        rw [(List.cons.inj e2).1]
        rfl
      · intro z
        rw [show d = c from Option.some.inj z]
        rfl
theorem empty_iff (z : Str) : decide (V.str z = V.str (Str.ofString "")) = decide (z.cps.toList.length = 0) := by
  rw [Bool.eq_iff_iff, decide_eq_true_iff, decide_eq_true_iff, show Str.ofString "" = ⟨#[]⟩ by decide +kernel]
  constructor
  · intro e
    rw [V.str.inj e]
    rfl
  · intro e
    exact congrArg V.str (str_eq (List.length_eq_zero_iff.mp e))
theorem c_digits : Str.ofString "0123456789" = ⟨#[48, 49, 50, 51, 52, 53, 54, 55, 56, 57]⟩ := by decide +kernel
theorem at_str {xs : List V} {i : Int} (B : Nat) (h : (xs.all fun v => match v with | .str s => decide (s.length ≤ B) | _ => false) = true) (h0 : 0 ≤ i) (h1 : i < (xs.length : Int)) : ∃ s : Str, atI xs i = some (.str s) ∧ s.length ≤ B := by
  obtain ⟨v, hv, s, rfl, hs⟩ := at_rest (P := fun v => ∃ s : Str, v = .str s ∧ s.length ≤ B) h0 h1 (fun v hv => by
    have := List.all_eq_true.mp h v hv
    cases v with
    | str s => exact ⟨s, rfl, of_decide_eq_true this⟩
    | _ => cases this)
  exact ⟨s, hv, hs⟩
theorem join_sum {sep : Str} : ∀ ws : List Str, (ws.map (·.length)).sum ≤ (Str.join sep ws).length
  | [] => Nat.zero_le _
  | [x] => by
    show x.length + 0 ≤ x.length
    omega
  | x :: y :: r => by
    have h := join_sum (sep := sep) (y :: r)
    rw [join_cons, Str.length_append, Str.length_append]
    simp only [List.map_cons, List.sum_cons] at h ⊢
    omega
theorem set_sum : ∀ (ws : List Str) (i : Nat) (w : Str), ((ws.set i w).map (·.length)).sum ≤ (ws.map (·.length)).sum + w.length
  | [], _, _ => Nat.zero_le _
  | x :: r, 0, w => by
    simp only [List.set_cons_zero, List.map_cons, List.sum_cons]
    omega
  | x :: r, i + 1, w => by
    have := set_sum r i w
    simp only [List.set_cons_succ, List.map_cons, List.sum_cons]
    omega
/-- a text with one word another -/
theorem other_word {x w : Str} {i : Nat} : (Str.join blank ((Txt.split x blank).set i w)).length ≤ 2 * x.length + w.length + 1 := by
  have a := StrLaws.join_length_le blank ((Txt.split x blank).set i w)
  have b := set_sum (Txt.split x blank) i w
  have c := join_sum (sep := blank) (Txt.split x blank)
  have d := split_len x blank (by decide)
  rw [StrLaws.join_split] at c
  rw [List.length_set, show blank.length = 1 from rfl] at a
  omega
end L2
set_option Elab.async false
set_option linter.all false
set_option maxRecDepth 100000
namespace L2
open PySem
/-! ### products -/
end L2
set_option Elab.async false
set_option linter.all false
set_option maxRecDepth 100000
namespace L2
open PySem PySem.Spec PyProof.Rows
section
variable {X : Cx}
end
end L2
set_option Elab.async false
set_option linter.all false
set_option maxRecDepth 100000
/-! a comprehension over a range while an exception is handled -/
namespace L2
open PySem PySem.W PySem.Spec PyProof.Rows
section
variable {prog : Program} {w : World} {A : Around} {E : Value → Shared → Prop} {s : Shared}
end
section
variable {X : Cx} {tg : Expr}
end
section
variable {ea : Addr} {X : Cx} {sc : Scope} {cl : List (Str × Addr)} {x : Str} {caps : List Str} {idx : List Nat} {wi : TI} {tt : TT} {te : TE} {elt iter : Expr} {ifs : List Expr} {pos px : Pos}
end
end L2
set_option Elab.async false
set_option linter.all false
set_option maxRecDepth 100000
namespace L2
open PySem PySem.Spec PyProof.Rows
section
variable {X : Cx}
end
end L2
set_option Elab.async false
set_option linter.all false
set_option maxRecDepth 100000
namespace L2
open PySem
/-! ### quotients -/
end L2
set_option Elab.async false
set_option linter.all false
set_option maxRecDepth 100000
namespace L2
open PySem
/-! ### powers -/
/-! ### by squares -/
/-! ### the doubt of a power -/
end L2
set_option Elab.async false
set_option linter.all false
set_option maxRecDepth 100000
namespace L2
open PySem
/-! ### scaled by a fraction -/
end L2
set_option Elab.async false
set_option linter.all false
set_option maxRecDepth 100000
namespace L2
open PySem
/-! ### fractions seen -/
end L2
set_option Elab.async false
set_option linter.all false
set_option maxRecDepth 100000
namespace L2
open PySem
/-! ### the algebra of quotients and powers -/
/-! ### handing in good ones -/
section
variable {K : PySem.W.Frag} {H : Hp} {a b U N : Addr} {p l l' : Int} {fs fs' : List Int} {Q : VK} {E : XK}
end
end L2
set_option Elab.async false
set_option linter.all false
set_option maxRecDepth 100000
namespace L2
open PySem
/-! ### what left numbers count from a place on -/
end L2
set_option Elab.async false
set_option linter.all false
set_option maxRecDepth 100000
namespace L2
open PySem
/-! ### powers part just there -/
end L2
set_option Elab.async false
set_option linter.all false
set_option maxRecDepth 100000
namespace L2
open PySem PySem.Spec PyProof.Rows
section
variable {X : Cx}
end
/-! ### numbers that the prime does not divide -/
end L2
set_option Elab.async false
set_option linter.all false
set_option maxRecDepth 100000
namespace L2
open PySem
/-! ### long division by a number that the prime does not divide -/
end L2
set_option Elab.async false
set_option linter.all false
set_option maxRecDepth 100000
namespace L2
open PySem
/-! ### the doubts of products, quotients and powers -/
/-! ### powers -/
end L2
set_option Elab.async false
set_option linter.all false
set_option maxRecDepth 100000
set_option maxHeartbeats 8000000
namespace K18
open PySem L2
def top (i : Nat) : Stmt := PySem.Challenge.pw_leftnumbers_k18_texts_refused.main.body.getD i (.Pass ⟨0, 0, 0, 0⟩)
abbrev s_is_whole : Stmt := top 18
abbrev s_is_prime : Stmt := top 19
abbrev s_are_figures : Stmt := top 21
abbrev s_is_left : Stmt := top 22
abbrev s_is_whole_text : Stmt := top 26
abbrev s_read_left : Stmt := top 27
abbrev s_l_cell_at : Stmt := top 29
abbrev s_l_primes : Stmt := top 30
abbrev s_l_place : Stmt := top 31
abbrev s_l_text : Stmt := top 32
abbrev s_l_spoiled : Stmt := top 33
abbrev s_l_is_number : Stmt := top 34
abbrev s_l_due : Stmt := top 35
abbrev s_l_others : Stmt := top 36
abbrev s_l_refused : Stmt := top 37
abbrev s_law : Stmt := top 38
theorem sc_is_whole : FnScope ["thing"] ["thing"] (defScope s_is_whole) := ⟨rfl, rfl, rfl, by decide +kernel, rfl, by decide +kernel, by decide +kernel⟩
theorem sc_is_prime : FnScope ["thing"] ["thing"] (defScope s_is_prime) := ⟨rfl, rfl, rfl, by decide +kernel, rfl, by decide +kernel, by decide +kernel⟩
theorem sc_are_figures : FnScope ["p", "things"] ["p", "things"] (defScope s_are_figures) := ⟨rfl, rfl, rfl, by decide +kernel, rfl, by decide +kernel, by decide +kernel⟩
theorem sc_is_left : FnScope ["thing"] ["thing"] (defScope s_is_left) := ⟨rfl, rfl, rfl, by decide +kernel, rfl, by decide +kernel, by decide +kernel⟩
theorem sc_is_whole_text : FnScope ["text", "figures"] ["text"] (defScope s_is_whole_text) := ⟨rfl, rfl, rfl, by decide +kernel, rfl, by decide +kernel, by decide +kernel⟩
theorem sc_read_left : FnScope ["text", "words", "numbers", "figures", "one"] ["text"] (defScope s_read_left) := ⟨rfl, rfl, rfl, by decide +kernel, rfl, by decide +kernel, by decide +kernel⟩
theorem sc_l_cell_at : FnScope ["_law_script", "_law_k"] ["_law_script", "_law_k"] (defScope s_l_cell_at) := ⟨rfl, rfl, rfl, by decide +kernel, rfl, by decide +kernel, by decide +kernel⟩
theorem sc_l_primes : FnScope [] [] (defScope s_l_primes) := ⟨rfl, rfl, rfl, by decide +kernel, rfl, by decide +kernel, by decide +kernel⟩
theorem sc_l_place : FnScope ["_law_cell"] ["_law_cell"] (defScope s_l_place) := ⟨rfl, rfl, rfl, by decide +kernel, rfl, by decide +kernel, by decide +kernel⟩
theorem sc_l_text : FnScope ["_law_p", "_law_least", "_law_figures", "_law_text_here", "_law_one"] ["_law_p", "_law_least", "_law_figures"] (defScope s_l_text) := ⟨rfl, rfl, rfl, by decide +kernel, rfl, by decide +kernel, by decide +kernel⟩
theorem sc_l_spoiled : FnScope ["_law_text_here", "_law_cell", "_law_more", "_law_signs", "_law_sign", "_law_at", "_law_words", "_law_some"] ["_law_text_here", "_law_cell", "_law_more"] (defScope s_l_spoiled) := ⟨rfl, rfl, rfl, by decide +kernel, rfl, by decide +kernel, by decide +kernel⟩
theorem sc_l_is_number : FnScope ["_law_word", "_law_figures"] ["_law_word"] (defScope s_l_is_number) := ⟨rfl, rfl, rfl, by decide +kernel, rfl, by decide +kernel, by decide +kernel⟩
theorem sc_l_due : FnScope ["_law_text_here", "_law_words", "_law_p", "_law_figures"] ["_law_text_here"] (defScope s_l_due) := ⟨rfl, rfl, rfl, by decide +kernel, rfl, by decide +kernel, by decide +kernel⟩
theorem sc_l_others : FnScope ["_law_e", "_law_some"] ["_law_e"] (defScope s_l_others) := ⟨rfl, rfl, rfl, by decide +kernel, rfl, by decide +kernel, by decide +kernel⟩
theorem sc_l_refused : FnScope ["_law_thing", "_law_found", "_law_e"] ["_law_thing"] (defScope s_l_refused) := ⟨rfl, rfl, rfl, by decide +kernel, rfl, by decide +kernel, by decide +kernel⟩
theorem sc_law : FnScope ["_law_script", "_law_cell", "_law_p", "_law_text_here", "_law_due_here"] ["_law_script"] (defScope s_law) := ⟨rfl, rfl, rfl, by decide +kernel, rfl, by decide +kernel, by decide +kernel⟩
set_option genInjectivity false
set_option genSizeOfSpec false
structure Txt (K : PySem.W.Frag) (mg : Str → Option Value) where
  f_is_whole : Addr
  d_is_whole : FuncData
  F_is_whole : Fun K "is_whole" "is_whole" s_is_whole f_is_whole d_is_whole
  b_is_whole : Binds K d_is_whole ["thing"] []
  m_is_whole : mg "is_whole" = some (.ref f_is_whole)
  k_is_whole : PySem.W.keepIn K (.ref f_is_whole) = true
  f_is_prime : Addr
  d_is_prime : FuncData
  F_is_prime : Fun K "is_prime" "is_prime" s_is_prime f_is_prime d_is_prime
  b_is_prime : Binds K d_is_prime ["thing"] []
  m_is_prime : mg "is_prime" = some (.ref f_is_prime)
  k_is_prime : PySem.W.keepIn K (.ref f_is_prime) = true
  f_are_figures : Addr
  d_are_figures : FuncData
  F_are_figures : Fun K "are_figures" "are_figures" s_are_figures f_are_figures d_are_figures
  b_are_figures : Binds K d_are_figures ["p", "things"] []
  m_are_figures : mg "are_figures" = some (.ref f_are_figures)
  k_are_figures : PySem.W.keepIn K (.ref f_are_figures) = true
  f_is_left : Addr
  d_is_left : FuncData
  F_is_left : Fun K "is_left" "is_left" s_is_left f_is_left d_is_left
  b_is_left : Binds K d_is_left ["thing"] []
  m_is_left : mg "is_left" = some (.ref f_is_left)
  k_is_left : PySem.W.keepIn K (.ref f_is_left) = true
  f_is_whole_text : Addr
  d_is_whole_text : FuncData
  F_is_whole_text : Fun K "is_whole_text" "is_whole_text" s_is_whole_text f_is_whole_text d_is_whole_text
  b_is_whole_text : Binds K d_is_whole_text ["text"] []
  m_is_whole_text : mg "is_whole_text" = some (.ref f_is_whole_text)
  k_is_whole_text : PySem.W.keepIn K (.ref f_is_whole_text) = true
  f_read_left : Addr
  d_read_left : FuncData
  F_read_left : Fun K "read_left" "read_left" s_read_left f_read_left d_read_left
  b_read_left : Binds K d_read_left ["text"] []
  m_read_left : mg "read_left" = some (.ref f_read_left)
  k_read_left : PySem.W.keepIn K (.ref f_read_left) = true
  f_l_cell_at : Addr
  d_l_cell_at : FuncData
  F_l_cell_at : Fun K "_law_cell_at" "_law_cell_at" s_l_cell_at f_l_cell_at d_l_cell_at
  b_l_cell_at : Binds K d_l_cell_at ["_law_script", "_law_k"] []
  m_l_cell_at : mg "_law_cell_at" = some (.ref f_l_cell_at)
  k_l_cell_at : PySem.W.keepIn K (.ref f_l_cell_at) = true
  f_l_primes : Addr
  d_l_primes : FuncData
  F_l_primes : Fun K "_law_primes" "_law_primes" s_l_primes f_l_primes d_l_primes
  b_l_primes : Binds K d_l_primes [] []
  m_l_primes : mg "_law_primes" = some (.ref f_l_primes)
  k_l_primes : PySem.W.keepIn K (.ref f_l_primes) = true
  f_l_place : Addr
  d_l_place : FuncData
  F_l_place : Fun K "_law_place" "_law_place" s_l_place f_l_place d_l_place
  b_l_place : Binds K d_l_place ["_law_cell"] []
  m_l_place : mg "_law_place" = some (.ref f_l_place)
  k_l_place : PySem.W.keepIn K (.ref f_l_place) = true
  f_l_text : Addr
  d_l_text : FuncData
  F_l_text : Fun K "_law_text" "_law_text" s_l_text f_l_text d_l_text
  b_l_text : Binds K d_l_text ["_law_p", "_law_least", "_law_figures"] []
  m_l_text : mg "_law_text" = some (.ref f_l_text)
  k_l_text : PySem.W.keepIn K (.ref f_l_text) = true
  f_l_spoiled : Addr
  d_l_spoiled : FuncData
  F_l_spoiled : Fun K "_law_spoiled" "_law_spoiled" s_l_spoiled f_l_spoiled d_l_spoiled
  b_l_spoiled : Binds K d_l_spoiled ["_law_text_here", "_law_cell", "_law_more"] []
  m_l_spoiled : mg "_law_spoiled" = some (.ref f_l_spoiled)
  k_l_spoiled : PySem.W.keepIn K (.ref f_l_spoiled) = true
  f_l_is_number : Addr
  d_l_is_number : FuncData
  F_l_is_number : Fun K "_law_is_number" "_law_is_number" s_l_is_number f_l_is_number d_l_is_number
  b_l_is_number : Binds K d_l_is_number ["_law_word"] []
  m_l_is_number : mg "_law_is_number" = some (.ref f_l_is_number)
  k_l_is_number : PySem.W.keepIn K (.ref f_l_is_number) = true
  f_l_due : Addr
  d_l_due : FuncData
  F_l_due : Fun K "_law_due" "_law_due" s_l_due f_l_due d_l_due
  b_l_due : Binds K d_l_due ["_law_text_here"] []
  m_l_due : mg "_law_due" = some (.ref f_l_due)
  k_l_due : PySem.W.keepIn K (.ref f_l_due) = true
  f_l_others : Addr
  d_l_others : FuncData
  F_l_others : Fun K "_law_others" "_law_others" s_l_others f_l_others d_l_others
  b_l_others : Binds K d_l_others ["_law_e"] []
  m_l_others : mg "_law_others" = some (.ref f_l_others)
  k_l_others : PySem.W.keepIn K (.ref f_l_others) = true
  f_l_refused : Addr
  d_l_refused : FuncData
  F_l_refused : Fun K "_law_refused" "_law_refused" s_l_refused f_l_refused d_l_refused
  b_l_refused : Binds K d_l_refused ["_law_thing"] []
  m_l_refused : mg "_law_refused" = some (.ref f_l_refused)
  k_l_refused : PySem.W.keepIn K (.ref f_l_refused) = true
  a_PRIMES : Addr
  m_PRIMES : mg "PRIMES" = some (.ref a_PRIMES)
  t_PRIMES : ∀ H : Hp, SqT K H a_PRIMES (primesL.map V.int)
  t_MOST_FIGURES : Tok
  m_MOST_FIGURES : mg "MOST_FIGURES" = some (.int 31 t_MOST_FIGURES)
  t_DECIMALS : Tok
  m_DECIMALS : mg "DECIMALS" = some (.str ⟨#[48, 49, 50, 51, 52, 53, 54, 55, 56, 57]⟩ t_DECIMALS)
  a_LeftError : Addr
  m_LeftError : mg "LeftError" = some (.ref a_LeftError)
  a_NoPrime : Addr
  m_NoPrime : mg "NoPrime" = some (.ref a_NoPrime)
  a_NoFraction : Addr
  m_NoFraction : mg "NoFraction" = some (.ref a_NoFraction)
  a_NoPlace : Addr
  m_NoPlace : mg "NoPlace" = some (.ref a_NoPlace)
  a_NoFigures : Addr
  m_NoFigures : mg "NoFigures" = some (.ref a_NoFigures)
  a_NoText : Addr
  m_NoText : mg "NoText" = some (.ref a_NoText)
  a_Unlike : Addr
  m_Unlike : mg "Unlike" = some (.ref a_Unlike)
  a_NoQuotient : Addr
  m_NoQuotient : mg "NoQuotient" = some (.ref a_NoQuotient)
  a_NoPower : Addr
  m_NoPower : mg "NoPower" = some (.ref a_NoPower)
  a_TooFew : Addr
  m_TooFew : mg "TooFew" = some (.ref a_TooFew)
  a_NoSize : Addr
  m_NoSize : mg "NoSize" = some (.ref a_NoSize)
  a_NoPolynomial : Addr
  m_NoPolynomial : mg "NoPolynomial" = some (.ref a_NoPolynomial)
  a_NoDepth : Addr
  m_NoDepth : mg "NoDepth" = some (.ref a_NoDepth)
  a_NoRoot : Addr
  m_NoRoot : mg "NoRoot" = some (.ref a_NoRoot)
  a_NotNear : Addr
  m_NotNear : mg "NotNear" = some (.ref a_NotNear)
  x_LeftError : PySem.W.excIn K a_LeftError bmVE "ValueError.__new__" = true
  x_NoText : PySem.W.excIn K a_NoText bmVE "ValueError.__new__" = true
  xc_NoText : XCls K a_NoText
  kt_NoText_NoText : PySem.W.kitOne K (.ref a_NoText) (.ref a_NoText) = some true
  kt_NoText_ValueError : PySem.W.kitOne K (.ref a_NoText) (.type "ValueError") = some true
  kt_NoText_NoPrime : PySem.W.kitOne K (.ref a_NoText) (.ref a_NoPrime) = some false
  kt_NoText_NoPlace : PySem.W.kitOne K (.ref a_NoText) (.ref a_NoPlace) = some false
  kt_NoText_NoFigures : PySem.W.kitOne K (.ref a_NoText) (.ref a_NoFigures) = some false
  kt_NoText_NoFraction : PySem.W.kitOne K (.ref a_NoText) (.ref a_NoFraction) = some false
  kt_NoText_Unlike : PySem.W.kitOne K (.ref a_NoText) (.ref a_Unlike) = some false
  kt_NoText_NoQuotient : PySem.W.kitOne K (.ref a_NoText) (.ref a_NoQuotient) = some false
  kt_NoText_NoPower : PySem.W.kitOne K (.ref a_NoText) (.ref a_NoPower) = some false
  kt_NoText_TooFew : PySem.W.kitOne K (.ref a_NoText) (.ref a_TooFew) = some false
  kt_NoText_NoSize : PySem.W.kitOne K (.ref a_NoText) (.ref a_NoSize) = some false
  kt_NoText_NoPolynomial : PySem.W.kitOne K (.ref a_NoText) (.ref a_NoPolynomial) = some false
  kt_NoText_NoDepth : PySem.W.kitOne K (.ref a_NoText) (.ref a_NoDepth) = some false
  kt_NoText_NoRoot : PySem.W.kitOne K (.ref a_NoText) (.ref a_NoRoot) = some false
  kt_NoText_NotNear : PySem.W.kitOne K (.ref a_NoText) (.ref a_NotNear) = some false
  sb_NoText : PySem.W.subIn K (.ref a_NoText) (.ref a_LeftError) = some true
  z_ValueError : mg "ValueError" = none
  z_all : mg "all" = none
  z_any : mg "any" = none
  z_bool : mg "bool" = none
  z_int : mg "int" = none
  z_isinstance : mg "isinstance" = none
  z_len : mg "len" = none
  z_reversed : mg "reversed" = none
  z_str : mg "str" = none
  z_tuple : mg "tuple" = none
theorem bd_small {n : Nat} {i : Int} (hn : 64 ≤ n) (h1 : -(2 ^ 63) ≤ i) (h2 : i ≤ 2 ^ 63) : LN.Bd n i :=
  LN.Bd.mono (m := 64) (LN.Bd.of_abs (b := 2 ^ 63) (by omega) (by omega) (by decide)) hn
theorem dsm {i j : Int} (h : 0 < j) (h2 : j ≤ 1000) : CDivB i j := ⟨h, bd_small (by decide) (by omega) (by omega)⟩
def spOthers (C : Addr) : Addr → Sp := fun ea vs H Q _ => vs = [.ref ea] ∧ ExH H ea C ∧ ∀ H', Same H H' → Q (.bl false) H'
def spRefused18 (K : PySem.W.Frag) : Sp := fun vs H Q _ => ∃ v : V, vs = [v] ∧ ((∃ (t : String) (i b u : Bool), Kind t i b u ∧ TyOf K H v (.type t) ∧ (t == "str") = false) ∨ ∃ x : Str, v = .str x ∧ x.length ≤ 3000 ∧ readW (Txt.split x blank) = none) ∧ ∀ H', Q (.bl true) H'
def spPrimes18 : Sp := fun vs H Q _ => vs = [] ∧ ∀ l : Addr, H l = none → Q (.ref l) (upd H l (.lst (primesL.map V.int)))
def spText18 : Sp := fun vs H Q _ => ∃ (p l : Int) (a : Addr) (fs : List Int), vs = [.int p, .int l, .ref a] ∧ 2 ≤ p ∧ p < 100 ∧ -(10 ^ 31) < l ∧ l < 10 ^ 31 ∧ H a = some (.lst (fs.map V.int)) ∧ (∀ f ∈ fs, 0 ≤ f ∧ f < 100) ∧ fs.length ≤ 60 ∧ ∀ x : Str, x.length ≤ 400 → Q (.str x) H
def spSpoil18 : Sp := fun vs H Q _ => ∃ (x : Str) (c m : Int), vs = [.str x, .int c, .int m] ∧ x.length ≤ 1000 ∧ ∀ (y : Str) (H' : Hp), Same H H' → y.length ≤ 2 * x.length + 100 → Q (.str y) H'
def spDue18 (K : PySem.W.Frag) : Sp := fun vs H Q _ => ∃ x : Str, vs = [.str x] ∧ x.length ≤ 3000 ∧ (readW (Txt.split x blank) = none → ∀ H', Same H H' → Q .non H') ∧ ∀ (p l : Int) (fs : List Int), readW (Txt.split x blank) = some (p, l, fs) → ∀ (a : Addr) (H' : Hp), Same H H' → LeftAt K H' a p l fs → Q (.ref a) H'
def signs18 : List V := ["0", "1", "2", "3", "7", "9", " ", " ", ":", "-", "+", "_", ".", "/", ",", "a", "e", "~", "(", "'", "\t", "\n", "  "].map fun s => V.str (Str.ofString s)
def words18 : List V := (["", "-0", "00", "01", "+1", "--1", "1_0", "97", "98", "4", "1", ":"].map fun s => V.str (Str.ofString s)) ++ [.str (Str.ofString "1" ++ Txt.mul (Str.ofString "0") 30), .str (Str.ofString "1" ++ Txt.mul (Str.ofString "0") 31)]
def spPrimeQ (K : PySem.W.Frag) : Sp := fun vs H Q _ => ∃ v, vs = [v] ∧ Thing K H v ∧ Q (.bl (isPr v)) H
def spAreFigs (K : PySem.W.Frag) : Sp := fun vs H Q _ => ∃ (p : Int) (a : Addr) (zs : List V), vs = [.int p, .ref a] ∧ (SqL K H a zs ∨ SqT K H a zs) ∧ (∀ z ∈ zs, Thing K H z) ∧ zs.length ≤ 3000 ∧ ∀ H' : Hp, Same H H' → Q (.bl (zs.all (isFig p))) H'
def spWT : Sp := fun vs H Q _ => ∃ x : Str, vs = [.str x] ∧ x.length ≤ 100000 ∧ ∀ H', Same H H' → Q (.bl (isW x.cps.toList)) H'
def spRead (K : PySem.W.Frag) (C : Addr) : Sp := fun vs H Q E => ∃ v : V, vs = [v] ∧ ((∃ (t : String) (i b u : Bool), Kind t i b u ∧ TyOf K H v (.type t) ∧ (t == "str") = false ∧ ∀ H', Same H H' → E (.ref C) none H') ∨
  ∃ x : Str, v = .str x ∧ x.length ≤ 3000 ∧ (readW (Txt.split x blank) = none → ∀ H', Same H H' → E (.ref C) none H') ∧ ∀ (p l : Int) (fs : List Int), readW (Txt.split x blank) = some (p, l, fs) → ∀ (a : Addr) (H' : Hp), Same H H' → LeftAt K H' a p l fs → Q (.ref a) H')
section
variable {P : Program} {w : World} {K : PySem.W.Frag} {mg : Str → Option Value} {base : Heap}
theorem ok_is_whole (T : Txt K mg) : FnOk P w K mg base CX0 1 T.f_is_whole T.d_is_whole ["thing"] (spWhole K) := by
  refine T.F_is_whole.okq sc_is_whole (fun vs H Q E h => ?_) (fun cdv A outer s H vs Q E hr h => ?_)
  · obtain ⟨v, rfl, _⟩ := h
    rfl
  obtain ⟨v, rfl, ⟨t, i, b, u, kd, ty, ei⟩, q⟩ := h
  refine ⟨_, (qpss_one (qps_ret (qpe_and (qpe_callB call_inst rfl T.z_isinstance bt_isinstance (qpa_cons (hs := star_Name) (qpv 0) (qpa_cons (hs := star_Name) (qpe_bltn (v := .ty "int") rfl T.z_int bt_int rfl) qpa_nil))) (qpe_one (qpe_not (qpe_callB call_inst rfl T.z_isinstance bt_isinstance (qpa_cons (hs := star_Name) (qpv 0) (qpa_cons (hs := star_Name) (qpe_bltn (v := .ty "bool") rfl T.z_bool bt_bool rfl) qpa_nil)))))))), ?_⟩
  refine ⟨_, rfl, _, _, _, i, rfl, ty, kd.kit_int, _, rfl, ?_⟩
  rw [← ei] at q
  cases i with
  | false => exact iteF q
  | true => exact iteT ⟨_, rfl, _, _, _, b, rfl, ty, kd.kit_bool, _, rfl, q⟩
theorem primesL_flat : (primesL.map V.int).all flatV = true := by decide
theorem ok_is_prime (T : Txt K mg) : FnOk P w K mg base CX0 2 T.f_is_prime T.d_is_prime ["thing"] (spPrimeQ K) := by
  have G_is_whole := ok_is_whole (P := P) (w := w) (base := base) T
  refine T.F_is_prime.okq sc_is_prime (fun vs H Q E h => ?_) (fun cdv A outer s H vs Q E hr h => ?_)
  · obtain ⟨v, rfl, _⟩ := h
    rfl
  obtain ⟨v, rfl, th, q⟩ := h
  refine ⟨_, (qpss_one (qps_ret (qpe_and (qpe_call G_is_whole hr rfl T.m_is_whole T.k_is_whole T.b_is_whole .nil pass0 (qpa_cons (hs := star_Name) (qpv 0) qpa_nil)) (qpe_one (qpe_cmpR op_in_seq (qpv 0) (qpe_glob (v := .ref T.a_PRIMES) rfl T.m_PRIMES rfl) (by rfl)))))), ?_⟩
  refine ⟨_, rfl, v, rfl, th, _, rfl, ?_⟩
  cases v with
  | int i =>
    refine iteT ⟨_, rfl, _, _, rfl, .inr (T.t_PRIMES _), rfl, primesL_flat, ?_⟩
    rw [inV_primes]
    exact q
  | _ => exact iteF q
theorem ok_are_figures (T : Txt K mg) : FnOk P w K mg base CX0 2 T.f_are_figures T.d_are_figures ["p", "things"] (spAreFigs K) := by
  have G_is_whole := ok_is_whole (P := P) (w := w) (base := base) T
  refine T.F_are_figures.okq sc_are_figures (fun vs H Q E h => ?_) (fun cdv A outer s H vs Q E hr h => ?_)
  · obtain ⟨p, a, zs, rfl, _⟩ := h
    rfl
  obtain ⟨p, a, zs, rfl, hs, th, few, q⟩ := h
  refine ⟨_, (qpss_one (qps_ret (qpe_callB (call_allL rfl) rfl T.z_all bt_all (qpa_cons (hs := star_ListComp) (qpe_comp (caps := ["p"]) (idx := [0]) rfl ⟨rfl, by decide +kernel, rfl, by decide +kernel, rfl, by decide +kernel, rfl, ⟨⟨rfl, rfl⟩, trivial⟩, by decide +kernel, rfl, by decide +kernel⟩ (qpi_seq (qpv 1)) (fun _ _ _ _ => qif_none) (fun _ _ _ _ => (qpe_and (qpe_call G_is_whole hr rfl T.m_is_whole T.k_is_whole T.b_is_whole .nil pass0 (qpa_cons (hs := star_Name) (qpv 0) qpa_nil)) (qpe_one (qpe_chain op_le op_lt qpe_int (qpv 0) (qpv 1)))))) qpa_nil)))), ?_⟩
  have step : ∀ (D : Addr) (hD : H D = none) (x : V), x ∈ zs → ∀ (ys : List V), Thing K (upd H D (.lst ys)) x := fun D hD x hx ys => (th x hx).same (same_new hD _)
  have last : ∀ D, H D = none → ∃ (b : Addr) (bs : List Bool), [V.ref D] = [.ref b] ∧ SqL K (upd H D (.lst ((zs.filter fun _ => true).map fun v => .bl (isFig p v)))) b (bs.map V.bl) ∧ Q (.bl (bs.all id)) (upd H D (.lst ((zs.filter fun _ => true).map fun v => .bl (isFig p v)))) := fun D hD => by
    rw [filter_all]
    refine ⟨D, zs.map (isFig p), rfl, ?_, ?_⟩
    · rw [List.map_map]
      exact SqL.of upd_same
    · rw [List.all_map]
      exact q _ (same_new hD _)
  rcases hs with hs | hs
  · refine .inl ⟨_, rfl, a, rfl, ⟨_, hs⟩, fun D hD => ?_⟩
    refine comp_plain (c := fun _ => true) (f := fun v => .bl (isFig p v)) plain_list (small3001 (by omega)) hD (fun ys => (same_new hD _).seq hs) (fun x _ ys R r => r) (fun x hx _ ys R r => ?_) (last D hD)
    refine ⟨_, rfl, x, rfl, step D hD x hx ys, _, rfl, ?_⟩
    cases x with
    | int f =>
      refine iteT ⟨_, rfl, _, _, rfl, rfl, _, rfl, ?_⟩
      by_cases h0 : 0 ≤ f
      · rw [show isFig p (.int f) = (decide (0 ≤ f) && decide (f < p)) from rfl, decide_eq_true h0] at r
        rw [if_pos (decide_eq_true h0)]
        exact ⟨_, rfl, _, _, rfl, rfl, r⟩
      · rw [show isFig p (.int f) = (decide (0 ≤ f) && decide (f < p)) from rfl, decide_eq_false h0] at r
        rw [if_neg (by rw [decide_eq_false h0]; decide)]
        exact r
    | _ => exact iteF r
  · refine .inr ⟨_, rfl, a, rfl, ⟨_, hs⟩, fun D hD => ?_⟩
    refine comp_plain (c := fun _ => true) (f := fun v => .bl (isFig p v)) plain_tup (small3001 (by omega)) hD (fun ys => (same_new hD _).seqT hs) (fun x _ ys R r => r) (fun x hx _ ys R r => ?_) (last D hD)
    refine ⟨_, rfl, x, rfl, step D hD x hx ys, _, rfl, ?_⟩
    cases x with
    | int f =>
      refine iteT ⟨_, rfl, _, _, rfl, rfl, _, rfl, ?_⟩
      by_cases h0 : 0 ≤ f
      · rw [show isFig p (.int f) = (decide (0 ≤ f) && decide (f < p)) from rfl, decide_eq_true h0] at r
        rw [if_pos (decide_eq_true h0)]
        exact ⟨_, rfl, _, _, rfl, rfl, r⟩
      · rw [show isFig p (.int f) = (decide (0 ≤ f) && decide (f < p)) from rfl, decide_eq_false h0] at r
        rw [if_neg (by rw [decide_eq_false h0]; decide)]
        exact r
    | _ => exact iteF r
theorem ok_is_left (T : Txt K mg) : FnOk P w K mg base CX0 3 T.f_is_left T.d_is_left ["thing"] (spIsLeft K) := by
  have G_is_whole := (ok_is_whole (P := P) (w := w) (base := base) T).mono (k := 2) (by decide)
  have G_is_prime := ok_is_prime (P := P) (w := w) (base := base) T
  have G_are_figures := ok_are_figures (P := P) (w := w) (base := base) T
  refine T.F_is_left.okq sc_is_left (fun vs H Q E h => ?_) (fun cdv A outer s H vs Q E hr h => ?_)
  · obtain ⟨v, b, rfl, _⟩ := h
    rfl
  obtain ⟨v, b, rfl, lt, q⟩ := h
  have q0 := q H (Same.refl _)
  refine ⟨_, (qpss_cons (qps_if (QW.pt (qpw_or (qpt_not (qpt_val (qpe_callB call_inst rfl T.z_isinstance bt_isinstance (qpa_cons (hs := star_Name) (qpv 0) (qpa_cons (hs := star_Name) (qpe_bltn (v := .ty "tuple") rfl T.z_tuple bt_tuple rfl) qpa_nil))))) (qpw_or1 (qpt_cmpR op_ne (qpe_callB call_len_seq rfl T.z_len bt_len (qpa_cons (hs := star_Name) (qpv 0) qpa_nil)) qpe_int (nomark _))))) (qpss_one (qps_ret qpe_bl)) qpss_nil)
    (qpss_cons (qps_if (QW.pt (qpw_or (qpt_not (qpt_val (qpe_call G_is_prime hr rfl T.m_is_prime T.k_is_prime T.b_is_prime .nil pass0 (qpa_cons (hs := star_Subscript) (qpe_ix ix_tup (qpv 0) qpe_int (fun _ _ => rfl)) qpa_nil)))) (qpw_or (qpt_not (qpt_val (qpe_call G_is_whole hr rfl T.m_is_whole T.k_is_whole T.b_is_whole .nil pass0 (qpa_cons (hs := star_Subscript) (qpe_ix ix_tup (qpv 0) qpe_int (fun _ _ => rfl)) qpa_nil)))) (qpw_or1 (qpt_not (qpt_val (qpe_callB call_inst rfl T.z_isinstance bt_isinstance (qpa_cons (hs := star_Subscript) (qpe_ix ix_tup (qpv 0) qpe_int (fun _ _ => rfl)) (qpa_cons (hs := star_Name) (qpe_bltn (v := .ty "tuple") rfl T.z_tuple bt_tuple rfl) qpa_nil))))))))) (qpss_one (qps_ret qpe_bl)) qpss_nil)
    (qpss_cons (qps_if (qpt_not (qpt_val (qpe_call G_are_figures hr rfl T.m_are_figures T.k_are_figures T.b_are_figures .nil pass0 (qpa_cons (hs := star_Subscript) (qpe_ix ix_tup (qpv 0) qpe_int (fun _ _ => rfl)) (qpa_cons (hs := star_Subscript) (qpe_ix ix_tup (qpv 0) qpe_int (fun _ _ => rfl)) qpa_nil))))) (qpss_one (qps_ret qpe_bl)) qpss_nil)
    (qpss_one (qps_ret (qpe_or (qpe_cmpR op_eq (qpe_callB call_len_seq rfl T.z_len bt_len (qpa_cons (hs := star_Subscript) (qpe_ix ix_tup (qpv 0) qpe_int (fun _ _ => rfl)) qpa_nil)) qpe_int (nomark _)) (qpe_one (qpe_cmpR op_ne (qpe_ix ix_tup (qpe_ix ix_tup (qpv 0) qpe_int (fun _ _ => rfl)) qpe_int (fun _ _ => rfl)) qpe_int (nomark _))))))))), ?_⟩
  cases lt with
  | no k ty => exact ⟨_, rfl, _, _, _, false, rfl, ty, k.kit_tuple, _, rfl, iteT (iteT q0)⟩
  | len h n => exact ⟨_, rfl, _, _, _, true, rfl, TyOf.tup h, Kind.tup.kit_tuple, _, rfl, iteF ⟨_, rfl, _, _, rfl, .inr (SqT.of h), rfl, _, rfl, iteN (fun _ => q0) (fun z => absurd (Int.ofNat.inj z) n)⟩⟩
  | @part a x y z h tx ty t i b k tz =>
    refine ⟨_, rfl, _, _, _, true, rfl, TyOf.tup h, Kind.tup.kit_tuple, _, rfl, iteF ⟨_, rfl, _, _, rfl, .inr (SqT.of h), rfl, _, rfl, iteNS rfl ?_⟩⟩
    refine ⟨_, rfl, a, _, _, _, rfl, rfl, SqT.of h, rfl, x, rfl, tx, _, rfl, ?_⟩
    cases hx : isPr x with
    | false => exact iteT (iteT q0)
    | true =>
      refine iteF ⟨_, rfl, a, _, _, _, rfl, rfl, SqT.of h, rfl, y, rfl, ty, _, rfl, ?_⟩
      cases hy : isI y with
      | false => exact iteT (iteT q0)
      | true => exact iteF ⟨_, rfl, a, _, _, _, rfl, rfl, SqT.of h, rfl, _, _, _, false, rfl, tz, k.kit_tuple, _, rfl, iteT q0⟩
  | @full a c x y zs h tx ty hc tz n b e =>
    refine ⟨_, rfl, _, _, _, true, rfl, TyOf.tup h, Kind.tup.kit_tuple, _, rfl, iteF ⟨_, rfl, _, _, rfl, .inr (SqT.of h), rfl, _, rfl, iteNS rfl ?_⟩⟩
    refine ⟨_, rfl, a, _, _, _, rfl, rfl, SqT.of h, rfl, x, rfl, tx, _, rfl, ?_⟩
    cases hx : isPr x with
    | false =>
      have e0 : b = false := by
        rw [e]
        cases x with
        | int p =>
          have hx : decide (Pr p) = false := hx
          cases y with
          | int l =>
            show (decide (Pr p) && zs.all (isFig p) && !decide (zs.head? = some (.int 0))) = false
            rw [hx]
            rfl
          | _ => rfl
        | _ => rfl
      rw [e0] at q0
      exact iteT (iteT q0)
    | true =>
      obtain ⟨p, rfl⟩ : ∃ p, x = .int p := by
        cases x with
        | int p => exact ⟨p, rfl⟩
        | _ => cases hx
      refine iteF ⟨_, rfl, a, _, _, _, rfl, rfl, SqT.of h, rfl, y, rfl, ty, _, rfl, ?_⟩
      cases hy : isI y with
      | false =>
        have e0 : b = false := by
          rw [e]
          cases y with
          | int l => cases hy
          | _ => rfl
        rw [e0] at q0
        exact iteT (iteT q0)
      | true =>
        obtain ⟨l, rfl⟩ := isI_int hy
        have hx : decide (Pr p) = true := hx
        have e : b = (decide (Pr p) && zs.all (isFig p) && !decide (zs.head? = some (.int 0))) := e
        rw [hx, Bool.true_and] at e
        refine iteF ⟨_, rfl, a, _, _, _, rfl, rfl, SqT.of h, rfl, _, _, _, true, rfl, TyOf.tup hc, Kind.tup.kit_tuple, _, rfl, iteF ?_⟩
        refine ⟨_, rfl, a, _, _, _, rfl, rfl, SqT.of h, rfl, _, rfl, a, _, _, _, rfl, rfl, SqT.of h, rfl, p, c, zs, rfl, .inr (SqT.of hc), tz, n, fun H1 g1 => ⟨_, rfl, ?_⟩⟩
        have q1 := q H1 g1
        have h1 := g1 _ _ h
        have c1 := g1 _ _ hc
        cases hz : zs.all (isFig p) with
        | false =>
          rw [hz] at e
          rw [e] at q1
          exact iteT q1
        | true =>
          rw [hz, Bool.true_and] at e
          refine iteF ⟨_, rfl, a, _, _, _, rfl, rfl, SqT.of h1, rfl, c, _, rfl, .inr (SqT.of c1), rfl, _, rfl, iteI (fun z => ?_) (fun z => ?_)⟩
          · have e0 : b = true := by
              rw [e, List.length_eq_zero_iff.mp (show zs.length = 0 by omega)]
              rfl
            rw [e0] at q1
            exact q1
          · cases zs with
            | nil => exact absurd rfl z
            | cons v zs =>
              obtain ⟨f, rfl⟩ : ∃ f, v = .int f := by
                have hv := List.all_eq_true.mp hz v (List.mem_cons_self ..)
                cases v with
                | int f => exact ⟨f, rfl⟩
                | _ => cases hv
              refine ⟨_, rfl, a, _, _, _, rfl, rfl, SqT.of h1, rfl, c, _, _, _, rfl, rfl, SqT.of c1, at_head, rfl, ?_⟩
              have e1 : b = !decide (V.int f = V.int 0) := by
                rw [e]
                congr 1
                exact decide_eq_decide.mpr ⟨fun z => Option.some.inj z, fun z => congrArg some z⟩
              rw [e1] at q1
              exact q1
theorem ok_is_whole_text (T : Txt K mg) : FnOk P w K mg base CX0 1 T.f_is_whole_text T.d_is_whole_text ["text"] spWT := by
  refine T.F_is_whole_text.okq sc_is_whole_text (fun vs H Q E h => ?_) (fun cdv A outer s H vs Q E hr h => ?_)
  · obtain ⟨x, rfl, _⟩ := h
    rfl
  obtain ⟨x, rfl, hx, q⟩ := h
  refine ⟨_, (qpss_cons (qps_set (i := 1) sc_is_whole_text.nd rfl (Or.inl rfl) (qpe_ifExp (qpt_val (qpe_bm PySem.F.plainAttrs_str PySem.F.slot_str_startswith PySem.F.type_str_startswith mt_starts (qpv 0) (qpa_cons (hs := star_Constant) qpe_str qpa_nil))) (qpe_slice sl_str (qpv 0) (qpo_some qpe_int) qpo_none) (qpv 0)))
    (qpss_cons (qps_if (QW.pt (qpw_or (qpt_cmpR op_eq (qpe_callB call_len_str rfl T.z_len bt_len (qpa_cons (hs := star_Name) (qpv 1) qpa_nil)) qpe_int (nomark _)) (qpw_or1 (qpt_cmpR op_gt (qpe_callB call_len_str rfl T.z_len bt_len (qpa_cons (hs := star_Name) (qpv 1) qpa_nil)) (qpe_glob (v := .int 31) rfl T.m_MOST_FIGURES ⟨_, rfl⟩) (nomark _))))) (qpss_one (qps_ret qpe_bl)) qpss_nil)
    (qpss_cons (qps_if (qpt_val (qpe_callB (call_anyL rfl) rfl T.z_any bt_any (qpa_cons (hs := star_ListComp) (qpe_comp (caps := []) (idx := []) rfl ⟨rfl, by decide +kernel, rfl, by decide +kernel, rfl, by decide +kernel, rfl, trivial, by decide +kernel, rfl, by decide +kernel⟩ (qpi_str (qpv 1)) (fun _ _ _ _ => qif_none) (fun _ _ _ _ => (qpe_cmpR op_notin_str (qpv 0) (qpe_glob (v := .str ⟨#[48, 49, 50, 51, 52, 53, 54, 55, 56, 57]⟩) rfl T.m_DECIMALS ⟨_, rfl⟩) (by rfl)))) qpa_nil))) (qpss_one (qps_ret qpe_bl)) qpss_nil)
    (qpss_one (qps_ret (qpe_or (qpe_cmpR op_eq (qpv 0) qpe_str (nomark _)) (qpe_one (qpe_not (qpe_bm PySem.F.plainAttrs_str PySem.F.slot_str_startswith PySem.F.type_str_startswith mt_starts (qpv 1) (qpa_cons (hs := star_Constant) qpe_str qpa_nil)))))))))), ?_⟩
  have ln := len_list x
  refine seq_of (fun σ H' => H' = H ∧ ∃ z : Str, σ = [some (.str x), some (.str z)] ∧ z.cps.toList = figsOf x.cps.toList ∧ z.length ≤ 100000) ?_ (fun nx tail => ?_)
  rotate_left
  · refine ⟨_, rfl, rfl, x, _, rfl, rfl, _, rfl, ?_⟩
    rw [starts_minus]
    by_cases hd : x.cps.toList.head? = some 45
    · rw [decide_eq_true hd]
      have h1 : 1 ≤ x.length := by
        rw [← ln]
        cases hx' : x.cps.toList with
        | nil => rw [hx'] at hd; cases hd
        | cons c cs => exact Nat.succ_pos _
      have st := slice_tail h1
      refine iteT ⟨_, rfl, _, rfl, x, rfl, Nat.le_of_lt (small100k hx), tail _ _ ⟨rfl, _, rfl, ?_, ?_⟩⟩
      · rw [st]
        unfold figsOf
        rw [if_pos hd]
      · rw [← len_list, st, List.length_tail]
        omega
    · rw [decide_eq_false hd]
      exact iteF ⟨_, rfl, tail _ _ ⟨rfl, x, rfl, by unfold figsOf; rw [if_neg hd], hx⟩⟩
  rintro σ H' ⟨rfl, z, rfl, hz, zl⟩
  have zn := len_list z
  have zs : z.length ≤ sizeLine := Nat.le_of_lt (small100k zl)
  have eq1 : isW x.cps.toList = (!decide (z.cps.toList.length = 0) && !decide (31 < z.cps.toList.length) && z.cps.toList.all (fun c => decide (48 ≤ c ∧ c ≤ 57)) && (decide (x.cps.toList = [48]) || !decide (z.cps.toList.head? = some 48))) := by
    unfold isW
    rw [hz]
  rw [eq1] at q
  have fin : ∀ {b : Bool} {H1 : Hp}, (!decide (z.cps.toList.length = 0) && !decide (31 < z.cps.toList.length) && z.cps.toList.all (fun c => decide (48 ≤ c ∧ c ≤ 57)) && (decide (x.cps.toList = [48]) || !decide (z.cps.toList.head? = some 48))) = b → Same H' H1 → Q (.bl b) H1 := fun e g => by
    have := q _ g
    rwa [e] at this
  refine ⟨_, rfl, z, rfl, zs, rfl, _, rfl, iteI (fun e0 => ?_) (fun n0 => ?_)⟩
  · exact iteT (fin (by rw [decide_eq_true (show z.cps.toList.length = 0 by omega)]; rfl) (Same.refl _))
  rw [decide_eq_false (show ¬ z.cps.toList.length = 0 by omega)] at fin
  refine ⟨_, rfl, z, rfl, zs, _, _, rfl, rfl, _, rfl, iteP (fun gt => ?_) (fun le => ?_)⟩
  · exact fin (by rw [decide_eq_true (show 31 < z.cps.toList.length by omega)]; rfl) (Same.refl _)
  rw [decide_eq_false (show ¬ 31 < z.cps.toList.length by omega)] at fin
  refine ⟨_, rfl, z, rfl, fun D hD => ?_⟩
  refine comp_plain (c := fun _ => true) (f := fun v => match v with | .str y => .bl (!dg (y.cps.getD 0 0)) | v => v) plain_str (by rw [List.length_map, zn]; exact small100k zl) hD (fun _ => trivial) (fun v _ ys R r => r) (fun v hv _ ys R r => ?_) ?_
  · obtain ⟨c, _, rfl⟩ := List.mem_map.mp hv
    refine ⟨_, rfl, _, _, rfl, rfl, ?_⟩
    rw [found_dg]
    exact r
  have eD : (((z.cps.toList.map fun c => V.str ⟨#[c]⟩).filter fun _ => true).map fun v => match v with | .str y => V.bl (!dg (y.cps.getD 0 0)) | v => v) = (z.cps.toList.map fun c => !dg c).map V.bl := by
    rw [filter_all, List.map_map, List.map_map]
    rfl
  rw [eD]
  have gD := same_new hD (.lst ((z.cps.toList.map fun c => !dg c).map V.bl))
  refine ⟨D, z.cps.toList.map (fun c => !dg c), rfl, SqL.of upd_same, _, rfl, ?_⟩
  rw [any_not]
  cases ha : z.cps.toList.all (fun c => decide (48 ≤ c ∧ c ≤ 57)) with
  | false => exact iteT (fin (by rw [ha]; rfl) gD)
  | true =>
    rw [ha] at fin
    refine iteF ⟨_, rfl, rfl, _, rfl, ?_⟩
    rw [c_nought]
    by_cases hx0 : x = ⟨#[48]⟩
    · rw [decide_eq_true (congrArg V.str hx0)]
      exact iteT (fin (by rw [hx0]; rfl) gD)
    · rw [decide_eq_false (fun z => hx0 (V.str.inj z))]
      refine iteF ⟨_, rfl, rfl, z, _, rfl, rfl, _, rfl, ?_⟩
      rw [show Txt.startswith z ⟨#[48]⟩ = _ from starts_one z 48]
      exact fin (by rw [decide_eq_false (fun e => hx0 (str_eq e))]; rfl) gD
theorem ok_read_left (T : Txt K mg) : FnOk P w K mg base (CX2 P w) 4 T.f_read_left T.d_read_left ["text"] (spRead K T.a_NoText) := by
  have G_is_whole_text := (ok_is_whole_text (P := P) (w := w) (base := base) T).mono (k := 3) (by decide)
  have G_is_left := ok_is_left (P := P) (w := w) (base := base) T
  refine T.F_read_left.toD.ok2 sc_read_left (fun vs H Q E h => ?_) (fun cdv A outer s H vs Q E hr h => ?_)
  · obtain ⟨v, rfl, _⟩ := h
    rfl
  obtain ⟨v, rfl, h⟩ := h
  refine ⟨_, (qpss_cons (qps_if (qpt_not (qpt_val (qpe_callB call_inst rfl T.z_isinstance bt_isinstance (qpa_cons (hs := star_Name) (qpv 0) (qpa_cons (hs := star_Name) (qpe_bltn (v := .ty "str") rfl T.z_str bt_str rfl) qpa_nil))))) (qpss_one (qps_raise throws_new2 rfl T.m_NoText T.x_NoText rfl (qpa_cons (hs := star_Constant) qpe_str qpa_nil))) qpss_nil)
    (qpss_cons (qps_set (i := 1) sc_read_left.nd rfl (Or.inl rfl) (qpe_bm PySem.F.plainAttrs_str PySem.F.slot_str_split PySem.F.type_str_split mt_split (qpv 0) (qpa_cons (hs := star_Constant) qpe_str qpa_nil)))
    (qpss_cons (qps_if (QW.pt (qpw_or (qpt_cmpR op_lt (qpe_callB call_len_seq rfl T.z_len bt_len (qpa_cons (hs := star_Name) (qpv 1) qpa_nil)) qpe_int (nomark _)) (qpw_or1 (qpt_cmpR op_ne (qpe_ix ix_list (qpv 1) qpe_int (fun _ _ => rfl)) qpe_str (nomark _))))) (qpss_one (qps_raise throws_new2 rfl T.m_NoText T.x_NoText rfl (qpa_cons (hs := star_Constant) qpe_str qpa_nil))) qpss_nil)
    (qpss_cons (qps_set (i := 2) sc_read_left.nd rfl (Or.inl rfl) (qpe_op op_cat (qpe_slice sl_list (qpv 1) qpo_none (qpo_some qpe_int)) (qpe_slice sl_list (qpv 1) (qpo_some qpe_int) qpo_none)))
    (qpss_cons (qps_if (qpt_not (qpt_val (qpe_callB (call_allL rfl) rfl T.z_all bt_all (qpa_cons (hs := star_ListComp) (qpe_comp (caps := []) (idx := []) rfl ⟨rfl, by decide +kernel, rfl, by decide +kernel, rfl, by decide +kernel, rfl, trivial, by decide +kernel, rfl, by decide +kernel⟩ (qpi_list (qpv 2)) (fun _ _ _ _ => qif_none) (fun _ _ _ _ => (qpe_call G_is_whole_text hr rfl T.m_is_whole_text T.k_is_whole_text T.b_is_whole_text .nil pass0 (qpa_cons (hs := star_Name) (qpv 0) qpa_nil)))) qpa_nil)))) (qpss_one (qps_raise throws_new2 rfl T.m_NoText T.x_NoText rfl (qpa_cons (hs := star_Constant) qpe_str qpa_nil))) qpss_nil)
    (qpss_cons (qps_comp (i := 3) (caps := []) (idx := []) rfl sc_read_left.nd rfl rfl ⟨rfl, by decide +kernel, rfl, by decide +kernel, rfl, by decide +kernel, rfl, trivial, by decide +kernel, rfl, by decide +kernel⟩ (qpi_rev rfl T.z_reversed (qpa_cons (hs := star_Subscript) (qpe_slice sl_list (qpv 1) (qpo_some qpe_int) qpo_none) qpa_nil)) (fun _ _ _ _ => qif_none) (fun _ _ _ _ => (qpe_callTy call_int_str rfl T.z_int bt_int (qpa_cons (hs := star_Name) (qpv 0) qpa_nil))))
    (qpss_cons (qps_set (i := 4) sc_read_left.nd rfl (Or.inl rfl) (qpe_tup (qpa_cons (hs := star_Call) (qpe_callTy call_int_str rfl T.z_int bt_int (qpa_cons (hs := star_Subscript) (qpe_ix ix_list (qpv 1) qpe_int (fun _ _ => rfl)) qpa_nil)) (qpa_cons (hs := star_Call) (qpe_callTy call_int_str rfl T.z_int bt_int (qpa_cons (hs := star_Subscript) (qpe_ix ix_list (qpv 1) qpe_int (fun _ _ => rfl)) qpa_nil)) (qpa_cons (hs := star_Call) (qpe_callTy call_tuple_of rfl T.z_tuple bt_tuple (qpa_cons (hs := star_Name) (qpv 3) qpa_nil)) qpa_nil)))))
    (qpss_cons (qps_if (qpt_not (qpt_val (qpe_call G_is_left hr rfl T.m_is_left T.k_is_left T.b_is_left .nil pass0 (qpa_cons (hs := star_Name) (qpv 4) qpa_nil)))) (qpss_one (qps_raise throws_new2 rfl T.m_NoText T.x_NoText rfl (qpa_cons (hs := star_Constant) qpe_str qpa_nil))) qpss_nil)
    (qpss_one (qps_ret (qpv 4))))))))))), ?_⟩
  have s1 : ∀ {x : V}, ([x] : List V).length ≤ sizeLine := small (by show 1 ≤ 1000; decide)
  rcases h with ⟨t, i, b, u, kd, ty, ne, hE⟩ | ⟨x, rfl, xl, hE, q⟩
  · exact ⟨_, rfl, _, _, _, false, rfl, ty, by rw [kd.kit_str, ne], _, rfl, iteT ⟨s1, hE _ (Same.refl _)⟩⟩
  refine ⟨_, rfl, _, _, _, true, rfl, TyOf.str x, Kind.str.kit_str, _, rfl, iteF ?_⟩
  refine ⟨_, rfl, rfl, x, _, rfl, rfl, by decide, Nat.le_of_lt (small9 (by omega)), fun W kW => ?_⟩
  rw [c_blank]
  have wl := split_len x blank (by decide)
  have wm : ∀ w ∈ Txt.split x blank, w.length ≤ 3000 := fun w hw => Nat.le_trans (split_mem hw) xl
  generalize Txt.split x blank = ws at hE q wl wm ⊢
  have g1 := same_new kW (.lst (ws.map V.str))
  have hW : upd H W (.lst (ws.map V.str)) W = some (.lst (ws.map V.str)) := upd_same
  generalize upd H W (.lst (ws.map V.str)) = H1 at g1 hW ⊢
  refine ⟨_, rfl, W, _, rfl, .inl (SqL.of hW), _, _, rfl, rfl, _, rfl, iteL (fun lt => ?_) (fun ge => ?_)⟩
  · rw [List.length_map] at lt
    refine iteT ⟨s1, hE ?_ _ g1⟩
    match ws, lt with
    | [], _ => rfl
    | [_], _ => rfl
    | [_, _], _ => rfl
    | _ :: _ :: _ :: _, lt => simp only [List.length_cons] at lt; omega
  rw [List.length_map] at ge
  match ws, ge with
  | [], ge => exact absurd (by decide) ge
  | [_], ge => exact absurd (by show (1 : Int) < 3; decide) ge
  | [_, _], ge => exact absurd (by show (2 : Int) < 3; decide) ge
  | a :: b :: c :: r, _ =>
  have a2 : atI ((a :: b :: c :: r).map V.str) 2 = some (.str c) := atI_nat (j := 2) rfl
  have a0 : atI ((a :: b :: c :: r).map V.str) 0 = some (.str a) := atI_nat (j := 0) rfl
  have a1 : atI ((a :: b :: c :: r).map V.str) 1 = some (.str b) := atI_nat (j := 1) rfl
  refine ⟨_, rfl, W, _, _, _, rfl, rfl, SqL.of hW, a2, rfl, _, rfl, ?_⟩
  rw [c_colon]
  by_cases hc : c = ⟨#[58]⟩
  rotate_left
  · rw [decide_eq_false (fun z => hc (V.str.inj z))]
    refine iteT ⟨s1, hE ?_ _ g1⟩
    rw [readW_cons, if_neg (fun z => hc z.1)]
  rw [decide_eq_true (congrArg V.str hc)]
  simp only [List.length_cons] at wl
  refine iteF ⟨_, rfl, _, rfl, W, _, rfl, SqL.of hW, fun u1 k1 => ?_⟩
  have ec1 : cutV ((a :: b :: c :: r).map V.str) none (some 2) = [a, b].map V.str := cut_to (by decide)
  have ec2 : cutV ((a :: b :: c :: r).map V.str) (some 3) none = r.map V.str := cut_from (by decide)
  rw [ec1]
  have g2 := same_new k1 (.lst ([a, b].map V.str))
  have hu1 : upd H1 u1 (.lst ([a, b].map V.str)) u1 = some (.lst ([a, b].map V.str)) := upd_same
  have hW := g2 _ _ hW
  generalize upd H1 u1 (.lst ([a, b].map V.str)) = H2 at g2 hW hu1 ⊢
  refine ⟨_, rfl, _, rfl, W, _, rfl, SqL.of hW, fun u2 k2 => ?_⟩
  rw [ec2]
  have g3 := same_new k2 (.lst (r.map V.str))
  have hu2 : upd H2 u2 (.lst (r.map V.str)) u2 = some (.lst (r.map V.str)) := upd_same
  have hW := g3 _ _ hW
  have hu1 := g3 _ _ hu1
  refine ⟨u1, u2, [a, b].map V.str, r.map V.str, rfl, rfl, hu1, hu2, Nat.le_of_lt (small9 (by rw [List.length_map, List.length_map]; show 2 + r.length ≤ _; omega)), fun u3 k3 => ?_⟩
  rw [← List.map_append, show [a, b] ++ r = a :: b :: r from rfl]
  generalize upd H2 u2 (.lst (r.map V.str)) = H3 at g3 hW hu1 hu2 k3 ⊢
  have g4 := same_new k3 (.lst ((a :: b :: r).map V.str))
  have hu3 : upd H3 u3 (.lst ((a :: b :: r).map V.str)) u3 = some (.lst ((a :: b :: r).map V.str)) := upd_same
  have hW := g4 _ _ hW
  generalize upd H3 u3 (.lst ((a :: b :: r).map V.str)) = H4 at g4 hW hu3 ⊢
  have gg := g1.trans (g2.trans (g3.trans g4))
  refine ⟨_, rfl, u3, rfl, ⟨_, SqL.of hu3⟩, fun D hD => ?_⟩
  refine comp_same (f := fun v => match v with | .str y => .bl (isW y.cps.toList) | v => v) plain_list (by rw [List.length_map]; simp only [List.length_cons]; exact small9 (by omega)) hD (fun H' g => SqL.of (g _ _ hu3)) (fun v hv H' R g rr => ?_) (fun H5 g5 hD5 => ?_)
  · obtain ⟨w', hw', rfl⟩ := List.mem_map.mp hv
    refine ⟨_, rfl, w', rfl, ?_, rr⟩
    refine Nat.le_trans (wm w' ?_) (by decide)
    rcases List.mem_cons.mp hw' with rfl | hw'
    · exact List.mem_cons_self
    rcases List.mem_cons.mp hw' with rfl | hw'
    · exact List.mem_cons_of_mem _ List.mem_cons_self
    · exact List.mem_cons_of_mem _ (List.mem_cons_of_mem _ (List.mem_cons_of_mem _ hw'))
  rw [List.map_map] at hD5
  have eb : ((a :: b :: r).map ((fun v => match v with | .str y => V.bl (isW y.cps.toList) | v => v) ∘ V.str)) = ((a :: b :: r).map fun w => isW w.cps.toList).map V.bl := by
    rw [List.map_map]
    rfl
  rw [eb] at hD5
  have hW := g5 _ _ hW
  refine ⟨D, (a :: b :: r).map (fun w => isW w.cps.toList), rfl, SqL.of hD5, _, rfl, ?_⟩
  rw [List.all_map]
  cases hall : (a :: b :: r).all (id ∘ fun w => isW w.cps.toList) with
  | false =>
    refine iteT ⟨s1, hE ?_ _ (gg.trans g5)⟩
    rw [readW_cons, if_neg (fun z => by
      have e : (a :: b :: r).all (id ∘ fun w => isW w.cps.toList) = true := z.2.1
      rw [hall] at e
      cases e)]
  | true =>
  have hall' : ((a :: b :: r).all fun w => isW w.cps.toList) = true := hall
  have each := List.all_eq_true.mp hall'
  have ia := isW_int (each a List.mem_cons_self)
  have ib := isW_int (each b (List.mem_cons_of_mem _ List.mem_cons_self))
  have ir : ∀ w ∈ r, intText? w = some (valW w.cps.toList) ∧ w.length ≤ 640 := fun w hw => isW_int (each w (List.mem_cons_of_mem _ (List.mem_cons_of_mem _ hw)))
  refine iteF ⟨_, rfl, _, rfl, W, _, rfl, SqL.of hW, fun u4 k4 => ?_⟩
  rw [ec2]
  have g6 := same_new k4 (.lst (r.map V.str))
  have hu4 : upd H5 u4 (.lst (r.map V.str)) u4 = some (.lst (r.map V.str)) := upd_same
  have hW := g6 _ _ hW
  refine ⟨u4, r.map V.str, rfl, SqL.of hu4, fun D2 hD2 => ?_⟩
  generalize upd H5 u4 (.lst (r.map V.str)) = H6 at g6 hW hu4 hD2 ⊢
  refine comp_plain (c := fun _ => true) (f := fun v => match v with | .str y => .int (valW y.cps.toList) | v => v) plain_rev (by rw [List.length_reverse, List.length_map]; exact small9 (by omega)) hD2 (fun ys => SqL.of ((same_new hD2 _) _ _ hu4)) (fun v _ ys R r => r) (fun v hv _ ys R rr => ?_) ?_
  · obtain ⟨y, hy, rfl⟩ := List.mem_map.mp (List.mem_reverse.mp hv)
    exact ⟨_, rfl, y, _, rfl, (ir y hy).1, (ir y hy).2, rr⟩
  have eD : ((((r.map V.str).reverse).filter fun _ => true).map fun v => match v with | .str y => V.int (valW y.cps.toList) | v => v) = (r.reverse.map fun w => valW w.cps.toList).map V.int := by
    rw [filter_all, ← List.map_reverse, List.map_map, List.map_map]
    rfl
  rw [eD]
  have g7 := same_new hD2 (.lst ((r.reverse.map fun w => valW w.cps.toList).map V.int))
  have hD2' : upd H6 D2 (.lst ((r.reverse.map fun w => valW w.cps.toList).map V.int)) D2 = some (.lst ((r.reverse.map fun w => valW w.cps.toList).map V.int)) := upd_same
  have hW := g7 _ _ hW
  generalize upd H6 D2 (.lst ((r.reverse.map fun w => valW w.cps.toList).map V.int)) = H7 at g7 hW hD2' ⊢
  have gg := gg.trans (g5.trans (g6.trans g7))
  refine ⟨_, rfl, W, _, _, _, rfl, rfl, SqL.of hW, a0, a, _, rfl, ia.1, ia.2, _, rfl, W, _, _, _, rfl, rfl, SqL.of hW, a1, b, _, rfl, ib.1, ib.2, _, rfl, D2, _, rfl, .inl ⟨SqL.of hD2', fun t1 k1 => ⟨small (by show 3 ≤ 1000; decide), fun t2 k2 => ?_⟩⟩⟩
  have g8 := same_new k1 (.tup ((r.reverse.map fun w => valW w.cps.toList).map V.int))
  have g9 := same_new k2 (.tup [.int (valW a.cps.toList), .int (valW b.cps.toList), .ref t1])
  have gg := gg.trans (g8.trans g9)
  have rl : r.length ≤ 3000 := by omega
  refine ⟨_, rfl, .ref t2, _, rfl, LeftT.full upd_same (Thing.int _) (Thing.int _) (g9 _ _ upd_same) (ints_things _) (by rw [List.length_map, List.length_map, List.length_reverse]; exact rl) rfl, fun H10 g10 => ⟨_, rfl, ?_⟩⟩
  cases hl : leftB (.int (valW a.cps.toList)) (.int (valW b.cps.toList)) ((r.reverse.map fun w => valW w.cps.toList).map V.int) with
  | false =>
    refine iteT ⟨s1, hE ?_ _ (gg.trans g10)⟩
    rw [readW_cons, if_neg (fun z => by rw [hl] at z; cases z.2.2)]
  | true =>
    refine iteF ⟨_, rfl, q _ _ _ ?_ t2 _ (gg.trans g10) ⟨t1, g10 _ _ upd_same, g10 _ _ (g9 _ _ upd_same)⟩⟩
    rw [readW_cons, if_pos ⟨hc, hall', hl⟩]
theorem ok_l_cell_at (T : Txt K mg) : FnOk P w K mg base CX0 1 T.f_l_cell_at T.d_l_cell_at ["_law_script", "_law_k"] (spCell K) := by
  refine T.F_l_cell_at.okq sc_l_cell_at (fun vs H Q E h => ?_) (fun cdv A outer s H vs Q E hr h => ?_)
  · obtain ⟨a, ns, k, rfl, _⟩ := h
    rfl
  obtain ⟨a, ns, k, rfl, hS, q⟩ := h
  refine ⟨_, (qpss_cons (qps_if (qpt_cmpR op_lt (qpv 1) (qpe_callB call_len_seq rfl T.z_len bt_len (qpa_cons (hs := star_Name) (qpv 0) qpa_nil)) (nomark _)) (qpss_one (qps_ret (qpe_ix ix_list (qpv 0) (qpv 1) (fun _ _ => rfl)))) qpss_nil)
    (qpss_one (qps_ret qpe_int))), ?_⟩
  refine ⟨_, rfl, _, rfl, a, _, rfl, .inl hS, _, _, rfl, rfl, _, rfl, ?_⟩
  have hl : (ns.map V.int).length = ns.length := List.length_map _
  refine iteL (fun c => ?_) (fun c => ?_)
  · rw [hl] at c
    exact ⟨_, rfl, _, rfl, a, _, _, _, rfl, rfl, hS, cell_there (by omega), q⟩
  · rw [hl] at c
    rw [cell_none (by omega)] at q
    exact q
theorem e29 : (10 : Int) ^ (29 : Int).toNat = 100000000000000000000000000000 := by decide +kernel
theorem ok_l_place (T : Txt K mg) : FnOk P w K mg base CX0 1 T.f_l_place T.d_l_place ["_law_cell"] spPlaceC := by
  refine T.F_l_place.okq sc_l_place (fun vs H Q E h => ?_) (fun cdv A outer s H vs Q E hr h => ?_)
  · obtain ⟨c, rfl, _⟩ := h
    rfl
  obtain ⟨c, rfl, q⟩ := h
  refine ⟨_, (qpss_cons (qps_if (qpt_cmpR op_eq (qpe_op op_mod (qpv 0) qpe_int) qpe_int (nomark _)) (qpss_one (qps_ret (qpe_op op_sub (qpe_op op_mod (qpe_op op_fdivB (qpv 0) qpe_int) (qpe_op op_add (qpe_op op_mulB qpe_int (qpe_op op_pow qpe_int qpe_int)) qpe_int)) (qpe_op op_pow qpe_int qpe_int)))) qpss_nil)
    (qpss_one (qps_ret (qpe_op op_sub (qpe_op op_mod (qpe_op op_fdivB (qpv 0) qpe_int) qpe_int) qpe_int)))), ?_⟩
  have m2 : CMulB 2 ((10 : Int) ^ (29 : Int).toNat) := by
    rw [e29]
    exact ⟨bd_small (by decide) (by decide) (by decide), LN.Bd.of_abs (b := 100000000000000000000000000000) (by omega) (by omega) (by decide +kernel)⟩
  have pos2 : (0 : Int) < 2 * (10 : Int) ^ (29 : Int).toNat + 1 := by rw [e29]; decide
  refine ⟨_, rfl, _, _, rfl, rfl, (by show (0 : Int) < 3; decide), rfl, _, rfl, iteI (fun _ => ?_) (fun _ => ?_)⟩
  · have k1 := Int.emod_nonneg (c / 3) (show 2 * (10 : Int) ^ (29 : Int).toNat + 1 ≠ 0 by omega)
    have k2 := Int.emod_lt_of_pos (c / 3) pos2
    refine ⟨_, rfl, _, _, rfl, rfl, dsm (by decide) (by decide), _, _, rfl, rfl, ⟨by decide, by decide, by decide⟩, _, _, rfl, rfl, m2, _, _, rfl, rfl, _, _, rfl, rfl, pos2, _, _, rfl, rfl, ⟨by decide, by decide, by decide⟩, _, _, rfl, rfl, q _ ?_ ?_⟩
    · generalize c / 3 % (2 * (10 : Int) ^ (29 : Int).toNat + 1) = c' at *
      rw [e29] at *
      omega
    · generalize c / 3 % (2 * (10 : Int) ^ (29 : Int).toNat + 1) = c' at *
      rw [e29] at *
      omega
  · refine ⟨_, rfl, _, _, rfl, rfl, dsm (by decide) (by decide), _, _, rfl, rfl, (by show (0 : Int) < 81; decide), _, _, rfl, rfl, q _ ?_ ?_⟩
    · omega
    · omega
theorem ok_l_others (T : Txt K mg) : FnOkE P w K mg base 1 T.f_l_others T.d_l_others ["_law_e"] (spOthers T.a_NoText) := by
  refine T.F_l_others.okE sc_l_others (fun ea vs H Q E h => ?_) (fun cdv ea A outer s H vs Q E hr h => ?_)
  · obtain ⟨rfl, _⟩ := h
    rfl
  obtain ⟨rfl, ex, q⟩ := h
  refine ⟨_, (qpss_cons (qps_set (i := 1) sc_l_others.nd rfl (Or.inl rfl) (qpe_lst (qpa_cons (hs := star_Call) (qpe_callB call_instX rfl T.z_isinstance bt_isinstance (qpa_cons (hs := star_Name) (qpv 0) (qpa_cons (hs := star_Name) (qpe_glob (v := .ref T.a_NoPrime) rfl T.m_NoPrime rfl) qpa_nil))) (qpa_cons (hs := star_Call) (qpe_callB call_instX rfl T.z_isinstance bt_isinstance (qpa_cons (hs := star_Name) (qpv 0) (qpa_cons (hs := star_Name) (qpe_glob (v := .ref T.a_NoPlace) rfl T.m_NoPlace rfl) qpa_nil))) (qpa_cons (hs := star_Call) (qpe_callB call_instX rfl T.z_isinstance bt_isinstance (qpa_cons (hs := star_Name) (qpv 0) (qpa_cons (hs := star_Name) (qpe_glob (v := .ref T.a_NoFigures) rfl T.m_NoFigures rfl) qpa_nil))) (qpa_cons (hs := star_Call) (qpe_callB call_instX rfl T.z_isinstance bt_isinstance (qpa_cons (hs := star_Name) (qpv 0) (qpa_cons (hs := star_Name) (qpe_glob (v := .ref T.a_NoFraction) rfl T.m_NoFraction rfl) qpa_nil))) qpa_nil))))))
    (qpss_cons (qps_set (i := 1) sc_l_others.nd rfl (Or.inl rfl) (qpe_op op_cat (qpv 1) (qpe_lst (qpa_cons (hs := star_Call) (qpe_callB call_instX rfl T.z_isinstance bt_isinstance (qpa_cons (hs := star_Name) (qpv 0) (qpa_cons (hs := star_Name) (qpe_glob (v := .ref T.a_Unlike) rfl T.m_Unlike rfl) qpa_nil))) (qpa_cons (hs := star_Call) (qpe_callB call_instX rfl T.z_isinstance bt_isinstance (qpa_cons (hs := star_Name) (qpv 0) (qpa_cons (hs := star_Name) (qpe_glob (v := .ref T.a_NoQuotient) rfl T.m_NoQuotient rfl) qpa_nil))) (qpa_cons (hs := star_Call) (qpe_callB call_instX rfl T.z_isinstance bt_isinstance (qpa_cons (hs := star_Name) (qpv 0) (qpa_cons (hs := star_Name) (qpe_glob (v := .ref T.a_NoPower) rfl T.m_NoPower rfl) qpa_nil))) (qpa_cons (hs := star_Call) (qpe_callB call_instX rfl T.z_isinstance bt_isinstance (qpa_cons (hs := star_Name) (qpv 0) (qpa_cons (hs := star_Name) (qpe_glob (v := .ref T.a_TooFew) rfl T.m_TooFew rfl) qpa_nil))) qpa_nil)))))))
    (qpss_cons (qps_set (i := 1) sc_l_others.nd rfl (Or.inl rfl) (qpe_op op_cat (qpv 1) (qpe_lst (qpa_cons (hs := star_Call) (qpe_callB call_instX rfl T.z_isinstance bt_isinstance (qpa_cons (hs := star_Name) (qpv 0) (qpa_cons (hs := star_Name) (qpe_glob (v := .ref T.a_NoSize) rfl T.m_NoSize rfl) qpa_nil))) (qpa_cons (hs := star_Call) (qpe_callB call_instX rfl T.z_isinstance bt_isinstance (qpa_cons (hs := star_Name) (qpv 0) (qpa_cons (hs := star_Name) (qpe_glob (v := .ref T.a_NoPolynomial) rfl T.m_NoPolynomial rfl) qpa_nil))) (qpa_cons (hs := star_Call) (qpe_callB call_instX rfl T.z_isinstance bt_isinstance (qpa_cons (hs := star_Name) (qpv 0) (qpa_cons (hs := star_Name) (qpe_glob (v := .ref T.a_NoDepth) rfl T.m_NoDepth rfl) qpa_nil))) (qpa_cons (hs := star_Call) (qpe_callB call_instX rfl T.z_isinstance bt_isinstance (qpa_cons (hs := star_Name) (qpv 0) (qpa_cons (hs := star_Name) (qpe_glob (v := .ref T.a_NoRoot) rfl T.m_NoRoot rfl) qpa_nil))) qpa_nil)))))))
    (qpss_one (qps_ret (qpe_or (qpe_callB (call_any2 hr.hd) rfl T.z_any bt_any (qpa_cons (hs := star_Name) (qpv 1) qpa_nil)) (qpe_one (qpe_callB call_instX rfl T.z_isinstance bt_isinstance (qpa_cons (hs := star_Name) (qpv 0) (qpa_cons (hs := star_Name) (qpe_glob (v := .ref T.a_NotNear) rfl T.m_NotNear rfl) qpa_nil)))))))))), ?_⟩
  have Z := T.xc_NoText
  have s4 : ([.bl false, .bl false, .bl false, .bl false] : List V).length ≤ sizeLine := small (by show 4 ≤ 1000; decide)
  refine ⟨_, rfl, ea, _, _, _, _, rfl, rfl, fun _ z => z, ex, Z, T.kt_NoText_NoPrime, _, rfl, ea, _, _, _, _, rfl, rfl, fun _ z => z, ex, Z, T.kt_NoText_NoPlace, _, rfl, ea, _, _, _, _, rfl, rfl, fun _ z => z, ex, Z, T.kt_NoText_NoFigures, _, rfl, ea, _, _, _, _, rfl, rfl, fun _ z => z, ex, Z, T.kt_NoText_NoFraction, s4, fun l1 h1 => ?_⟩
  have g1 := same_new h1 (.lst [.bl false, .bl false, .bl false, .bl false])
  have ex := g1 _ _ ex
  refine ⟨_, rfl, _, rfl, ea, _, _, _, _, rfl, rfl, fun _ z => z, ex, Z, T.kt_NoText_Unlike, _, rfl, ea, _, _, _, _, rfl, rfl, fun _ z => z, ex, Z, T.kt_NoText_NoQuotient, _, rfl, ea, _, _, _, _, rfl, rfl, fun _ z => z, ex, Z, T.kt_NoText_NoPower, _, rfl, ea, _, _, _, _, rfl, rfl, fun _ z => z, ex, Z, T.kt_NoText_TooFew, s4, fun l2 h2 => ?_⟩
  have g2 := same_new h2 (.lst [.bl false, .bl false, .bl false, .bl false])
  have ex := g2 _ _ ex
  refine ⟨l1, l2, _, _, rfl, rfl, g2 _ _ upd_same, upd_same, small (by show 8 ≤ 1000; decide), fun l3 h3 => ?_⟩
  have g3 := same_new h3 (.lst ([.bl false, .bl false, .bl false, .bl false] ++ [.bl false, .bl false, .bl false, .bl false]))
  have ex := g3 _ _ ex
  refine ⟨_, rfl, _, rfl, ea, _, _, _, _, rfl, rfl, fun _ z => z, ex, Z, T.kt_NoText_NoSize, _, rfl, ea, _, _, _, _, rfl, rfl, fun _ z => z, ex, Z, T.kt_NoText_NoPolynomial, _, rfl, ea, _, _, _, _, rfl, rfl, fun _ z => z, ex, Z, T.kt_NoText_NoDepth, _, rfl, ea, _, _, _, _, rfl, rfl, fun _ z => z, ex, Z, T.kt_NoText_NoRoot, s4, fun l4 h4 => ?_⟩
  have g4 := same_new h4 (.lst [.bl false, .bl false, .bl false, .bl false])
  have ex := g4 _ _ ex
  refine ⟨l3, l4, _, _, rfl, rfl, g4 _ _ upd_same, upd_same, small (by show 12 ≤ 1000; decide), fun l5 h5 => ?_⟩
  have g5 := same_new h5 (.lst ([.bl false, .bl false, .bl false, .bl false] ++ [.bl false, .bl false, .bl false, .bl false] ++ [.bl false, .bl false, .bl false, .bl false]))
  have ex := g5 _ _ ex
  refine ⟨_, rfl, l5, [false, false, false, false, false, false, false, false, false, false, false, false], _, rfl, upd_same, ex, _, rfl, iteF ?_⟩
  exact ⟨_, rfl, ea, _, _, _, _, rfl, rfl, fun _ z => z, ex, Z, T.kt_NoText_NotNear, q _ (g1.trans (g2.trans (g3.trans (g4.trans g5))))⟩
theorem ok_l_refused (T : Txt K mg) : FnOk P w K mg base CX0 5 T.f_l_refused T.d_l_refused ["_law_thing"] (spRefused18 K) := by
  have G_read_left := ok_read_left (P := P) (w := w) (base := base) T
  have G_l_others := (ok_l_others (P := P) (w := w) (base := base) T).mono (k := 4) (by decide)
  refine T.F_l_refused.okq sc_l_refused (fun vs H Q E h => ?_) (fun cdv A outer s H vs Q E hr h => ?_)
  · obtain ⟨v, rfl, _⟩ := h
    rfl
  obtain ⟨v, rfl, bad, q⟩ := h
  refine ⟨_, (qpss_cons (qps_set (i := 1) sc_l_refused.nd rfl (Or.inl rfl) qpe_bl)
    (qpss_cons (qps_tryAs (i := 2) G_read_left hr rfl T.m_read_left T.k_read_left T.b_read_left .nil (fun _ => (qpa_cons (hs := star_Name) (qpv 0) qpa_nil)) rfl rfl (fun _ _ z => z) rfl T.m_LeftError T.x_LeftError T.sb_NoText sc_l_refused.nd rfl rfl rfl (fun ea => (qpss_one (qps_set (i := 1) sc_l_refused.nd rfl (Or.inl rfl) (qpe_and (qpe_callB call_instX rfl T.z_isinstance bt_isinstance (qpa_cons (hs := star_Name) (qpv 2) (qpa_cons (hs := star_Name) (qpe_glob (v := .ref T.a_NoText) rfl T.m_NoText rfl) qpa_nil))) (qpe_and (qpe_callB call_instX rfl T.z_isinstance bt_isinstance (qpa_cons (hs := star_Name) (qpv 2) (qpa_cons (hs := star_Name) (qpe_bltn (v := .ty "ValueError") rfl T.z_ValueError bt_ValueError rfl) qpa_nil))) (qpe_one (qpe_not (qpe_callE G_l_others (ea := ea) hr.marked rfl T.m_l_others T.k_l_others T.b_l_others .nil (qpa_cons (hs := star_Name) (qpv 2) qpa_nil))))))))))
    (qpss_one (qps_ret (qpv 1))))), ?_⟩
  have Z := T.xc_NoText
  rcases bad with ⟨t, i, b, u, kd, ty, ne⟩ | ⟨x, rfl, xl, none⟩
  · refine ⟨_, rfl, v, rfl, .inl ⟨t, i, b, u, kd, ty, ne, fun H' g => ⟨rfl, fun ea hea => ?_⟩⟩⟩
    have ex : ExH (upd H' ea (.ext (ExcX ea T.a_NoText))) ea T.a_NoText := upd_same
    refine ⟨_, rfl, ea, _, _, _, _, rfl, rfl, fun _ z => z, ex, Z, T.kt_NoText_NoText, _, rfl, iteT ⟨_, rfl, ea, _, _, _, _, rfl, rfl, fun _ z => z, ex, Z, T.kt_NoText_ValueError, _, rfl, iteT ?_⟩⟩
    refine ⟨_, rfl, rfl, ex, fun H2 g2 => ⟨_, rfl, ?_⟩⟩
    exact ⟨_, rfl, q _⟩
  · refine ⟨_, rfl, _, rfl, .inr ⟨x, rfl, xl, fun _ H' g => ⟨rfl, fun ea hea => ?_⟩, fun p l fs e => by rw [none] at e; cases e⟩⟩
    have ex : ExH (upd H' ea (.ext (ExcX ea T.a_NoText))) ea T.a_NoText := upd_same
    refine ⟨_, rfl, ea, _, _, _, _, rfl, rfl, fun _ z => z, ex, Z, T.kt_NoText_NoText, _, rfl, iteT ⟨_, rfl, ea, _, _, _, _, rfl, rfl, fun _ z => z, ex, Z, T.kt_NoText_ValueError, _, rfl, iteT ?_⟩⟩
    refine ⟨_, rfl, rfl, ex, fun H2 g2 => ⟨_, rfl, ?_⟩⟩
    exact ⟨_, rfl, q _⟩
theorem ok_l_primes (T : Txt K mg) : FnOk P w K mg base CX0 1 T.f_l_primes T.d_l_primes [] spPrimes18 := by
  refine T.F_l_primes.okq sc_l_primes (fun vs H Q E h => ?_) (fun cdv A outer s H vs Q E hr h => ?_)
  · obtain ⟨rfl, _⟩ := h
    rfl
  obtain ⟨rfl, q⟩ := h
  refine ⟨_, (qpss_one (qps_ret (qpe_lst (qpa_cons (hs := star_Constant) qpe_int (qpa_cons (hs := star_Constant) qpe_int (qpa_cons (hs := star_Constant) qpe_int (qpa_cons (hs := star_Constant) qpe_int (qpa_cons (hs := star_Constant) qpe_int (qpa_cons (hs := star_Constant) qpe_int (qpa_cons (hs := star_Constant) qpe_int (qpa_cons (hs := star_Constant) qpe_int (qpa_cons (hs := star_Constant) qpe_int (qpa_cons (hs := star_Constant) qpe_int (qpa_cons (hs := star_Constant) qpe_int (qpa_cons (hs := star_Constant) qpe_int (qpa_cons (hs := star_Constant) qpe_int (qpa_cons (hs := star_Constant) qpe_int (qpa_cons (hs := star_Constant) qpe_int (qpa_cons (hs := star_Constant) qpe_int (qpa_cons (hs := star_Constant) qpe_int (qpa_cons (hs := star_Constant) qpe_int (qpa_cons (hs := star_Constant) qpe_int (qpa_cons (hs := star_Constant) qpe_int (qpa_cons (hs := star_Constant) qpe_int (qpa_cons (hs := star_Constant) qpe_int (qpa_cons (hs := star_Constant) qpe_int (qpa_cons (hs := star_Constant) qpe_int (qpa_cons (hs := star_Constant) qpe_int qpa_nil)))))))))))))))))))))))))))), ?_⟩
  exact ⟨small (by show 25 ≤ 1000; decide), fun l hl => q l hl⟩
theorem ok_l_text (T : Txt K mg) : FnOk P w K mg base CX0 1 T.f_l_text T.d_l_text ["_law_p", "_law_least", "_law_figures"] spText18 := by
  refine T.F_l_text.okq sc_l_text (fun vs H Q E h => ?_) (fun cdv A outer s H vs Q E hr h => ?_)
  · obtain ⟨p, l, a, fs, rfl, _⟩ := h
    rfl
  obtain ⟨p, l, a, fs, rfl, p2, p97, l1, l2, hf, ff, fl, q⟩ := h
  refine ⟨_, (qpss_cons (qps_set (i := 3) sc_l_text.nd rfl (Or.inl rfl) (qpe_op op_add_str (qpe_op op_add_str (qpe_op op_add_str (qpe_callTy call_str_int rfl T.z_str bt_str (qpa_cons (hs := star_Name) (qpv 0) qpa_nil)) qpe_str) (qpe_callTy call_str_int rfl T.z_str bt_str (qpa_cons (hs := star_Name) (qpv 1) qpa_nil))) qpe_str))
    (qpss_cons (qps_for PassesOwn.never rfl (qpi_rev rfl T.z_reversed (qpa_cons (hs := star_Name) (qpv 2) qpa_nil)) (qpg_name (i := 4) sc_l_text.nd rfl (Or.inl rfl)) (qpss_one (qps_set (i := 3) sc_l_text.nd rfl (Or.inl rfl) (qpe_op op_add_str (qpe_op op_add_str (qpv 3) qpe_str) (qpe_callTy call_str_int rfl T.z_str bt_str (qpa_cons (hs := star_Name) (qpv 4) qpa_nil))))))
    (qpss_one (qps_ret (qpv 3))))), ?_⟩
  have lg : ∀ {i : Int}, -(10 ^ 31) < i → i < 10 ^ 31 → i.natAbs.log2 < 1920 := fun {i} x y => by
    rcases Nat.eq_zero_or_pos i.natAbs with z | z
    · rw [z]; decide
    · exact Nat.lt_of_le_of_lt (Nat.log2_lt (by omega) |>.mpr (show i.natAbs < 2 ^ 104 by omega) |> Nat.le_of_lt) (by decide)
  have tp := tx_len2 (i := p) (by omega) (by omega)
  have tl := tx_len l1 l2
  have sm : ∀ {n : Nat}, n ≤ 8000 → n ≤ sizeLine := fun h => Nat.le_of_lt (small9 h)
  have cb' : blank.length = 1 := rfl
  have cb : (Str.ofString " ").length = 1 := by rw [c_blank]; rfl
  have cc : (Str.ofString " :").length = 2 := by rw [c_bcolon]; rfl
  refine ⟨_, rfl, p, rfl, lg (by omega) (by omega), tx p, _, rfl, rfl, sm (by rw [cb]; omega), _, rfl, l, rfl, lg l1 l2, _, tx l, rfl, rfl, sm (by rw [Str.length_append, cb]; omega), _, _, rfl, rfl, sm (by rw [Str.length_append, Str.length_append, cb, cc]; omega), ?_⟩
  rw [c_blank, c_bcolon, words_first]
  have wl : ∀ gs : List Int, (∀ f ∈ gs, f ∈ fs) → gs.length ≤ fs.length → (Str.join blank (wordsL p l gs)).length ≤ 400 := fun gs hg hn => by
    have := words_len (p := p) (fs := gs) (by omega) (by omega) l1 l2 (fun f h => ff f (hg f h))
    omega
  refine ⟨_, rfl, a, _, rfl, SqL.of hf, ?_⟩
  refine for_revN (fun i σ H' => H' = H ∧ ∃ v5 : Option V, σ = [some (.int p), some (.int l), some (.ref a), some (.str (Str.join blank (wordsL p l (fs.drop (fs.length - i))))), v5]) ⟨rfl, none, by rw [Nat.sub_zero, List.drop_length]; rfl⟩ (fun i σ H' _ z => by rw [z.1]; exact SqL.of hf) ?_ ?_
  · rintro i x σ H' hx hi ⟨rfl, v5, rfl⟩
    rw [List.length_map] at hx hi
    rw [List.getElem?_map] at hx
    cases hfi : fs[fs.length - 1 - i]? with
    | none => rw [hfi] at hx; cases hx
    | some fi =>
      rw [hfi] at hx
      cases hx
      have fb := ff fi (List.mem_of_getElem? hfi)
      have tf := tx_len2 (i := fi) (by omega) (by omega)
      have w1 := wl (fs.drop (fs.length - i)) (fun f h => List.mem_of_mem_drop h) (by rw [List.length_drop]; omega)
      refine ⟨_, rfl, _, _, rfl, rfl, sm (by rw [cb']; omega), _, rfl, fi, rfl, lg (by omega) (by omega), _, tx fi, rfl, rfl, sm (by rw [Str.length_append, cb']; omega), rfl, some (.int fi), ?_⟩
      rw [words_grow (f := fi) (fs := fs.drop (fs.length - i)) (gs := fs.drop (fs.length - (i + 1))) ?_]
      · rfl
      · have e : fs.length - (i + 1) = fs.length - 1 - i := by omega
        obtain ⟨hlt, hget⟩ := List.getElem?_eq_some_iff.mp hfi
        rw [e, List.drop_eq_getElem_cons hlt, hget, show fs.length - 1 - i + 1 = fs.length - i by omega]
  rintro σ H' ⟨rfl, v5, rfl⟩
  rw [List.length_map, Nat.sub_self, List.drop_zero]
  exact ⟨_, rfl, q _ (wl fs (fun _ h => h) (Nat.le_refl _))⟩
theorem ok_l_spoiled (T : Txt K mg) : FnOk P w K mg base CX0 1 T.f_l_spoiled T.d_l_spoiled ["_law_text_here", "_law_cell", "_law_more"] spSpoil18 := by
  refine T.F_l_spoiled.okq sc_l_spoiled (fun vs H Q E h => ?_) (fun cdv A outer s H vs Q E hr h => ?_)
  · obtain ⟨x, c, m, rfl, _⟩ := h
    rfl
  obtain ⟨x, c, m, rfl, xl, q⟩ := h
  refine ⟨_, (qpss_cons (qps_set (i := 3) sc_l_spoiled.nd rfl (Or.inl rfl) (qpe_lst (qpa_cons (hs := star_Constant) qpe_str (qpa_cons (hs := star_Constant) qpe_str (qpa_cons (hs := star_Constant) qpe_str (qpa_cons (hs := star_Constant) qpe_str (qpa_cons (hs := star_Constant) qpe_str (qpa_cons (hs := star_Constant) qpe_str (qpa_cons (hs := star_Constant) qpe_str (qpa_cons (hs := star_Constant) qpe_str (qpa_cons (hs := star_Constant) qpe_str (qpa_cons (hs := star_Constant) qpe_str (qpa_cons (hs := star_Constant) qpe_str (qpa_cons (hs := star_Constant) qpe_str (qpa_cons (hs := star_Constant) qpe_str (qpa_cons (hs := star_Constant) qpe_str (qpa_cons (hs := star_Constant) qpe_str (qpa_cons (hs := star_Constant) qpe_str (qpa_cons (hs := star_Constant) qpe_str (qpa_cons (hs := star_Constant) qpe_str (qpa_cons (hs := star_Constant) qpe_str (qpa_cons (hs := star_Constant) qpe_str qpa_nil))))))))))))))))))))))
    (qpss_cons (qps_set (i := 3) sc_l_spoiled.nd rfl (Or.inl rfl) (qpe_op op_cat (qpv 3) (qpe_lst (qpa_cons (hs := star_Constant) qpe_str (qpa_cons (hs := star_Constant) qpe_str (qpa_cons (hs := star_Constant) qpe_str qpa_nil))))))
    (qpss_cons (qps_set (i := 4) sc_l_spoiled.nd rfl (Or.inl rfl) (qpe_ix ix_list (qpv 3) (qpe_op op_mod (qpv 2) qpe_int) (fun _ _ => rfl)))
    (qpss_cons (qps_set (i := 5) sc_l_spoiled.nd rfl (Or.inl rfl) (qpe_op op_mod (qpe_op op_fdivB (qpv 1) qpe_int) (qpe_op op_add (qpe_callB call_len_str rfl T.z_len bt_len (qpa_cons (hs := star_Name) (qpv 0) qpa_nil)) qpe_int)))
    (qpss_cons (qps_if (qpt_cmpR op_eq (qpe_op op_mod (qpv 1) qpe_int) qpe_int (nomark _)) (qpss_one (qps_ret (qpe_op op_add_str (qpe_op op_add_str (qpe_slice sl_str (qpv 0) qpo_none (qpo_some (qpv 5))) (qpv 4)) (qpe_slice sl_str (qpv 0) (qpo_some (qpv 5)) qpo_none)))) qpss_nil)
    (qpss_cons (qps_if (qpt_cmpR op_eq (qpe_op op_mod (qpv 1) qpe_int) qpe_int (nomark _)) (qpss_one (qps_ret (qpe_op op_add_str (qpe_slice sl_str (qpv 0) qpo_none (qpo_some (qpv 5))) (qpe_slice sl_str (qpv 0) (qpo_some (qpe_op op_add (qpv 5) qpe_int)) qpo_none)))) qpss_nil)
    (qpss_cons (qps_if (qpt_cmpR op_eq (qpe_op op_mod (qpv 1) qpe_int) qpe_int (nomark _)) (qpss_one (qps_ret (qpe_op op_add_str (qpe_op op_add_str (qpe_slice sl_str (qpv 0) qpo_none (qpo_some (qpv 5))) (qpv 4)) (qpe_slice sl_str (qpv 0) (qpo_some (qpe_op op_add (qpv 5) qpe_int)) qpo_none)))) qpss_nil)
    (qpss_cons (qps_set (i := 6) sc_l_spoiled.nd rfl (Or.inl rfl) (qpe_bm PySem.F.plainAttrs_str PySem.F.slot_str_split PySem.F.type_str_split mt_split (qpv 0) (qpa_cons (hs := star_Constant) qpe_str qpa_nil)))
    (qpss_cons (qps_set (i := 7) sc_l_spoiled.nd rfl (Or.inl rfl) (qpe_lst (qpa_cons (hs := star_Constant) qpe_str (qpa_cons (hs := star_Constant) qpe_str (qpa_cons (hs := star_Constant) qpe_str (qpa_cons (hs := star_Constant) qpe_str (qpa_cons (hs := star_Constant) qpe_str (qpa_cons (hs := star_Constant) qpe_str (qpa_cons (hs := star_Constant) qpe_str (qpa_cons (hs := star_Constant) qpe_str (qpa_cons (hs := star_Constant) qpe_str (qpa_cons (hs := star_Constant) qpe_str (qpa_cons (hs := star_Constant) qpe_str (qpa_cons (hs := star_Constant) qpe_str (qpa_cons (hs := star_BinOp) (qpe_op op_add_str qpe_str (qpe_op op_rep_str qpe_str qpe_int)) (qpa_cons (hs := star_BinOp) (qpe_op op_add_str qpe_str (qpe_op op_rep_str qpe_str qpe_int)) qpa_nil))))))))))))))))
    (qpss_cons (qps_asg (qpe_ix ix_list (qpv 7) (qpe_op op_mod (qpv 2) qpe_int) (fun _ _ => rfl)) (qpg_sub (qpv 6) (qpe_op op_mod (qpv 5) (qpe_callB call_len_seq rfl T.z_len bt_len (qpa_cons (hs := star_Name) (qpv 6) qpa_nil))) set_list))
    (qpss_one (qps_ret (qpe_bm PySem.F.plainAttrs_str PySem.F.slot_str_join PySem.F.type_str_join mt_join qpe_str (qpa_cons (hs := star_Name) (qpv 6) qpa_nil)))))))))))))), ?_⟩
  have sm : ∀ {n : Nat}, n ≤ 8000 → n ≤ sizeLine := fun h => Nat.le_of_lt (small9 h)
  have xs : x.length ≤ sizeLine := sm (by omega)
  refine ⟨small (by show 20 ≤ 1000; decide), fun u1 k1 => ?_⟩
  refine ⟨_, rfl, small (by show 3 ≤ 1000; decide), fun u2 k2 => ⟨u1, u2, _, _, rfl, rfl, (same_new k2 _) _ _ upd_same, upd_same, small (by show 23 ≤ 1000; decide), fun u3 k3 => ?_⟩⟩
  obtain ⟨sg, hsg, sl⟩ := at_str (xs := signs18) (i := m % 23) 2 (by decide +kernel) (Int.emod_nonneg _ (by decide)) (Int.emod_lt_of_pos _ (by decide))
  refine ⟨_, rfl, _, rfl, _, _, rfl, rfl, (by show (0 : Int) < 23; decide), u3, _, _, .str sg, rfl, rfl, SqL.of upd_same, hsg, ?_⟩
  have lp : (0 : Int) < (x.length : Int) + 1 := by omega
  refine ⟨_, rfl, _, _, rfl, rfl, dsm (by decide) (by decide), _, rfl, x, rfl, xs, _, _, rfl, rfl, _, _, rfl, rfl, lp, ?_⟩
  have t0 := Int.emod_nonneg (c / 4) (show (x.length : Int) + 1 ≠ 0 by omega)
  have sle : ∀ (lo hi : Option Int), (Txt.slice x lo hi).length ≤ x.length := fun lo hi => Txt.slice_le x lo hi
  dsimp only [gName]
  generalize c / 4 % ((x.length : Int) + 1) = t at t0 ⊢
  have c2 : ∀ {a b : Option Int}, ((Txt.slice x none a) ++ sg).length + (Txt.slice x b none).length ≤ 2 * x.length + 100 := fun {a b} => by
    have := sle none a
    have := sle b none
    rw [Str.length_append]
    omega
  refine ⟨_, rfl, _, _, rfl, rfl, (by show (0 : Int) < 4; decide), rfl, _, rfl, iteI (fun _ => ?_) (fun _ => ?_)⟩
  · refine ⟨_, rfl, _, rfl, _, rfl, x, rfl, xs, _, rfl, _, _, rfl, rfl, sm (by have := sle none (some t); omega), _, rfl, _, rfl, _, rfl, x, rfl, xs, _, _, rfl, rfl, sm (Nat.le_trans c2 (by omega)), ?_⟩
    exact q _ _ ((same_new k1 _).trans ((same_new k2 _).trans (same_new k3 _))) (by rw [Str.length_append]; exact c2)
  refine ⟨_, rfl, _, _, rfl, rfl, (by show (0 : Int) < 4; decide), rfl, _, rfl, iteI (fun _ => ?_) (fun _ => ?_)⟩
  · refine ⟨_, rfl, _, rfl, _, rfl, x, rfl, xs, _, rfl, _, rfl, _, _, rfl, rfl, _, rfl, x, rfl, xs, _, _, rfl, rfl, sm (by have := sle none (some t); have := sle (some (t + 1)) none; omega), ?_⟩
    exact q _ _ ((same_new k1 _).trans ((same_new k2 _).trans (same_new k3 _))) (by rw [Str.length_append]; have := sle none (some t); have := sle (some (t + 1)) none; omega)
  refine ⟨_, rfl, _, _, rfl, rfl, (by show (0 : Int) < 4; decide), rfl, _, rfl, iteI (fun _ => ?_) (fun _ => ?_)⟩
  · refine ⟨_, rfl, _, rfl, _, rfl, x, rfl, xs, _, rfl, _, _, rfl, rfl, sm (by have := sle none (some t); omega), _, rfl, _, rfl, _, _, rfl, rfl, _, rfl, x, rfl, xs, _, _, rfl, rfl, sm (Nat.le_trans c2 (by omega)), ?_⟩
    exact q _ _ ((same_new k1 _).trans ((same_new k2 _).trans (same_new k3 _))) (by rw [Str.length_append]; exact c2)
  refine ⟨_, rfl, rfl, x, _, rfl, rfl, by decide, sm (by omega), fun W kW => ?_⟩
  rw [c_blank]
  have wl := split_len x blank (by decide)
  have wn := split_ne x blank
  have mo : ∀ {k : Int}, k = 30 ∨ k = 31 → MulOk (Str.ofString "0") k := fun h => by
    rcases h with rfl | rfl
    · exact ⟨by decide, fun _ _ => by decide +kernel, fun _ _ => by decide +kernel⟩
    · exact ⟨by decide, fun _ _ => by decide +kernel, fun _ _ => by decide +kernel⟩
  refine ⟨_, _, rfl, rfl, mo (.inl rfl), _, _, rfl, rfl, by decide +kernel, _, _, rfl, rfl, mo (.inr rfl), _, _, rfl, rfl, by decide +kernel, small (by show 14 ≤ 1000; decide), fun u5 k5 => ?_⟩
  obtain ⟨wd, hwd, wdl⟩ := at_str (xs := words18) (i := m % 14) 32 (by decide +kernel) (Int.emod_nonneg _ (by decide)) (Int.emod_lt_of_pos _ (by decide))
  have hl : 0 < (Txt.split x blank).length := List.length_pos_iff.mpr wn
  have lp2 : (0 : Int) < (((Txt.split x blank).map V.str).length : Int) := by rw [List.length_map]; omega
  have i0 := Int.emod_nonneg t (show (((Txt.split x blank).map V.str).length : Int) ≠ 0 by omega)
  have i1 := Int.emod_lt_of_pos t lp2
  obtain ⟨i, hi⟩ : ∃ i : Nat, t % (((Txt.split x blank).map V.str).length : Int) = (i : Int) := ⟨_, (Int.toNat_of_nonneg i0).symm⟩
  refine ⟨_, rfl, _, rfl, _, _, rfl, rfl, (by show (0 : Int) < 14; decide), u5, _, _, .str wd, rfl, rfl, SqL.of upd_same, hwd, ?_⟩
  refine ⟨_, rfl, _, rfl, _, rfl, W, _, rfl, .inl (SqL.of ((same_new k5 _) _ _ upd_same)), _, _, rfl, rfl, lp2, W, _, _, i, rfl, rfl, (same_new k5 _) _ _ upd_same, by rw [hi]; exact ix_nat (by omega), ?_⟩
  have es : ((Txt.split x blank).map V.str).set i (.str wd) = ((Txt.split x blank).set i wd).map V.str := (List.map_set ..).symm
  rw [es]
  have ow := other_word (x := x) (w := wd) (i := i)
  have ok : JoinOk blank ((Txt.split x blank).set i wd) = true := by
    unfold JoinOk
    rw [StrLaws.joinFits (B := 1000) (fun y hy => ?_) (by rw [List.length_set, show blank.length = 1 from rfl]; omega)]
    · rfl
    · rcases List.mem_or_eq_of_mem_set hy with h | h
      · exact Nat.le_trans (split_mem h) xl
      · rw [h]; omega
  refine ⟨rfl, _, rfl, _, W, (Txt.split x blank).set i wd, rfl, rfl, SqL.of upd_same, by first | exact ok | (rw [c_blank]; exact ok), ?_⟩
  have fin := fun H' (g : Same H H') => q (Str.join blank ((Txt.split x blank).set i wd)) H' g (by omega)
  simp only [← StrLaws.glued_eq_join] at fin
  first | exact fin _ ((same_new k1 _).trans ((same_new k2 _).trans ((same_new k3 _).trans (same_upd kW ((same_new kW _).trans (same_new k5 _)))))) | (rw [c_blank]; exact fin _ ((same_new k1 _).trans ((same_new k2 _).trans ((same_new k3 _).trans (same_upd kW ((same_new kW _).trans (same_new k5 _)))))))
theorem ok_l_is_number (T : Txt K mg) : FnOk P w K mg base CX0 1 T.f_l_is_number T.d_l_is_number ["_law_word"] spWT := by
  refine T.F_l_is_number.okq sc_l_is_number (fun vs H Q E h => ?_) (fun cdv A outer s H vs Q E hr h => ?_)
  · obtain ⟨x, rfl, _⟩ := h
    rfl
  obtain ⟨x, rfl, hx, q⟩ := h
  refine ⟨_, (qpss_cons (qps_set (i := 1) sc_l_is_number.nd rfl (Or.inl rfl) (qpv 0))
    (qpss_cons (qps_if (qpt_cmpR op_eq (qpe_slice sl_str (qpv 0) qpo_none (qpo_some qpe_int)) qpe_str (nomark _)) (qpss_one (qps_set (i := 1) sc_l_is_number.nd rfl (Or.inl rfl) (qpe_slice sl_str (qpv 0) (qpo_some qpe_int) qpo_none))) qpss_nil)
    (qpss_cons (qps_if (QW.pt (qpw_or (qpt_cmpR op_eq (qpv 1) qpe_str (nomark _)) (qpw_or (qpt_cmpR op_gt (qpe_callB call_len_str rfl T.z_len bt_len (qpa_cons (hs := star_Name) (qpv 1) qpa_nil)) qpe_int (nomark _)) (qpw_or1 (qpt_not (qpt_val (qpe_callB (call_allL rfl) rfl T.z_all bt_all (qpa_cons (hs := star_ListComp) (qpe_comp (caps := []) (idx := []) rfl ⟨rfl, by decide +kernel, rfl, by decide +kernel, rfl, by decide +kernel, rfl, trivial, by decide +kernel, rfl, by decide +kernel⟩ (qpi_str (qpv 1)) (fun _ _ _ _ => qif_none) (fun _ _ _ _ => (qpe_cmpR op_in_str (qpv 0) qpe_str (by rfl)))) qpa_nil)))))))) (qpss_one (qps_ret qpe_bl)) qpss_nil)
    (qpss_one (qps_ret (qpe_or (qpe_cmpR op_ne (qpe_ix ix_str (qpv 1) qpe_int (fun _ _ => rfl)) qpe_str (nomark _)) (qpe_one (qpe_cmpR op_eq (qpv 0) qpe_str (nomark _))))))))), ?_⟩
  have ln := len_list x
  have xs : x.length ≤ sizeLine := Nat.le_of_lt (small100k hx)
  refine ⟨_, rfl, ?_⟩
  try dsimp only [gName]
  refine seq_of (fun σ H' => H' = H ∧ ∃ z : Str, σ = [some (.str x), some (.str z)] ∧ z.cps.toList = figsOf x.cps.toList ∧ z.length ≤ 100000) ?_ (fun nx tail => ?_)
  rotate_left
  · refine ⟨_, rfl, _, rfl, x, rfl, xs, rfl, _, rfl, ?_⟩
    rw [c_minus, first_one]
    by_cases hd : x.cps.toList.head? = some 45
    · rw [decide_eq_true hd]
      have h1 : 1 ≤ x.length := by
        rw [← ln]
        cases hx' : x.cps.toList with
        | nil => rw [hx'] at hd; cases hd
        | cons c cs => exact Nat.succ_pos _
      have st := slice_tail h1
      refine iteT ⟨_, rfl, _, rfl, x, rfl, xs, tail _ _ ⟨rfl, _, rfl, ?_, ?_⟩⟩
      · rw [st]
        unfold figsOf
        rw [if_pos hd]
      · rw [← len_list, st, List.length_tail]
        omega
    · rw [decide_eq_false hd]
      exact iteF (tail _ _ ⟨rfl, x, rfl, by unfold figsOf; rw [if_neg hd], hx⟩)
  rintro σ H' ⟨rfl, z, rfl, hz, zl⟩
  have zn := len_list z
  have zs : z.length ≤ sizeLine := Nat.le_of_lt (small100k zl)
  have eq1 : isW x.cps.toList = (!decide (z.cps.toList.length = 0) && !decide (31 < z.cps.toList.length) && z.cps.toList.all (fun c => decide (48 ≤ c ∧ c ≤ 57)) && (decide (x.cps.toList = [48]) || !decide (z.cps.toList.head? = some 48))) := by
    unfold isW
    rw [hz]
  rw [eq1] at q
  have fin : ∀ {b : Bool} {H1 : Hp}, (!decide (z.cps.toList.length = 0) && !decide (31 < z.cps.toList.length) && z.cps.toList.all (fun c => decide (48 ≤ c ∧ c ≤ 57)) && (decide (x.cps.toList = [48]) || !decide (z.cps.toList.head? = some 48))) = b → Same H' H1 → Q (.bl b) H1 := fun e g => by
    have := q _ g
    rwa [e] at this
  refine ⟨_, rfl, rfl, _, rfl, ?_⟩
  rw [empty_iff]
  by_cases e0 : z.cps.toList.length = 0
  · rw [decide_eq_true e0]
    exact iteT (iteT (fin (by rw [decide_eq_true e0]; rfl) (Same.refl _)))
  rw [decide_eq_false e0] at fin ⊢
  refine iteF ⟨_, rfl, z, rfl, zs, _, _, rfl, rfl, _, rfl, iteP (fun gt => ?_) (fun le => ?_)⟩
  · exact iteT (fin (by rw [decide_eq_true (show 31 < z.cps.toList.length by omega)]; rfl) (Same.refl _))
  rw [decide_eq_false (show ¬ 31 < z.cps.toList.length by omega)] at fin
  refine ⟨_, rfl, z, rfl, fun D hD => ?_⟩
  refine comp_plain (c := fun _ => true) (f := fun v => match v with | .str y => .bl (dg (y.cps.getD 0 0)) | v => v) plain_str (by rw [List.length_map, zn]; exact small100k zl) hD (fun _ => trivial) (fun v _ ys R r => r) (fun v hv _ ys R r => ?_) ?_
  · obtain ⟨c, _, rfl⟩ := List.mem_map.mp hv
    refine ⟨_, rfl, _, _, rfl, rfl, ?_⟩
    rw [c_digits, found_dg]
    exact r
  have eD : (((z.cps.toList.map fun c => V.str ⟨#[c]⟩).filter fun _ => true).map fun v => match v with | .str y => V.bl (dg (y.cps.getD 0 0)) | v => v) = (z.cps.toList.map dg).map V.bl := by
    rw [filter_all, List.map_map, List.map_map]
    rfl
  rw [eD]
  have gD := same_new hD (.lst ((z.cps.toList.map dg).map V.bl))
  refine ⟨D, z.cps.toList.map dg, rfl, SqL.of upd_same, _, rfl, ?_⟩
  have ea : (z.cps.toList.map dg).all id = z.cps.toList.all (fun c => decide (48 ≤ c ∧ c ≤ 57)) := by
    rw [List.all_map]
    rfl
  rw [ea]
  cases ha : z.cps.toList.all (fun c => decide (48 ≤ c ∧ c ≤ 57)) with
  | false => exact iteT (fin (by rw [ha]; rfl) gD)
  | true =>
    rw [ha] at fin
    obtain ⟨c, cs, hz0⟩ : ∃ c cs, z.cps.toList = c :: cs := by
      cases hz0 : z.cps.toList with
      | nil => exact absurd (by rw [hz0]; rfl) e0
      | cons c cs => exact ⟨c, cs, rfl⟩
    refine iteF ⟨_, rfl, z, 0, c, rfl, rfl, zs, by rw [hz0]; exact atI_nat (j := 0) rfl, rfl, _, rfl, ?_⟩
    rw [c_nought]
    rw [show z.cps.toList.head? = (c :: cs).head? by rw [hz0]] at fin
    by_cases hc : c = 48
    · subst hc
      rw [decide_eq_true (show V.str ⟨#[48]⟩ = V.str ⟨#[48]⟩ from rfl)]
      refine iteF ⟨_, rfl, rfl, ?_⟩
      refine fin ?_ gD
      rw [Bool.eq_iff_iff]
      simp only [List.head?_cons, decide_true, Bool.not_true, Bool.or_false, Bool.not_false, Bool.true_and, decide_eq_true_eq]
      exact ⟨fun e => congrArg V.str (str_eq e), fun e => by rw [V.str.inj e]⟩
    · rw [decide_eq_false (show ¬ V.str ⟨#[c]⟩ = V.str ⟨#[48]⟩ from fun e => hc (by have := congrArg (fun s : Str => s.cps.toList) (V.str.inj e); exact (List.cons.inj this).1))]
      refine iteT (fin ?_ gD)
      rw [decide_eq_false (show ¬ (c :: cs).head? = some 48 from fun e => hc (Option.some.inj e))]
      simp
theorem ok_l_due (T : Txt K mg) : FnOk P w K mg base CX0 2 T.f_l_due T.d_l_due ["_law_text_here"] (spDue18 K) := by
  have G_l_is_number := ok_l_is_number (P := P) (w := w) (base := base) T
  have G_l_primes := ok_l_primes (P := P) (w := w) (base := base) T
  refine T.F_l_due.okq sc_l_due (fun vs H Q E h => ?_) (fun cdv A outer s H vs Q E hr h => ?_)
  · obtain ⟨x, rfl, _⟩ := h
    rfl
  obtain ⟨x, rfl, xl, hN, q⟩ := h
  refine ⟨_, (qpss_cons (qps_set (i := 1) sc_l_due.nd rfl (Or.inl rfl) (qpe_bm PySem.F.plainAttrs_str PySem.F.slot_str_split PySem.F.type_str_split mt_split (qpv 0) (qpa_cons (hs := star_Constant) qpe_str qpa_nil)))
    (qpss_cons (qps_if (QW.pt (qpw_or (qpt_cmpR op_lt (qpe_callB call_len_seq rfl T.z_len bt_len (qpa_cons (hs := star_Name) (qpv 1) qpa_nil)) qpe_int (nomark _)) (qpw_or (qpt_cmpR op_ne (qpe_ix ix_list (qpv 1) qpe_int (fun _ _ => rfl)) qpe_str (nomark _)) (qpw_or1 (qpt_not (qpt_val (qpe_callB (call_allL rfl) rfl T.z_all bt_all (qpa_cons (hs := star_ListComp) (qpe_comp (caps := []) (idx := []) rfl ⟨rfl, by decide +kernel, rfl, by decide +kernel, rfl, by decide +kernel, rfl, trivial, by decide +kernel, rfl, by decide +kernel⟩ (qpi_list (qpe_op op_cat (qpe_slice sl_list (qpv 1) qpo_none (qpo_some qpe_int)) (qpe_slice sl_list (qpv 1) (qpo_some qpe_int) qpo_none))) (fun _ _ _ _ => qif_none) (fun _ _ _ _ => (qpe_call G_l_is_number hr rfl T.m_l_is_number T.k_l_is_number T.b_l_is_number .nil pass0 (qpa_cons (hs := star_Name) (qpv 0) qpa_nil)))) qpa_nil)))))))) (qpss_one (qps_ret qpe_non)) qpss_nil)
    (qpss_cons (qps_set (i := 2) sc_l_due.nd rfl (Or.inr rfl) (qpe_callTy call_int_str rfl T.z_int bt_int (qpa_cons (hs := star_Subscript) (qpe_ix ix_list (qpv 1) qpe_int (fun _ _ => rfl)) qpa_nil)))
    (qpss_cons (qps_comp (i := 3) (caps := []) (idx := []) rfl sc_l_due.nd rfl rfl ⟨rfl, by decide +kernel, rfl, by decide +kernel, rfl, by decide +kernel, rfl, trivial, by decide +kernel, rfl, by decide +kernel⟩ (qpi_rev rfl T.z_reversed (qpa_cons (hs := star_Subscript) (qpe_slice sl_list (qpv 1) (qpo_some qpe_int) qpo_none) qpa_nil)) (fun _ _ _ _ => qif_none) (fun _ _ _ _ => (qpe_callTy call_int_str rfl T.z_int bt_int (qpa_cons (hs := star_Name) (qpv 0) qpa_nil))))
    (qpss_cons (qps_if (QW.pt (qpw_or (qpt_cmpR op_notIn_seq (qpv 2) (qpe_call0 G_l_primes hr rfl T.m_l_primes T.k_l_primes T.b_l_primes .nil pass0) (by rfl)) (qpw_or1 (qpt_not (qpt_val (qpe_callB (call_allL rfl) rfl T.z_all bt_all (qpa_cons (hs := star_ListComp) (qpe_comp (caps := ["_law_p"]) (idx := [2]) rfl ⟨rfl, by decide +kernel, rfl, by decide +kernel, rfl, by decide +kernel, rfl, ⟨⟨rfl, rfl⟩, trivial⟩, by decide +kernel, rfl, by decide +kernel⟩ (qpi_list (qpv 3)) (fun _ _ _ _ => qif_none) (fun _ _ _ _ => (qpe_chain op_le op_lt qpe_int (qpv 0) (qpv 1)))) qpa_nil))))))) (qpss_one (qps_ret qpe_non)) qpss_nil)
    (qpss_cons (qps_if (QW.pt (qpw_and (qpt_cmpR (op_neI2 hr.u40) (qpv 3) (qpe_lst qpa_nil) (nomark _)) (qpw_and1 (qpt_cmpR op_eq (qpe_ix ix_list (qpv 3) qpe_int (fun _ _ => rfl)) qpe_int (nomark _))))) (qpss_one (qps_ret qpe_non)) qpss_nil)
    (qpss_one (qps_ret (qpe_tup (qpa_cons (hs := star_Name) (qpv 2) (qpa_cons (hs := star_Call) (qpe_callTy call_int_str rfl T.z_int bt_int (qpa_cons (hs := star_Subscript) (qpe_ix ix_list (qpv 1) qpe_int (fun _ _ => rfl)) qpa_nil)) (qpa_cons (hs := star_Call) (qpe_callTy call_tuple_of rfl T.z_tuple bt_tuple (qpa_cons (hs := star_Name) (qpv 3) qpa_nil)) qpa_nil)))))))))))), ?_⟩
  refine ⟨_, rfl, rfl, x, _, rfl, rfl, by decide, Nat.le_of_lt (small9 (by omega)), fun W kW => ?_⟩
  rw [c_blank]
  have wl := split_len x blank (by decide)
  have wm : ∀ w ∈ Txt.split x blank, w.length ≤ 3000 := fun w hw => Nat.le_trans (split_mem hw) xl
  generalize Txt.split x blank = ws at hN q wl wm ⊢
  have g1 := same_new kW (.lst (ws.map V.str))
  have hW : upd H W (.lst (ws.map V.str)) W = some (.lst (ws.map V.str)) := upd_same
  generalize upd H W (.lst (ws.map V.str)) = H1 at g1 hW ⊢
  refine ⟨_, rfl, W, _, rfl, .inl (SqL.of hW), _, _, rfl, rfl, _, rfl, iteL (fun lt => ?_) (fun ge => ?_)⟩
  · rw [List.length_map] at lt
    refine iteT (hN ?_ _ g1)
    match ws, lt with
    | [], _ => rfl
    | [_], _ => rfl
    | [_, _], _ => rfl
    | _ :: _ :: _ :: _, lt => simp only [List.length_cons] at lt; omega
  rw [List.length_map] at ge
  match ws, ge with
  | [], ge => exact absurd (by decide) ge
  | [_], ge => exact absurd (by show (1 : Int) < 3; decide) ge
  | [_, _], ge => exact absurd (by show (2 : Int) < 3; decide) ge
  | a :: b :: c :: r, _ =>
  have a2 : atI ((a :: b :: c :: r).map V.str) 2 = some (.str c) := atI_nat (j := 2) rfl
  have a0 : atI ((a :: b :: c :: r).map V.str) 0 = some (.str a) := atI_nat (j := 0) rfl
  have a1 : atI ((a :: b :: c :: r).map V.str) 1 = some (.str b) := atI_nat (j := 1) rfl
  refine ⟨_, rfl, W, _, _, _, rfl, rfl, SqL.of hW, a2, rfl, _, rfl, ?_⟩
  rw [c_colon]
  by_cases hc : c = ⟨#[58]⟩
  rotate_left
  · rw [decide_eq_false (fun z => hc (V.str.inj z))]
    refine iteT (iteT (hN ?_ _ g1))
    rw [readW_cons, if_neg (fun z => hc z.1)]
  rw [decide_eq_true (congrArg V.str hc)]
  simp only [List.length_cons] at wl
  refine iteF ⟨_, rfl, _, rfl, W, _, rfl, SqL.of hW, fun u1 k1 => ?_⟩
  have ec1 : cutV ((a :: b :: c :: r).map V.str) none (some 2) = [a, b].map V.str := cut_to (by decide)
  have ec2 : cutV ((a :: b :: c :: r).map V.str) (some 3) none = r.map V.str := cut_from (by decide)
  rw [ec1]
  have g2 := same_new k1 (.lst ([a, b].map V.str))
  have hu1 : upd H1 u1 (.lst ([a, b].map V.str)) u1 = some (.lst ([a, b].map V.str)) := upd_same
  have hW := g2 _ _ hW
  generalize upd H1 u1 (.lst ([a, b].map V.str)) = H2 at g2 hW hu1 ⊢
  refine ⟨_, rfl, _, rfl, W, _, rfl, SqL.of hW, fun u2 k2 => ?_⟩
  rw [ec2]
  have g3 := same_new k2 (.lst (r.map V.str))
  have hu2 : upd H2 u2 (.lst (r.map V.str)) u2 = some (.lst (r.map V.str)) := upd_same
  have hW := g3 _ _ hW
  have hu1 := g3 _ _ hu1
  refine ⟨u1, u2, [a, b].map V.str, r.map V.str, rfl, rfl, hu1, hu2, Nat.le_of_lt (small9 (by rw [List.length_map, List.length_map]; show 2 + r.length ≤ _; omega)), fun u3 k3 => ?_⟩
  rw [← List.map_append, show [a, b] ++ r = a :: b :: r from rfl]
  generalize upd H2 u2 (.lst (r.map V.str)) = H3 at g3 hW hu1 hu2 k3 ⊢
  have g4 := same_new k3 (.lst ((a :: b :: r).map V.str))
  have hu3 : upd H3 u3 (.lst ((a :: b :: r).map V.str)) u3 = some (.lst ((a :: b :: r).map V.str)) := upd_same
  have hW := g4 _ _ hW
  generalize upd H3 u3 (.lst ((a :: b :: r).map V.str)) = H4 at g4 hW hu3 ⊢
  have gg := g1.trans (g2.trans (g3.trans g4))
  refine ⟨u3, rfl, ⟨_, SqL.of hu3⟩, fun D hD => ?_⟩
  refine comp_same (f := fun v => match v with | .str y => .bl (isW y.cps.toList) | v => v) plain_list (by rw [List.length_map]; simp only [List.length_cons]; exact small9 (by omega)) hD (fun H' g => SqL.of (g _ _ hu3)) (fun v hv H' R g rr => ?_) (fun H5 g5 hD5 => ?_)
  · obtain ⟨w', hw', rfl⟩ := List.mem_map.mp hv
    refine ⟨_, rfl, w', rfl, ?_, rr⟩
    refine Nat.le_trans (wm w' ?_) (by decide)
    rcases List.mem_cons.mp hw' with rfl | hw'
    · exact List.mem_cons_self
    rcases List.mem_cons.mp hw' with rfl | hw'
    · exact List.mem_cons_of_mem _ List.mem_cons_self
    · exact List.mem_cons_of_mem _ (List.mem_cons_of_mem _ (List.mem_cons_of_mem _ hw'))
  rw [List.map_map] at hD5
  have eb : ((a :: b :: r).map ((fun v => match v with | .str y => V.bl (isW y.cps.toList) | v => v) ∘ V.str)) = ((a :: b :: r).map fun w => isW w.cps.toList).map V.bl := by
    rw [List.map_map]
    rfl
  rw [eb] at hD5
  have hW := g5 _ _ hW
  refine ⟨D, (a :: b :: r).map (fun w => isW w.cps.toList), rfl, SqL.of hD5, _, rfl, ?_⟩
  rw [List.all_map]
  cases hall : (a :: b :: r).all (id ∘ fun w => isW w.cps.toList) with
  | false =>
    refine iteT (hN ?_ _ (gg.trans g5))
    rw [readW_cons, if_neg (fun z => by
      have e : (a :: b :: r).all (id ∘ fun w => isW w.cps.toList) = true := z.2.1
      rw [hall] at e
      cases e)]
  | true =>
  have hall' : ((a :: b :: r).all fun w => isW w.cps.toList) = true := hall
  have each := List.all_eq_true.mp hall'
  have ia := isW_int (each a List.mem_cons_self)
  have ib := isW_int (each b (List.mem_cons_of_mem _ List.mem_cons_self))
  have ir : ∀ w ∈ r, intText? w = some (valW w.cps.toList) ∧ w.length ≤ 640 := fun w hw => isW_int (each w (List.mem_cons_of_mem _ (List.mem_cons_of_mem _ hw)))
  refine iteF ⟨_, rfl, W, _, _, _, rfl, rfl, SqL.of hW, a0, a, _, rfl, ia.1, ia.2, ?_⟩
  refine ⟨_, rfl, _, rfl, W, _, rfl, SqL.of hW, fun u4 k4 => ?_⟩
  rw [ec2]
  have g6 := same_new k4 (.lst (r.map V.str))
  have hu4 : upd H5 u4 (.lst (r.map V.str)) u4 = some (.lst (r.map V.str)) := upd_same
  have hW := g6 _ _ hW
  refine ⟨u4, r.map V.str, rfl, SqL.of hu4, fun D2 hD2 => ?_⟩
  generalize upd H5 u4 (.lst (r.map V.str)) = H6 at g6 hW hu4 hD2 ⊢
  refine comp_plain (c := fun _ => true) (f := fun v => match v with | .str y => .int (valW y.cps.toList) | v => v) plain_rev (by rw [List.length_reverse, List.length_map]; exact small9 (by omega)) hD2 (fun ys => SqL.of ((same_new hD2 _) _ _ hu4)) (fun v _ ys R r => r) (fun v hv _ ys R rr => ?_) ?_
  · obtain ⟨y, hy, rfl⟩ := List.mem_map.mp (List.mem_reverse.mp hv)
    exact ⟨_, rfl, y, _, rfl, (ir y hy).1, (ir y hy).2, rr⟩
  have eD : ((((r.map V.str).reverse).filter fun _ => true).map fun v => match v with | .str y => V.int (valW y.cps.toList) | v => v) = (r.reverse.map fun w => valW w.cps.toList).map V.int := by
    rw [filter_all, ← List.map_reverse, List.map_map, List.map_map]
    rfl
  rw [eD]
  have g7 := same_new hD2 (.lst ((r.reverse.map fun w => valW w.cps.toList).map V.int))
  have hD2' : upd H6 D2 (.lst ((r.reverse.map fun w => valW w.cps.toList).map V.int)) D2 = some (.lst ((r.reverse.map fun w => valW w.cps.toList).map V.int)) := upd_same
  have hW := g7 _ _ hW
  have rd : readW (a :: b :: c :: r) = if leftB (.int (valW a.cps.toList)) (.int (valW b.cps.toList)) ((r.reverse.map fun w => valW w.cps.toList).map V.int) = true then some (valW a.cps.toList, valW b.cps.toList, r.reverse.map fun w => valW w.cps.toList) else none := by
    rw [readW_cons]
    by_cases hl : leftB (.int (valW a.cps.toList)) (.int (valW b.cps.toList)) ((r.reverse.map fun w => valW w.cps.toList).map V.int) = true
    · rw [if_pos ⟨hc, hall', hl⟩, if_pos hl]
    · rw [if_neg (fun z => hl z.2.2), if_neg hl]
  rw [rd] at hN q
  have fl : (r.reverse.map fun w => valW w.cps.toList).length ≤ 3000 := by rw [List.length_map, List.length_reverse]; omega
  generalize upd H6 D2 (.lst ((r.reverse.map fun w => valW w.cps.toList).map V.int)) = H7 at g7 hW hD2' ⊢
  have gg := gg.trans (g5.trans (g6.trans g7))
  generalize (r.reverse.map fun w => valW w.cps.toList) = fs at hD2' hN q fl
  generalize hp' : valW a.cps.toList = p at hN q ⊢
  generalize hl' : valW b.cps.toList = l at hN q ib
  have lb : leftB (.int p) (.int l) (fs.map V.int) = (decide (Pr p) && (fs.map V.int).all (isFig p) && !decide ((fs.map V.int).head? = some (.int 0))) := rfl
  rw [lb] at hN q
  refine ⟨_, rfl, rfl, fun u8 k8 => ?_⟩
  have g8 := same_new k8 (.lst (primesL.map V.int))
  refine ⟨u8, _, rfl, .inl (SqL.of upd_same), rfl, by decide +kernel, _, rfl, ?_⟩
  rw [inV_primes]
  have hD8 := g8 _ _ hD2'
  have hW := g8 _ _ hW
  generalize upd H7 u8 (.lst (primesL.map V.int)) = H8 at g8 hD8 hW ⊢
  have gg := gg.trans g8
  by_cases hp : Pr p
  rotate_left
  · rw [decide_eq_false hp] at hN ⊢
    exact iteT (iteT (hN (if_neg (fun z => nomatch z)) _ gg))
  rw [decide_eq_true hp] at hN q ⊢
  refine iteF ⟨_, rfl, D2, rfl, ⟨_, SqL.of hD8⟩, fun D3 hD3 => ?_⟩
  refine comp_plain (c := fun _ => true) (f := fun v => .bl (isFig p v)) plain_list (by rw [List.length_map]; exact small9 (by omega)) hD3 (fun ys => SqL.of ((same_new hD3 _) _ _ hD8)) (fun v _ ys R r => r) (fun v hv _ ys R r => ?_) ?_
  · obtain ⟨n, _, rfl⟩ := List.mem_map.mp hv
    refine ⟨_, rfl, _, _, rfl, rfl, _, rfl, ?_⟩
    by_cases h0 : 0 ≤ n
    · rw [show isFig p (.int n) = (decide (0 ≤ n) && decide (n < p)) from rfl, decide_eq_true h0] at r
      rw [if_pos (decide_eq_true h0)]
      exact ⟨_, rfl, _, _, rfl, rfl, r⟩
    · rw [show isFig p (.int n) = (decide (0 ≤ n) && decide (n < p)) from rfl, decide_eq_false h0] at r
      rw [if_neg (by rw [decide_eq_false h0]; decide)]
      exact r
  have eF : ((fs.map V.int).map fun v => V.bl (isFig p v)) = ((fs.map V.int).map (isFig p)).map V.bl := (List.map_map ..).symm
  rw [filter_all, eF]
  have g9 := same_new hD3 (.lst (((fs.map V.int).map (isFig p)).map V.bl))
  have h9 : upd H8 D3 (.lst (((fs.map V.int).map (isFig p)).map V.bl)) D3 = some (.lst (((fs.map V.int).map (isFig p)).map V.bl)) := upd_same
  have hD9 := g9 _ _ hD8
  have hW := g9 _ _ hW
  have gg := gg.trans g9
  generalize upd H8 D3 (.lst (((fs.map V.int).map (isFig p)).map V.bl)) = H9 at h9 hD9 hW gg ⊢
  refine ⟨D3, (fs.map V.int).map (isFig p), rfl, SqL.of h9, _, rfl, ?_⟩
  rw [List.all_map]
  cases hf : (fs.map V.int).all (id ∘ isFig p) with
  | false =>
    have hf' : (fs.map V.int).all (isFig p) = false := hf
    rw [hf'] at hN
    exact iteT (hN (if_neg (fun z => nomatch z)) _ gg)
  | true =>
  have hf' : (fs.map V.int).all (isFig p) = true := hf
  rw [hf'] at hN q
  refine iteF ⟨_, rfl, small (by show 0 ≤ 1000; decide), fun u10 k10 => ?_⟩
  have g10 := same_new k10 (.lst [])
  have hD10 := g10 _ _ hD9
  have hW := g10 _ _ hW
  have gg := gg.trans g10
  refine ⟨D2, u10, fs, [], rfl, rfl, .inr ⟨SqL.of hD10, SqL.of upd_same⟩, _, rfl, ?_⟩
  generalize upd H9 u10 (.lst []) = H10 at hD10 hW gg ⊢
  have fin : ∀ (rest : (!decide ((fs.map V.int).head? = some (V.int 0))) = true) (t1 t2 : Addr), H10 t1 = none → upd H10 t1 (.tup (fs.map V.int)) t2 = none → Q (.ref t2) (upd (upd H10 t1 (.tup (fs.map V.int))) t2 (.tup [.int p, .int l, .ref t1])) := fun rest t1 t2 k1 k2 =>
    q p l fs (if_pos (by rw [rest]; rfl)) t2 _ (gg.trans ((same_new k1 _).trans (same_new k2 _))) ⟨t1, upd_same, (same_new k2 _) _ _ upd_same⟩
  cases fs with
  | nil =>
    refine iteF (iteF ⟨_, rfl, _, rfl, W, _, _, _, rfl, rfl, SqL.of hW, a1, b, _, rfl, ib.1, ib.2, _, rfl, D2, _, rfl, .inl ⟨SqL.of hD10, fun t1 k1 => ⟨small (by show 3 ≤ 1000; decide), fun t2 k2 => ?_⟩⟩⟩)
    exact fin rfl t1 t2 k1 k2
  | cons f fs =>
    refine iteT ⟨_, rfl, D2, _, _, _, rfl, rfl, SqL.of hD10, at_head, rfl, _, rfl, iteI (fun e => ?_) (fun e => ?_)⟩
    · subst e
      exact hN (if_neg (fun z => nomatch z)) _ gg
    · refine ⟨_, rfl, _, rfl, W, _, _, _, rfl, rfl, SqL.of hW, a1, b, _, rfl, ib.1, ib.2, _, rfl, D2, _, rfl, .inl ⟨SqL.of hD10, fun t1 k1 => ⟨small (by show 3 ≤ 1000; decide), fun t2 k2 => ?_⟩⟩⟩
      exact fin (by rw [decide_eq_false (show ¬ ((f :: fs).map V.int).head? = some (V.int 0) from fun z => e (V.int.inj (Option.some.inj z)))]; rfl) t1 t2 k1 k2
theorem ok_law {f : Addr} {fd : FuncData} (T : Txt K mg) (F : Fun K "law" "law" s_law f fd) : FnOk P w K mg base CX0 9 f fd ["_law_script"] (spLaw K) := by
  have G_l_cell_at := (ok_l_cell_at (P := P) (w := w) (base := base) T).mono (k := 8) (by decide)
  have G_l_primes := (ok_l_primes (P := P) (w := w) (base := base) T).mono (k := 8) (by decide)
  have G_l_place := (ok_l_place (P := P) (w := w) (base := base) T).mono (k := 8) (by decide)
  have G_l_text := (ok_l_text (P := P) (w := w) (base := base) T).mono (k := 8) (by decide)
  have G_l_spoiled := (ok_l_spoiled (P := P) (w := w) (base := base) T).mono (k := 8) (by decide)
  have G_l_due := (ok_l_due (P := P) (w := w) (base := base) T).mono (k := 8) (by decide)
  have G_l_refused := (ok_l_refused (P := P) (w := w) (base := base) T).mono (k := 8) (by decide)
  have G_read_left := (ok_read_left (P := P) (w := w) (base := base) T).mono (k := 8) (by decide)
  refine F.okq sc_law (fun vs H Q E h => ?_) (fun cdv A outer s H vs Q E hr h => ?_)
  · obtain ⟨a, ns, rfl, _⟩ := h
    rfl
  obtain ⟨S, ns, rfl, hS, h63, q⟩ := h
  refine ⟨_, (qpss_cons (qps_set (i := 1) sc_law.nd rfl (Or.inl rfl) (qpe_call G_l_cell_at hr rfl T.m_l_cell_at T.k_l_cell_at T.b_l_cell_at .nil pass0 (qpa_cons (hs := star_Name) (qpv 0) (qpa_cons (hs := star_Constant) qpe_int qpa_nil))))
    (qpss_cons (qps_set (i := 2) sc_law.nd rfl (Or.inr rfl) (qpe_ix ix_list (qpe_call0 G_l_primes hr rfl T.m_l_primes T.k_l_primes T.b_l_primes .nil pass0) (qpe_op op_mod (qpe_call G_l_cell_at hr rfl T.m_l_cell_at T.k_l_cell_at T.b_l_cell_at .nil pass0 (qpa_cons (hs := star_Name) (qpv 0) (qpa_cons (hs := star_Constant) qpe_int qpa_nil))) qpe_int) (fun _ _ => rfl)))
    (qpss_cons (qps_set (i := 3) sc_law.nd rfl (Or.inl rfl) (qpe_call G_l_text hr rfl T.m_l_text T.k_l_text T.b_l_text .nil pass0 (qpa_cons (hs := star_Name) (qpv 2) (qpa_cons (hs := star_Call) (qpe_call G_l_place hr rfl T.m_l_place T.k_l_place T.b_l_place .nil pass0 (qpa_cons (hs := star_Call) (qpe_call G_l_cell_at hr rfl T.m_l_cell_at T.k_l_cell_at T.b_l_cell_at .nil pass0 (qpa_cons (hs := star_Name) (qpv 0) (qpa_cons (hs := star_Constant) qpe_int qpa_nil))) qpa_nil)) (qpa_cons (hs := star_ListComp) (qpe_comp (caps := ["_law_p"]) (idx := [2]) rfl ⟨rfl, by decide +kernel, rfl, by decide +kernel, rfl, by decide +kernel, rfl, ⟨⟨rfl, rfl⟩, trivial⟩, by decide +kernel, rfl, by decide +kernel⟩ (qpi_list (qpe_slice sl_list (qpv 0) (qpo_some qpe_int) (qpo_some qpe_int))) (fun _ _ _ _ => qif_none) (fun _ _ _ _ => (qpe_op op_mod (qpv 0) (qpv 1)))) qpa_nil)))))
    (qpss_cons (qps_if (qpt_cmpR op_eq (qpe_op op_mod (qpv 1) qpe_int) qpe_int (nomark _)) (qpss_one (qps_ret (qpe_call G_l_refused hr rfl T.m_l_refused T.k_l_refused T.b_l_refused .nil pass0 (qpa_cons (hs := star_Subscript) (qpe_ix ix_list (qpe_lst (qpa_cons (hs := star_Constant) qpe_non (qpa_cons (hs := star_Constant) qpe_int (qpa_cons (hs := star_List) (qpe_lst (qpa_cons (hs := star_Constant) qpe_str qpa_nil)) (qpa_cons (hs := star_Tuple) (qpe_tup (qpa_cons (hs := star_Constant) qpe_str qpa_nil)) (qpa_cons (hs := star_Constant) qpe_bl (qpa_cons (hs := star_Dict) qpe_dnew2 qpa_nil))))))) (qpe_op op_mod (qpe_op op_fdivB (qpv 1) qpe_int) qpe_int) (fun _ _ => rfl)) qpa_nil)))) qpss_nil)
    (qpss_cons (qps_if (qpt_cmpR op_gt (qpe_op op_mod (qpv 1) qpe_int) qpe_int (nomark _)) (qpss_one (qps_set (i := 3) sc_law.nd rfl (Or.inl rfl) (qpe_call G_l_spoiled hr rfl T.m_l_spoiled T.k_l_spoiled T.b_l_spoiled .nil pass0 (qpa_cons (hs := star_Name) (qpv 3) (qpa_cons (hs := star_Call) (qpe_call G_l_cell_at hr rfl T.m_l_cell_at T.k_l_cell_at T.b_l_cell_at .nil pass0 (qpa_cons (hs := star_Name) (qpv 0) (qpa_cons (hs := star_Constant) qpe_int qpa_nil))) (qpa_cons (hs := star_Call) (qpe_call G_l_cell_at hr rfl T.m_l_cell_at T.k_l_cell_at T.b_l_cell_at .nil pass0 (qpa_cons (hs := star_Name) (qpv 0) (qpa_cons (hs := star_Constant) qpe_int qpa_nil))) qpa_nil)))))) qpss_nil)
    (qpss_cons (qps_if (qpt_cmpR op_eq (qpe_op op_mod (qpv 1) qpe_int) qpe_int (nomark _)) (qpss_one (qps_set (i := 3) sc_law.nd rfl (Or.inl rfl) (qpe_call G_l_spoiled hr rfl T.m_l_spoiled T.k_l_spoiled T.b_l_spoiled .nil pass0 (qpa_cons (hs := star_Name) (qpv 3) (qpa_cons (hs := star_BinOp) (qpe_op op_fdivB (qpe_call G_l_cell_at hr rfl T.m_l_cell_at T.k_l_cell_at T.b_l_cell_at .nil pass0 (qpa_cons (hs := star_Name) (qpv 0) (qpa_cons (hs := star_Constant) qpe_int qpa_nil))) qpe_int) (qpa_cons (hs := star_BinOp) (qpe_op op_fdivB (qpe_call G_l_cell_at hr rfl T.m_l_cell_at T.k_l_cell_at T.b_l_cell_at .nil pass0 (qpa_cons (hs := star_Name) (qpv 0) (qpa_cons (hs := star_Constant) qpe_int qpa_nil))) qpe_int) qpa_nil)))))) qpss_nil)
    (qpss_cons (qps_set (i := 4) sc_law.nd rfl (Or.inl rfl) (qpe_call G_l_due hr rfl T.m_l_due T.k_l_due T.b_l_due .nil pass0 (qpa_cons (hs := star_Name) (qpv 3) qpa_nil)))
    (qpss_cons (qps_if (qpt_cmpR op_isN (qpv 4) qpe_non (nomark _)) (qpss_one (qps_ret (qpe_call G_l_refused hr rfl T.m_l_refused T.k_l_refused T.b_l_refused .nil pass0 (qpa_cons (hs := star_Name) (qpv 3) qpa_nil)))) qpss_nil)
    (qpss_one (qps_ret (qpe_cmpR (op_eqL hr.u40) (qpe_call G_read_left hr rfl T.m_read_left T.k_read_left T.b_read_left .nil pass2 (qpa_cons (hs := star_Name) (qpv 3) qpa_nil)) (qpv 4) (nomark _)))))))))))), ?_⟩
  refine ⟨_, rfl, S, ns, 0, rfl, hS, ?_⟩
  generalize ns.getD 0 0 = cell
  refine ⟨rfl, fun u1 k1 => ?_⟩
  have g1 := same_new k1 (.lst (primesL.map V.int))
  have hu1 : upd H u1 (.lst (primesL.map V.int)) u1 = some (.lst (primesL.map V.int)) := upd_same
  have hS := g1.seq hS
  generalize upd H u1 (.lst (primesL.map V.int)) = H1 at g1 hu1 hS ⊢
  obtain ⟨pv, hpv, p, rfl, hp⟩ := at_rest (xs := primesL.map V.int) (i := ns.getD 1 0 % 25) (Int.emod_nonneg _ (by decide)) (Int.emod_lt_of_pos _ (by decide)) primes_at
  refine ⟨_, rfl, S, ns, 1, rfl, hS, _, _, rfl, rfl, (by show (0 : Int) < 25; decide), u1, _, _, _, rfl, rfl, SqL.of hu1, hpv, ?_⟩
  have p2 := hp.two
  have p97 := hp.most
  refine ⟨_, rfl, _, rfl, S, ns, 2, rfl, hS, _, rfl, fun l m1 m2 => ?_⟩
  refine ⟨_, rfl, _, rfl, _, rfl, S, _, rfl, hS, fun q2 h2 => ?_⟩
  have g2 := same_new h2 (.lst (cutV (ns.map V.int) (some 5) (some 45)))
  have hS := g2.seq hS
  rw [cut_both (by decide) (by decide), map_take, map_drop] at g2 hS ⊢
  have cl : ((ns.take (45 : Int).toNat).drop (5 : Int).toNat).length ≤ 60 := by rw [List.length_drop, List.length_take]; omega
  generalize (ns.take (45 : Int).toNat).drop (5 : Int).toNat = cs at g2 hS cl ⊢
  have hq2 : upd H1 q2 (.lst (cs.map V.int)) q2 = some (.lst (cs.map V.int)) := upd_same
  generalize upd H1 q2 (.lst (cs.map V.int)) = H2 at g2 hS hq2 ⊢
  refine ⟨q2, rfl, ⟨_, SqL.of hq2⟩, fun D hD => ?_⟩
  refine comp_plain (c := fun _ => true) (f := fun v => match v with | .int n => .int (n % p) | v => v) plain_list (by rw [List.length_map]; exact small1000 (by omega)) hD (fun ys => SqL.of ((same_new hD _) _ _ hq2)) (fun x _ ys R r => r) (fun x hx _ ys R r => ?_) ?_
  · obtain ⟨n, _, rfl⟩ := List.mem_map.mp hx
    exact ⟨_, rfl, _, rfl, _, _, rfl, rfl, (by show 0 < p; omega), r⟩
  have eD : (((cs.map V.int).filter fun _ => true).map fun v => match v with | .int n => V.int (n % p) | v => v) = (cs.map (· % p)).map V.int := by
    rw [filter_all, List.map_map, List.map_map]
    rfl
  rw [eD]
  have g3 := same_new hD (.lst ((cs.map (· % p)).map V.int))
  have hD3 : upd H2 D (.lst ((cs.map (· % p)).map V.int)) D = some (.lst ((cs.map (· % p)).map V.int)) := upd_same
  have hS := g3.seq hS
  have ff : Figs p (cs.map (· % p)) := Figs.mods p2 cs
  generalize upd H2 D (.lst ((cs.map (· % p)).map V.int)) = H3 at g3 hS hD3 ⊢
  refine ⟨p, l, D, cs.map (· % p), rfl, p2, by omega, by omega, by omega, hD3, fun f h => by have := ff f h; omega, by rw [List.length_map]; exact cl, fun x xl => ?_⟩
  refine ⟨_, rfl, _, _, rfl, rfl, (by show (0 : Int) < 12; decide), rfl, _, rfl, iteI (fun _ => ?_) (fun _ => ?_)⟩
  · refine ⟨small (by show 1 ≤ 1000; decide), fun t1 k1 => ⟨small (by show 1 ≤ 1000; decide), fun t2 k2 => fun t3 k3 => ⟨small (by show 6 ≤ 1000; decide), fun l1 kl1 => ?_⟩⟩⟩
    have gl1 := same_new kl1 (.lst [.non, .int 7, .ref t1, .ref t2, .bl true, .ref t3])
    obtain ⟨v, hv, t, i, b, u, kd, ty, ne⟩ := at_rest (xs := [.non, .int 7, .ref t1, .ref t2, .bl true, .ref t3]) (i := cell / 12 % 6) (P := fun v => ∃ (t : String) (i b u : Bool), Kind t i b u ∧ TyOf K (upd (upd (upd (upd H3 t1 (.lst [.str (Str.ofString "2 0 :")])) t2 (.tup [.str (Str.ofString "2 0 :")])) t3 (.dK [])) l1 (.lst [.non, .int 7, .ref t1, .ref t2, .bl true, .ref t3])) v (.type t) ∧ (t == "str") = false) (Int.emod_nonneg _ (by decide)) (Int.emod_lt_of_pos _ (by decide)) (by
      intro v hv
      have e1 := (same_new k2 (.tup [.str (Str.ofString "2 0 :")])) _ _ (upd_same (H := H3) (a := t1) (o := .lst [.str (Str.ofString "2 0 :")]))
      have g3' := same_new k3 (.dK [])
      simp only [List.mem_cons, List.not_mem_nil, or_false] at hv
      rcases hv with rfl | rfl | rfl | rfl | rfl | rfl
      · exact ⟨_, _, _, _, .non, .non, by decide⟩
      · exact ⟨_, _, _, _, .int, .int _, by decide⟩
      · exact ⟨_, _, _, _, .lst, .lst (gl1 _ _ (g3' _ _ e1)), by decide⟩
      · exact ⟨_, _, _, _, .tup, .tup (gl1 _ _ (g3' _ _ upd_same)), by decide⟩
      · exact ⟨_, _, _, _, .bl, .bl _, by decide⟩
      · exact ⟨_, _, _, _, .dct, .dK (gl1 _ _ upd_same), by decide⟩)
    exact ⟨_, rfl, _, _, rfl, rfl, dsm (by decide) (by decide), _, _, rfl, rfl, (by show (0 : Int) < 6; decide), l1, _, _, _, rfl, rfl, SqL.of upd_same, hv, v, rfl, .inl ⟨t, i, b, u, kd, ty, ne⟩, fun H' => q _⟩
  unfold tNext
  dsimp only
  refine seq_of (fun σ H' => ∃ y : Str, Same H3 H' ∧ y.length ≤ 900 ∧ σ = [some (.ref S), some (.int cell), some (.int p), some (.str y), none]) ?_ (fun nx tail => ?_)
  rotate_left
  · refine ⟨_, rfl, _, _, rfl, rfl, (by show (0 : Int) < 3; decide), _, _, rfl, rfl, _, rfl, iteP (fun _ => ?_) (fun _ => tail _ _ ⟨x, Same.refl _, by omega, rfl⟩)⟩
    exact ⟨_, rfl, _, rfl, S, ns, 3, rfl, hS, _, rfl, S, ns, 4, rfl, hS, x, _, _, rfl, by omega, fun y H' g yl => tail _ _ ⟨y, g, by omega, rfl⟩⟩
  rintro σ H4 ⟨y, g4, yl, rfl⟩
  have hS := g4.seq hS
  try dsimp only [gName]
  refine seq_of (fun σ H' => ∃ y : Str, Same H4 H' ∧ y.length ≤ 2000 ∧ σ = [some (.ref S), some (.int cell), some (.int p), some (.str y), none]) ?_ (fun nx tail => ?_)
  rotate_left
  · refine ⟨_, rfl, _, _, rfl, rfl, (by show (0 : Int) < 3; decide), rfl, _, rfl, iteI (fun _ => ?_) (fun _ => tail _ _ ⟨y, Same.refl _, by omega, rfl⟩)⟩
    exact ⟨_, rfl, _, rfl, S, ns, 4, rfl, hS, _, _, rfl, rfl, dsm (by decide) (by decide), _, rfl, S, ns, 3, rfl, hS, _, _, rfl, rfl, dsm (by decide) (by decide), y, _, _, rfl, by omega, fun y' H' g yl' => tail _ _ ⟨y', g, by omega, rfl⟩⟩
  rintro σ H5 ⟨z, g5, zl, rfl⟩
  refine ⟨_, rfl, z, rfl, by omega, fun none H6 g6 => ?_, fun p' l' fs some' a H6 g6 la => ?_⟩
  · exact ⟨_, rfl, rfl, _, rfl, iteT ⟨_, rfl, .str z, rfl, .inr ⟨z, rfl, by omega, none⟩, fun H' => q _⟩⟩
  · refine ⟨_, rfl, rfl, _, rfl, iteF ⟨_, rfl, .str z, rfl, .inr ⟨z, rfl, by omega, (fun e => by rw [some'] at e; cases e), fun p2' l2' fs2 e b H7 g7 lb => ?_⟩⟩⟩
    rw [some'] at e
    cases e
    refine ⟨_, rfl, b, a, p', l', p', l', fs, fs, rfl, rfl, lb, la.same g7, ?_⟩
    have e : decide (p' = p' ∧ l' = l' ∧ fs = fs) = true := decide_eq_true ⟨rfl, rfl, rfl⟩
    rw [e]
    exact q _
end
theorem all_mk {l : PySem.W.OpenLaw} {w : World} {K : PySem.W.Frag} {h : Heap} {mg : Str → Option Value} {fa f0 f1 f2 f3 f4 f5 f6 f7 f8 f9 f10 f11 f12 f13 f14 f15 a_PRIMES a_LeftError a_NoPrime a_NoFraction a_NoPlace a_NoFigures a_NoText a_Unlike a_NoQuotient a_NoPower a_TooFew a_NoSize a_NoPolynomial a_NoDepth a_NoRoot a_NotNear : Addr} (X : K.In h) (G : h.Ns mainGlobals mg) (hfa : mg "law" = some (.ref fa))
    {od0 an0 : Option Addr} {sl0 : Array (Option Value)} {oc0 kV0 dc0 pm0 cd0 ct0 : Value}
    {od1 an1 : Option Addr} {sl1 : Array (Option Value)} {oc1 kV1 dc1 pm1 cd1 ct1 : Value}
    {od2 an2 : Option Addr} {sl2 : Array (Option Value)} {oc2 kV2 dc2 pm2 cd2 ct2 : Value}
    {od3 an3 : Option Addr} {sl3 : Array (Option Value)} {oc3 kV3 dc3 pm3 cd3 ct3 : Value}
    {od4 an4 : Option Addr} {sl4 : Array (Option Value)} {oc4 kV4 dc4 pm4 cd4 ct4 : Value}
    {od5 an5 : Option Addr} {sl5 : Array (Option Value)} {oc5 kV5 dc5 pm5 cd5 ct5 : Value}
    {od6 an6 : Option Addr} {sl6 : Array (Option Value)} {oc6 kV6 dc6 pm6 cd6 ct6 : Value}
    {od7 an7 : Option Addr} {sl7 : Array (Option Value)} {oc7 kV7 dc7 pm7 cd7 ct7 : Value}
    {od8 an8 : Option Addr} {sl8 : Array (Option Value)} {oc8 kV8 dc8 pm8 cd8 ct8 : Value}
    {od9 an9 : Option Addr} {sl9 : Array (Option Value)} {oc9 kV9 dc9 pm9 cd9 ct9 : Value}
    {od10 an10 : Option Addr} {sl10 : Array (Option Value)} {oc10 kV10 dc10 pm10 cd10 ct10 : Value}
    {od11 an11 : Option Addr} {sl11 : Array (Option Value)} {oc11 kV11 dc11 pm11 cd11 ct11 : Value}
    {od12 an12 : Option Addr} {sl12 : Array (Option Value)} {oc12 kV12 dc12 pm12 cd12 ct12 : Value}
    {od13 an13 : Option Addr} {sl13 : Array (Option Value)} {oc13 kV13 dc13 pm13 cd13 ct13 : Value}
    {od14 an14 : Option Addr} {sl14 : Array (Option Value)} {oc14 kV14 dc14 pm14 cd14 ct14 : Value}
    {od15 an15 : Option Addr} {sl15 : Array (Option Value)} {oc15 kV15 dc15 pm15 cd15 ct15 : Value}
    {od_PRIMES : Option Addr} {sl_PRIMES : Array (Option Value)} {it_PRIMES : Array Value} {n_PRIMES : Nat}
    {t_MOST_FIGURES : Tok}
    {t_DECIMALS : Tok}
    {cd_NoText : ClassData}
    (a0 : PySem.W.nsIn K mainGlobals "is_whole" = some (some (.ref f0))) (l0 : K.lookup f0 = some ⟨oc0, od0, .func (PySem.W.fnOf "is_whole" "is_whole" (defArgs s_is_whole) (defBody s_is_whole) (defScope s_is_whole) .none kV0 dc0 pm0 an0 cd0 ct0), sl0⟩) (c0 : PySem.W.codeIn K cd0 "is_whole" = true) (k0 : PySem.W.keepIn K (.ref f0) = true)
    (a1 : PySem.W.nsIn K mainGlobals "is_prime" = some (some (.ref f1))) (l1 : K.lookup f1 = some ⟨oc1, od1, .func (PySem.W.fnOf "is_prime" "is_prime" (defArgs s_is_prime) (defBody s_is_prime) (defScope s_is_prime) .none kV1 dc1 pm1 an1 cd1 ct1), sl1⟩) (c1 : PySem.W.codeIn K cd1 "is_prime" = true) (k1 : PySem.W.keepIn K (.ref f1) = true)
    (a2 : PySem.W.nsIn K mainGlobals "are_figures" = some (some (.ref f2))) (l2 : K.lookup f2 = some ⟨oc2, od2, .func (PySem.W.fnOf "are_figures" "are_figures" (defArgs s_are_figures) (defBody s_are_figures) (defScope s_are_figures) .none kV2 dc2 pm2 an2 cd2 ct2), sl2⟩) (c2 : PySem.W.codeIn K cd2 "are_figures" = true) (k2 : PySem.W.keepIn K (.ref f2) = true)
    (a3 : PySem.W.nsIn K mainGlobals "is_left" = some (some (.ref f3))) (l3 : K.lookup f3 = some ⟨oc3, od3, .func (PySem.W.fnOf "is_left" "is_left" (defArgs s_is_left) (defBody s_is_left) (defScope s_is_left) .none kV3 dc3 pm3 an3 cd3 ct3), sl3⟩) (c3 : PySem.W.codeIn K cd3 "is_left" = true) (k3 : PySem.W.keepIn K (.ref f3) = true)
    (a4 : PySem.W.nsIn K mainGlobals "is_whole_text" = some (some (.ref f4))) (l4 : K.lookup f4 = some ⟨oc4, od4, .func (PySem.W.fnOf "is_whole_text" "is_whole_text" (defArgs s_is_whole_text) (defBody s_is_whole_text) (defScope s_is_whole_text) .none kV4 dc4 pm4 an4 cd4 ct4), sl4⟩) (c4 : PySem.W.codeIn K cd4 "is_whole_text" = true) (k4 : PySem.W.keepIn K (.ref f4) = true)
    (a5 : PySem.W.nsIn K mainGlobals "read_left" = some (some (.ref f5))) (l5 : K.lookup f5 = some ⟨oc5, od5, .func (PySem.W.fnOf "read_left" "read_left" (defArgs s_read_left) (defBody s_read_left) (defScope s_read_left) .none kV5 dc5 pm5 an5 cd5 ct5), sl5⟩) (c5 : PySem.W.codeIn K cd5 "read_left" = true) (k5 : PySem.W.keepIn K (.ref f5) = true)
    (a6 : PySem.W.nsIn K mainGlobals "_law_cell_at" = some (some (.ref f6))) (l6 : K.lookup f6 = some ⟨oc6, od6, .func (PySem.W.fnOf "_law_cell_at" "_law_cell_at" (defArgs s_l_cell_at) (defBody s_l_cell_at) (defScope s_l_cell_at) .none kV6 dc6 pm6 an6 cd6 ct6), sl6⟩) (c6 : PySem.W.codeIn K cd6 "_law_cell_at" = true) (k6 : PySem.W.keepIn K (.ref f6) = true)
    (a7 : PySem.W.nsIn K mainGlobals "_law_primes" = some (some (.ref f7))) (l7 : K.lookup f7 = some ⟨oc7, od7, .func (PySem.W.fnOf "_law_primes" "_law_primes" (defArgs s_l_primes) (defBody s_l_primes) (defScope s_l_primes) .none kV7 dc7 pm7 an7 cd7 ct7), sl7⟩) (c7 : PySem.W.codeIn K cd7 "_law_primes" = true) (k7 : PySem.W.keepIn K (.ref f7) = true)
    (a8 : PySem.W.nsIn K mainGlobals "_law_place" = some (some (.ref f8))) (l8 : K.lookup f8 = some ⟨oc8, od8, .func (PySem.W.fnOf "_law_place" "_law_place" (defArgs s_l_place) (defBody s_l_place) (defScope s_l_place) .none kV8 dc8 pm8 an8 cd8 ct8), sl8⟩) (c8 : PySem.W.codeIn K cd8 "_law_place" = true) (k8 : PySem.W.keepIn K (.ref f8) = true)
    (a9 : PySem.W.nsIn K mainGlobals "_law_text" = some (some (.ref f9))) (l9 : K.lookup f9 = some ⟨oc9, od9, .func (PySem.W.fnOf "_law_text" "_law_text" (defArgs s_l_text) (defBody s_l_text) (defScope s_l_text) .none kV9 dc9 pm9 an9 cd9 ct9), sl9⟩) (c9 : PySem.W.codeIn K cd9 "_law_text" = true) (k9 : PySem.W.keepIn K (.ref f9) = true)
    (a10 : PySem.W.nsIn K mainGlobals "_law_spoiled" = some (some (.ref f10))) (l10 : K.lookup f10 = some ⟨oc10, od10, .func (PySem.W.fnOf "_law_spoiled" "_law_spoiled" (defArgs s_l_spoiled) (defBody s_l_spoiled) (defScope s_l_spoiled) .none kV10 dc10 pm10 an10 cd10 ct10), sl10⟩) (c10 : PySem.W.codeIn K cd10 "_law_spoiled" = true) (k10 : PySem.W.keepIn K (.ref f10) = true)
    (a11 : PySem.W.nsIn K mainGlobals "_law_is_number" = some (some (.ref f11))) (l11 : K.lookup f11 = some ⟨oc11, od11, .func (PySem.W.fnOf "_law_is_number" "_law_is_number" (defArgs s_l_is_number) (defBody s_l_is_number) (defScope s_l_is_number) .none kV11 dc11 pm11 an11 cd11 ct11), sl11⟩) (c11 : PySem.W.codeIn K cd11 "_law_is_number" = true) (k11 : PySem.W.keepIn K (.ref f11) = true)
    (a12 : PySem.W.nsIn K mainGlobals "_law_due" = some (some (.ref f12))) (l12 : K.lookup f12 = some ⟨oc12, od12, .func (PySem.W.fnOf "_law_due" "_law_due" (defArgs s_l_due) (defBody s_l_due) (defScope s_l_due) .none kV12 dc12 pm12 an12 cd12 ct12), sl12⟩) (c12 : PySem.W.codeIn K cd12 "_law_due" = true) (k12 : PySem.W.keepIn K (.ref f12) = true)
    (a13 : PySem.W.nsIn K mainGlobals "_law_others" = some (some (.ref f13))) (l13 : K.lookup f13 = some ⟨oc13, od13, .func (PySem.W.fnOf "_law_others" "_law_others" (defArgs s_l_others) (defBody s_l_others) (defScope s_l_others) .none kV13 dc13 pm13 an13 cd13 ct13), sl13⟩) (c13 : PySem.W.codeIn K cd13 "_law_others" = true) (k13 : PySem.W.keepIn K (.ref f13) = true)
    (a14 : PySem.W.nsIn K mainGlobals "_law_refused" = some (some (.ref f14))) (l14 : K.lookup f14 = some ⟨oc14, od14, .func (PySem.W.fnOf "_law_refused" "_law_refused" (defArgs s_l_refused) (defBody s_l_refused) (defScope s_l_refused) .none kV14 dc14 pm14 an14 cd14 ct14), sl14⟩) (c14 : PySem.W.codeIn K cd14 "_law_refused" = true) (k14 : PySem.W.keepIn K (.ref f14) = true)
    (a15 : PySem.W.nsIn K mainGlobals "law" = some (some (.ref f15))) (l15 : K.lookup f15 = some ⟨oc15, od15, .func (PySem.W.fnOf "law" "law" (defArgs s_law) (defBody s_law) (defScope s_law) .none kV15 dc15 pm15 an15 cd15 ct15), sl15⟩) (c15 : PySem.W.codeIn K cd15 "law" = true) (k15 : PySem.W.keepIn K (.ref f15) = true)
    (a_PRIMES_ : PySem.W.nsIn K mainGlobals "PRIMES" = some (some (.ref a_PRIMES))) (l_PRIMES : K.lookup a_PRIMES = some ⟨.type "tuple", od_PRIMES, .seq it_PRIMES n_PRIMES, sl_PRIMES⟩) (v_PRIMES : it_PRIMES.size ≤ sizeLine ∧ Vals (primesL.map V.int) it_PRIMES.toList)
    (a_MOST_FIGURES_ : PySem.W.nsIn K mainGlobals "MOST_FIGURES" = some (some (.int 31 t_MOST_FIGURES)))
    (a_DECIMALS_ : PySem.W.nsIn K mainGlobals "DECIMALS" = some (some (.str ⟨#[48, 49, 50, 51, 52, 53, 54, 55, 56, 57]⟩ t_DECIMALS)))
    (a_LeftError_ : PySem.W.nsIn K mainGlobals "LeftError" = some (some (.ref a_LeftError)))
    (a_NoPrime_ : PySem.W.nsIn K mainGlobals "NoPrime" = some (some (.ref a_NoPrime)))
    (a_NoFraction_ : PySem.W.nsIn K mainGlobals "NoFraction" = some (some (.ref a_NoFraction)))
    (a_NoPlace_ : PySem.W.nsIn K mainGlobals "NoPlace" = some (some (.ref a_NoPlace)))
    (a_NoFigures_ : PySem.W.nsIn K mainGlobals "NoFigures" = some (some (.ref a_NoFigures)))
    (a_NoText_ : PySem.W.nsIn K mainGlobals "NoText" = some (some (.ref a_NoText)))
    (a_Unlike_ : PySem.W.nsIn K mainGlobals "Unlike" = some (some (.ref a_Unlike)))
    (a_NoQuotient_ : PySem.W.nsIn K mainGlobals "NoQuotient" = some (some (.ref a_NoQuotient)))
    (a_NoPower_ : PySem.W.nsIn K mainGlobals "NoPower" = some (some (.ref a_NoPower)))
    (a_TooFew_ : PySem.W.nsIn K mainGlobals "TooFew" = some (some (.ref a_TooFew)))
    (a_NoSize_ : PySem.W.nsIn K mainGlobals "NoSize" = some (some (.ref a_NoSize)))
    (a_NoPolynomial_ : PySem.W.nsIn K mainGlobals "NoPolynomial" = some (some (.ref a_NoPolynomial)))
    (a_NoDepth_ : PySem.W.nsIn K mainGlobals "NoDepth" = some (some (.ref a_NoDepth)))
    (a_NoRoot_ : PySem.W.nsIn K mainGlobals "NoRoot" = some (some (.ref a_NoRoot)))
    (a_NotNear_ : PySem.W.nsIn K mainGlobals "NotNear" = some (some (.ref a_NotNear)))
    (x_LeftError : PySem.W.excIn K a_LeftError bmVE "ValueError.__new__" = true)
    (x_NoText : PySem.W.excIn K a_NoText bmVE "ValueError.__new__" = true)
    (ga_NoText : PySem.W.findIn K (.ref a_NoText) "__getattribute__" = some (some (.builtin "BaseException.__getattribute__")))
    (gt_NoText : PySem.W.findIn K (.ref a_NoText) "__getattr__" = some none)
    (cl_NoText : PySem.W.findIn K (.ref a_NoText) "__class__" = some (some (.builtin "object.__class__")))
    (ob_NoText : PySem.W.subIn K (.ref a_NoText) (.type "object") = some true)
    (be_NoText : PySem.W.subIn K (.ref a_NoText) (.type "BaseException") = some true)
    (ci_NoText : PySem.W.clsIn K a_NoText = some cd_NoText)
    (kt_NoText_NoText : PySem.W.kitOne K (.ref a_NoText) (.ref a_NoText) = some true)
    (kt_NoText_ValueError : PySem.W.kitOne K (.ref a_NoText) (.type "ValueError") = some true)
    (kt_NoText_NoPrime : PySem.W.kitOne K (.ref a_NoText) (.ref a_NoPrime) = some false)
    (kt_NoText_NoPlace : PySem.W.kitOne K (.ref a_NoText) (.ref a_NoPlace) = some false)
    (kt_NoText_NoFigures : PySem.W.kitOne K (.ref a_NoText) (.ref a_NoFigures) = some false)
    (kt_NoText_NoFraction : PySem.W.kitOne K (.ref a_NoText) (.ref a_NoFraction) = some false)
    (kt_NoText_Unlike : PySem.W.kitOne K (.ref a_NoText) (.ref a_Unlike) = some false)
    (kt_NoText_NoQuotient : PySem.W.kitOne K (.ref a_NoText) (.ref a_NoQuotient) = some false)
    (kt_NoText_NoPower : PySem.W.kitOne K (.ref a_NoText) (.ref a_NoPower) = some false)
    (kt_NoText_TooFew : PySem.W.kitOne K (.ref a_NoText) (.ref a_TooFew) = some false)
    (kt_NoText_NoSize : PySem.W.kitOne K (.ref a_NoText) (.ref a_NoSize) = some false)
    (kt_NoText_NoPolynomial : PySem.W.kitOne K (.ref a_NoText) (.ref a_NoPolynomial) = some false)
    (kt_NoText_NoDepth : PySem.W.kitOne K (.ref a_NoText) (.ref a_NoDepth) = some false)
    (kt_NoText_NoRoot : PySem.W.kitOne K (.ref a_NoText) (.ref a_NoRoot) = some false)
    (kt_NoText_NotNear : PySem.W.kitOne K (.ref a_NoText) (.ref a_NotNear) = some false)
    (sb_NoText : PySem.W.subIn K (.ref a_NoText) (.ref a_LeftError) = some true)
    (z_ValueError : PySem.W.nsIn K mainGlobals "ValueError" = some none)
    (z_all : PySem.W.nsIn K mainGlobals "all" = some none)
    (z_any : PySem.W.nsIn K mainGlobals "any" = some none)
    (z_bool : PySem.W.nsIn K mainGlobals "bool" = some none)
    (z_int : PySem.W.nsIn K mainGlobals "int" = some none)
    (z_isinstance : PySem.W.nsIn K mainGlobals "isinstance" = some none)
    (z_len : PySem.W.nsIn K mainGlobals "len" = some none)
    (z_reversed : PySem.W.nsIn K mainGlobals "reversed" = some none)
    (z_str : PySem.W.nsIn K mainGlobals "str" = some none)
    (z_tuple : PySem.W.nsIn K mainGlobals "tuple" = some none) :
    ∃ fd : FuncData, (∀ (s : Shared) (v : Value), BindsTo s fd ⟨[v], []⟩ [("_law_script", v)]) ∧ ∀ base : Heap, K.In base → base.Ns mainGlobals mg → FnOk l.prog w K mg base CX0 9 fa fd ["_law_script"] (spLaw K) := by
  have e := hfa.symm.trans (PySem.W.mg_of X G a15)
  cases e
  have F0 := fun_mk (st := s_is_whole) l0 c0 k0
  have b0 := F0.binds (ps := ["thing"]) fun _ _ _ _ _ _ us hl => match us, hl with | [_], _ => rfl
  have F1 := fun_mk (st := s_is_prime) l1 c1 k1
  have b1 := F1.binds (ps := ["thing"]) fun _ _ _ _ _ _ us hl => match us, hl with | [_], _ => rfl
  have F2 := fun_mk (st := s_are_figures) l2 c2 k2
  have b2 := F2.binds (ps := ["p", "things"]) fun _ _ _ _ _ _ us hl => match us, hl with | [_, _], _ => rfl
  have F3 := fun_mk (st := s_is_left) l3 c3 k3
  have b3 := F3.binds (ps := ["thing"]) fun _ _ _ _ _ _ us hl => match us, hl with | [_], _ => rfl
  have F4 := fun_mk (st := s_is_whole_text) l4 c4 k4
  have b4 := F4.binds (ps := ["text"]) fun _ _ _ _ _ _ us hl => match us, hl with | [_], _ => rfl
  have F5 := fun_mk (st := s_read_left) l5 c5 k5
  have b5 := F5.binds (ps := ["text"]) fun _ _ _ _ _ _ us hl => match us, hl with | [_], _ => rfl
  have F6 := fun_mk (st := s_l_cell_at) l6 c6 k6
  have b6 := F6.binds (ps := ["_law_script", "_law_k"]) fun _ _ _ _ _ _ us hl => match us, hl with | [_, _], _ => rfl
  have F7 := fun_mk (st := s_l_primes) l7 c7 k7
  have b7 := F7.binds (ps := []) fun _ _ _ _ _ _ us hl => match us, hl with | [], _ => rfl
  have F8 := fun_mk (st := s_l_place) l8 c8 k8
  have b8 := F8.binds (ps := ["_law_cell"]) fun _ _ _ _ _ _ us hl => match us, hl with | [_], _ => rfl
  have F9 := fun_mk (st := s_l_text) l9 c9 k9
  have b9 := F9.binds (ps := ["_law_p", "_law_least", "_law_figures"]) fun _ _ _ _ _ _ us hl => match us, hl with | [_, _, _], _ => rfl
  have F10 := fun_mk (st := s_l_spoiled) l10 c10 k10
  have b10 := F10.binds (ps := ["_law_text_here", "_law_cell", "_law_more"]) fun _ _ _ _ _ _ us hl => match us, hl with | [_, _, _], _ => rfl
  have F11 := fun_mk (st := s_l_is_number) l11 c11 k11
  have b11 := F11.binds (ps := ["_law_word"]) fun _ _ _ _ _ _ us hl => match us, hl with | [_], _ => rfl
  have F12 := fun_mk (st := s_l_due) l12 c12 k12
  have b12 := F12.binds (ps := ["_law_text_here"]) fun _ _ _ _ _ _ us hl => match us, hl with | [_], _ => rfl
  have F13 := fun_mk (st := s_l_others) l13 c13 k13
  have b13 := F13.binds (ps := ["_law_e"]) fun _ _ _ _ _ _ us hl => match us, hl with | [_], _ => rfl
  have F14 := fun_mk (st := s_l_refused) l14 c14 k14
  have b14 := F14.binds (ps := ["_law_thing"]) fun _ _ _ _ _ _ us hl => match us, hl with | [_], _ => rfl
  have F15 := fun_mk (st := s_law) l15 c15 k15
  have T : Txt K mg := ⟨f0, _, F0, b0, PySem.W.mg_of X G a0, k0, f1, _, F1, b1, PySem.W.mg_of X G a1, k1, f2, _, F2, b2, PySem.W.mg_of X G a2, k2, f3, _, F3, b3, PySem.W.mg_of X G a3, k3, f4, _, F4, b4, PySem.W.mg_of X G a4, k4, f5, _, F5, b5, PySem.W.mg_of X G a5, k5, f6, _, F6, b6, PySem.W.mg_of X G a6, k6, f7, _, F7, b7, PySem.W.mg_of X G a7, k7, f8, _, F8, b8, PySem.W.mg_of X G a8, k8, f9, _, F9, b9, PySem.W.mg_of X G a9, k9, f10, _, F10, b10, PySem.W.mg_of X G a10, k10, f11, _, F11, b11, PySem.W.mg_of X G a11, k11, f12, _, F12, b12, PySem.W.mg_of X G a12, k12, f13, _, F13, b13, PySem.W.mg_of X G a13, k13, f14, _, F14, b14, PySem.W.mg_of X G a14, k14, a_PRIMES, PySem.W.mg_of X G a_PRIMES_, fun _ => .inr ⟨_, it_PRIMES, n_PRIMES, l_PRIMES, rfl, rfl, v_PRIMES.1, v_PRIMES.2⟩, t_MOST_FIGURES, PySem.W.mg_of X G a_MOST_FIGURES_, t_DECIMALS, PySem.W.mg_of X G a_DECIMALS_, a_LeftError, PySem.W.mg_of X G a_LeftError_, a_NoPrime, PySem.W.mg_of X G a_NoPrime_, a_NoFraction, PySem.W.mg_of X G a_NoFraction_, a_NoPlace, PySem.W.mg_of X G a_NoPlace_, a_NoFigures, PySem.W.mg_of X G a_NoFigures_, a_NoText, PySem.W.mg_of X G a_NoText_, a_Unlike, PySem.W.mg_of X G a_Unlike_, a_NoQuotient, PySem.W.mg_of X G a_NoQuotient_, a_NoPower, PySem.W.mg_of X G a_NoPower_, a_TooFew, PySem.W.mg_of X G a_TooFew_, a_NoSize, PySem.W.mg_of X G a_NoSize_, a_NoPolynomial, PySem.W.mg_of X G a_NoPolynomial_, a_NoDepth, PySem.W.mg_of X G a_NoDepth_, a_NoRoot, PySem.W.mg_of X G a_NoRoot_, a_NotNear, PySem.W.mg_of X G a_NotNear_, x_LeftError, x_NoText, ⟨ga_NoText, gt_NoText, cl_NoText, ob_NoText, be_NoText, by rw [ci_NoText]; rfl⟩, kt_NoText_NoText, kt_NoText_ValueError, kt_NoText_NoPrime, kt_NoText_NoPlace, kt_NoText_NoFigures, kt_NoText_NoFraction, kt_NoText_Unlike, kt_NoText_NoQuotient, kt_NoText_NoPower, kt_NoText_TooFew, kt_NoText_NoSize, kt_NoText_NoPolynomial, kt_NoText_NoDepth, kt_NoText_NoRoot, kt_NoText_NotNear, sb_NoText, PySem.W.mg_none_of X G z_ValueError, PySem.W.mg_none_of X G z_all, PySem.W.mg_none_of X G z_any, PySem.W.mg_none_of X G z_bool, PySem.W.mg_none_of X G z_int, PySem.W.mg_none_of X G z_isinstance, PySem.W.mg_none_of X G z_len, PySem.W.mg_none_of X G z_reversed, PySem.W.mg_none_of X G z_str, PySem.W.mg_none_of X G z_tuple⟩
  exact ⟨PySem.W.fnOf "law" "law" (defArgs s_law) (defBody s_law) (defScope s_law) .none kV15 dc15 pm15 an15 cd15 ct15, fun s v => .of_eq rfl, fun base _ _ => ok_law T F15⟩
theorem walk {l : PySem.W.OpenLaw} {q : Program} {loose : List Str} {XP : (Str → Option Value) → Heap → Prop} {YP : World → Heap → Prop} {d : DefRec} {K : Params → PySem.W.Frag} (hn : l.most = some 63) (hdf : d.params.defaults = [])
    (hY : ∀ (w : World) (h : Heap), YP w h → (K w.params).In h)
    (F : ∀ (w : World) (mg : Str → Option Value) (fa : Addr) (h : Heap), (K w.params).In h → h.Ns mainGlobals mg → mg d.name = some (.ref fa) →
      ∃ fd : FuncData, (∀ (s : Shared) (u : Value), BindsTo s fd ⟨[u], []⟩ [("_law_script", u)]) ∧ ∀ base : Heap, (K w.params).In base → base.Ns mainGlobals mg → FnOk l.prog w (K w.params) mg base CX0 9 fa fd ["_law_script"] (spLaw (K w.params))) :
    PySem.W.WalkO q loose XP YP l.row.toRowW d [] (fun f vs => PySem.call f vs) :=
  L2.walk_of (n := 63) (k := 9) (x := "_law_script") (CX := fun _ => CX0) (sp := fun w => spLaw (K w.params)) hn (by decide) hdf ⟨rfl, by decide, by decide⟩ hY F (fun _ _ a ns hl _ hS => ⟨a, ns, rfl, hS, hl, fun _ => rfl⟩) fun _ _ _ _ _ z => z
end K18
open PySem PySem.W PyProof.Rows
set_option maxRecDepth 100000 in
set_option maxHeartbeats 0 in
theorem PySem.Challenge.cw_leftnumbers_k18_texts_refused_holds : PySem.Challenge.rw_leftnumbers_k18_texts_refused.Holds := by
  w_on; o_law; k_head; (case hw => w_witness2)
  k_fill
  refine K18.walk (l := PySem.Challenge.rw_leftnumbers_k18_texts_refused) rfl rfl (fun w h Y => PySem.W.kIn_of Y) ?F
  case F =>
    intro w mg fa h KX G hmg
    refine' K18.all_mk KX G hmg ?a0 ?l0 ?c0 ?k0 ?a1 ?l1 ?c1 ?k1 ?a2 ?l2 ?c2 ?k2 ?a3 ?l3 ?c3 ?k3 ?a4 ?l4 ?c4 ?k4 ?a5 ?l5 ?c5 ?k5 ?a6 ?l6 ?c6 ?k6 ?a7 ?l7 ?c7 ?k7 ?a8 ?l8 ?c8 ?k8 ?a9 ?l9 ?c9 ?k9 ?a10 ?l10 ?c10 ?k10 ?a11 ?l11 ?c11 ?k11 ?a12 ?l12 ?c12 ?k12 ?a13 ?l13 ?c13 ?k13 ?a14 ?l14 ?c14 ?k14 ?a15 ?l15 ?c15 ?k15 ?a_PRIMES_ ?l_PRIMES ?v_PRIMES ?a_MOST_FIGURES_ ?a_DECIMALS_ ?a_LeftError_ ?a_NoPrime_ ?a_NoFraction_ ?a_NoPlace_ ?a_NoFigures_ ?a_NoText_ ?a_Unlike_ ?a_NoQuotient_ ?a_NoPower_ ?a_TooFew_ ?a_NoSize_ ?a_NoPolynomial_ ?a_NoDepth_ ?a_NoRoot_ ?a_NotNear_ ?x_LeftError ?x_NoText ?ga_NoText ?gt_NoText ?cl_NoText ?ob_NoText ?be_NoText ?ci_NoText ?kt_NoText_NoText ?kt_NoText_ValueError ?kt_NoText_NoPrime ?kt_NoText_NoPlace ?kt_NoText_NoFigures ?kt_NoText_NoFraction ?kt_NoText_Unlike ?kt_NoText_NoQuotient ?kt_NoText_NoPower ?kt_NoText_TooFew ?kt_NoText_NoSize ?kt_NoText_NoPolynomial ?kt_NoText_NoDepth ?kt_NoText_NoRoot ?kt_NoText_NotNear ?sb_NoText ?z_ValueError ?z_all ?z_any ?z_bool ?z_int ?z_isinstance ?z_len ?z_reversed ?z_str ?z_tuple
    (case a0 => k_is)
    (case l0 => k_is)
    (case c0 => k_is)
    (case k0 => k_is)
    (case a1 => k_is)
    (case l1 => k_is)
    (case c1 => k_is)
    (case k1 => k_is)
    (case a2 => k_is)
    (case l2 => k_is)
    (case c2 => k_is)
    (case k2 => k_is)
    (case a3 => k_is)
    (case l3 => k_is)
    (case c3 => k_is)
    (case k3 => k_is)
    (case a4 => k_is)
    (case l4 => k_is)
    (case c4 => k_is)
    (case k4 => k_is)
    (case a5 => k_is)
    (case l5 => k_is)
    (case c5 => k_is)
    (case k5 => k_is)
    (case a6 => k_is)
    (case l6 => k_is)
    (case c6 => k_is)
    (case k6 => k_is)
    (case a7 => k_is)
    (case l7 => k_is)
    (case c7 => k_is)
    (case k7 => k_is)
    (case a8 => k_is)
    (case l8 => k_is)
    (case c8 => k_is)
    (case k8 => k_is)
    (case a9 => k_is)
    (case l9 => k_is)
    (case c9 => k_is)
    (case k9 => k_is)
    (case a10 => k_is)
    (case l10 => k_is)
    (case c10 => k_is)
    (case k10 => k_is)
    (case a11 => k_is)
    (case l11 => k_is)
    (case c11 => k_is)
    (case k11 => k_is)
    (case a12 => k_is)
    (case l12 => k_is)
    (case c12 => k_is)
    (case k12 => k_is)
    (case a13 => k_is)
    (case l13 => k_is)
    (case c13 => k_is)
    (case k13 => k_is)
    (case a14 => k_is)
    (case l14 => k_is)
    (case c14 => k_is)
    (case k14 => k_is)
    (case a15 => k_is)
    (case l15 => k_is)
    (case c15 => k_is)
    (case k15 => k_is)
    (case a_PRIMES_ => k_is)
    (case l_PRIMES => k_is)
    (case v_PRIMES => exact ⟨by decide, by repeat (first | exact .nil | refine .cons ⟨_, rfl⟩ ?_)⟩)
    (case a_MOST_FIGURES_ => k_is)
    (case a_DECIMALS_ => k_is)
    (case a_LeftError_ => k_is)
    (case a_NoPrime_ => k_is)
    (case a_NoFraction_ => k_is)
    (case a_NoPlace_ => k_is)
    (case a_NoFigures_ => k_is)
    (case a_NoText_ => k_is)
    (case a_Unlike_ => k_is)
    (case a_NoQuotient_ => k_is)
    (case a_NoPower_ => k_is)
    (case a_TooFew_ => k_is)
    (case a_NoSize_ => k_is)
    (case a_NoPolynomial_ => k_is)
    (case a_NoDepth_ => k_is)
    (case a_NoRoot_ => k_is)
    (case a_NotNear_ => k_is)
    (case x_LeftError => k_exc)
    (case x_NoText => k_exc)
    (case ga_NoText => k_is)
    (case gt_NoText => k_is)
    (case cl_NoText => k_is)
    (case ob_NoText => k_is)
    (case be_NoText => k_is)
    (case ci_NoText => k_is)
    (case kt_NoText_NoText => kit_is)
    (case kt_NoText_ValueError => kit_is)
    (case kt_NoText_NoPrime => kit_is)
    (case kt_NoText_NoPlace => kit_is)
    (case kt_NoText_NoFigures => kit_is)
    (case kt_NoText_NoFraction => kit_is)
    (case kt_NoText_Unlike => kit_is)
    (case kt_NoText_NoQuotient => kit_is)
    (case kt_NoText_NoPower => kit_is)
    (case kt_NoText_TooFew => kit_is)
    (case kt_NoText_NoSize => kit_is)
    (case kt_NoText_NoPolynomial => kit_is)
    (case kt_NoText_NoDepth => kit_is)
    (case kt_NoText_NoRoot => kit_is)
    (case kt_NoText_NotNear => kit_is)
    (case sb_NoText => k_is)
    (case z_ValueError => k_is)
    (case z_all => k_is)
    (case z_any => k_is)
    (case z_bool => k_is)
    (case z_int => k_is)
    (case z_isinstance => k_is)
    (case z_len => k_is)
    (case z_reversed => k_is)
    (case z_str => k_is)
    (case z_tuple => k_is)
