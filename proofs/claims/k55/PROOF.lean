import PyProof.Rows.All
import Wide.All
import OpenK.AllK
import Wide.FinOn
import Lean
import PyProof.EqAt
import PyProof.EqKinds
import PyProof.TupleCall
import PySem.Challenge.RW_leftnumbers_k55_whole_found_behind_deeds
set_option Elab.async false
set_option linter.all false
set_option maxRecDepth 100000
/-! THE HAND LAYER, for ints, bools, texts, own classes, LISTS and tuples (index, slices, in, append, pop ..), calls, loops. Paste it whole ahead of your own text; what your proof does not reach may be deleted. -/
namespace L2
open PySem PySem.Spec PyProof.Rows
/-- a key: an int or a str -/
abbrev Key := Sum Int Str
def keyIs : Key → Value → Bool
  | .inl k, v => Value.isInt k v
  | .inr x, v => Value.isStrOf x v
def keyH (w : World) : Key → Int
  | .inl k => hashInt k
  | .inr x => hashStr w x
theorem keyIs_shape : ∀ {k : Key} {v : Value}, keyIs k v = true → (∃ i t, k = Sum.inl i ∧ v = Value.int i t) ∨ (∃ x t, k = Sum.inr x ∧ v = Value.str x t)
  | .inl i, v, h => by
    obtain ⟨t, e⟩ := Value.isInt_shape (k := i) (v := v) h
    exact .inl ⟨i, t, rfl, e⟩
  | .inr x, v, h => by
    obtain ⟨t, e⟩ := Value.isStrOf_shape (x := x) (v := v) h
    exact .inr ⟨x, t, rfl, e⟩
theorem key_ll (a b : Int) : decide ((Sum.inl a : Key) = Sum.inl b) = (a == b) := by
  by_cases e : a = b
  · subst e; simp
  · have h : ¬ (Sum.inl a : Key) = Sum.inl b := fun q => e (Sum.inl.inj q)
    rw [decide_eq_false h]
    exact (beq_eq_false_iff_ne.mpr e).symm
theorem key_rr (a b : Str) : decide ((Sum.inr a : Key) = Sum.inr b) = decide (a = b) := by
  by_cases e : a = b
  · subst e; simp
  · have h : ¬ (Sum.inr a : Key) = Sum.inr b := fun q => e (Sum.inr.inj q)
    rw [decide_eq_false h, decide_eq_false e]
theorem key_lr (a : Int) (b : Str) : decide ((Sum.inl a : Key) = Sum.inr b) = false := decide_eq_false (fun q => nomatch q)
theorem key_rl (a : Str) (b : Int) : decide ((Sum.inr a : Key) = Sum.inl b) = false := decide_eq_false (fun q => nomatch q)
def mixKind (prog : Program) (w : World) : PySem.KeyKind prog w Key where
  is := keyIs
  hash := keyH w
  inj := fun v a b ha hb => by
    rcases keyIs_shape ha with ⟨i, t, rfl, rfl⟩ | ⟨x, t, rfl, rfl⟩
    · rcases keyIs_shape hb with ⟨j, u, rfl, e⟩ | ⟨y, u, rfl, e⟩
      · injection e with e1 _; rw [e1]
      · exact nomatch e
    · rcases keyIs_shape hb with ⟨j, u, rfl, e⟩ | ⟨y, u, rfl, e⟩
      · exact nomatch e
      · injection e with e1 _; rw [e1]
  byValue := fun k v h => by
    rcases keyIs_shape h with ⟨i, t, rfl, rfl⟩ | ⟨x, t, rfl, rfl⟩ <;> rfl
  pyHash := fun hv h => by
    rcases keyIs_shape hv with ⟨i, t, rfl, rfl⟩ | ⟨x, t, rfl, rfl⟩
    · exact wpAny_pyHash_int h
    · exact wpAny_pyHash_str h
  eqBool := fun hu hv h => by
    rcases keyIs_shape hu with ⟨i, t, rfl, rfl⟩ | ⟨x, t, rfl, rfl⟩
    · rcases keyIs_shape hv with ⟨j, u, rfl, rfl⟩ | ⟨y, u, rfl, rfl⟩
      · rw [key_ll] at h; exact wpAny_eqBool_int h
      · rw [key_lr] at h; exact SeqAt.EqAt.int_str i t y u _ _ _ _ h
    · rcases keyIs_shape hv with ⟨j, u, rfl, rfl⟩ | ⟨y, u, rfl, rfl⟩
      · rw [key_rl] at h; exact SeqAt.EqAt.str_int x t j u _ _ _ _ h
      · rw [key_rr] at h; exact wpAny_eqBool_str h
  «strs» := fun k x t v h => by
    rcases keyIs_shape h with ⟨i, u, rfl, e⟩ | ⟨y, u, rfl, e⟩
    · exact nomatch e
    · injection e with e1 _
      subst e1
      cases v <;> rfl
end L2
namespace L2
open PySem PySem.Spec PyProof.Rows
/-- a value, without the heap -/
inductive V where
  | non | bl (b : Bool) | int (i : Int) | str (x : Str) | byt (b : Array UInt8) | flt (b : UInt64) | ref (a : Addr) | ty (n : String)
  deriving DecidableEq
def RelV : V → Value → Prop
  | .non, u => u = Value.none
  | .bl b, u => u = Value.bool b
  | .int i, u => ∃ t, u = Value.int i t
  | .str x, u => ∃ t, u = Value.str x t
  | .byt b, u => ∃ t, u = Value.bytes b t
  | .flt b, u => ∃ t, u = Value.float b t
  | .ref a, u => u = Value.ref a
  | .ty n, u => u = Value.type n
abbrev Vals : List V → List Value → Prop := Paired RelV
theorem Vals.length {xs : List V} {us : List Value} (r : Vals xs us) : xs.length = us.length := Paired.length r
theorem Vals.get : ∀ {xs : List V} {us : List Value} {i : Nat} {x : V}, Vals xs us → xs[i]? = some x → ∃ u, us[i]? = some u ∧ RelV x u
  | _, _, _, _, .nil, e => by simp at e
  | _, _, 0, _, .cons r _, e => by simp at e; subst e; exact ⟨_, rfl, r⟩
  | _, _, i + 1, x, .cons _ t, e => by
    obtain ⟨u, h1, h2⟩ := Vals.get (i := i) (x := x) t (by simpa using e)
    exact ⟨u, by simpa using h1, h2⟩
theorem Vals.append : ∀ {xs ys : List V} {us ws : List Value}, Vals xs us → Vals ys ws → Vals (xs ++ ys) (us ++ ws)
  | _, _, _, _, .nil, s => s
  | _, _, _, _, .cons r t, s => .cons r (Vals.append t s)
theorem Vals.take : ∀ {xs : List V} {us : List Value} (n : Nat), Vals xs us → Vals (xs.take n) (us.take n)
  | _, _, 0, _ => .nil
  | _, _, _ + 1, .nil => .nil
  | _, _, n + 1, .cons r t => .cons r (Vals.take n t)
theorem Vals.drop : ∀ {xs : List V} {us : List Value} (n : Nat), Vals xs us → Vals (xs.drop n) (us.drop n)
  | _, _, 0, r => r
  | _, _, _ + 1, .nil => .nil
  | _, _, n + 1, .cons _ t => Vals.drop n t
def RelO : Option V → Option Value → Prop
  | some v, some u => RelV v u
  | none, none => True
  | _, _ => False
def KV {κ : Type} : List (κ × V) → List (κ × Value) → Prop := Paired fun (p : κ × V) (q : κ × Value) => p.1 = q.1 ∧ RelV p.2 q.2
/-- a key of a dict (00_mix): an int or a text -/
def kV : Key → V
  | .inl i => .int i
  | .inr x => .str x
/-- what stands at a tracked address -/
inductive HO where
  /-- a list -/
  | lst (xs : List V)
  /-- a tuple (never changes) -/
  | tup (xs : List V)
  /-- a dict whose keys are ints and texts; one whose keys are tuples of ints and texts (the empty one is both) -/
  | dK (kvs : List (Key × V)) | dT (kvs : List (List Key × V))
  /-- a set of ints: its members, its size -/
  | set (S : Int → Bool) (n : Nat)
  /-- an instance of the class at C, its dict at dx, its attributes -/
  | ins (C dx : Addr) (fs : List (Str × V))
  /-- the dict of the instance at x -/
  | own (x : Addr)
  /-- the dict of an exception -/
  | xd (fs : List (Str × V))
  /-- a bound method, f of x -/
  | met (f x : Addr)
  /-- a range object lo, lo + 1, .. below hi -/
  | rng (lo hi : Int)
  /-- a thing that is known to the object (the script; a dict while a loop walks it): read, never written while it is so -/
  | frz (o : Obj) (u : HO)
  /-- a code object's table -/
  | tbl (ps : Array Value)
  /-- any other thing, by what is true of its one object (a def of one's own: SetO a S n := HO.ext fun h => ..) -/
  | ext (φ : Heap → Prop)
abbrev Hp := Addr → Option HO
def upd (H : Hp) (a : Addr) (o : HO) : Hp := fun b => if b = a then some o else H b
theorem upd_same {H : Hp} {a : Addr} {o : HO} : upd H a o a = some o := by unfold upd; rw [if_pos rfl]
theorem upd_ne {H : Hp} {a b : Addr} {o : HO} (h : b ≠ a) : upd H a o b = H b := by unfold upd; rw [if_neg h]
theorem upd_upd {H : Hp} {a : Addr} {o u : HO} : upd (upd H a o) a u = upd H a u := by
  funext b; unfold upd; split <;> rfl
theorem ne_of_none {H : Hp} {a b : Addr} {o : HO} (h : H a = some o) (h' : H b = none) : a ≠ b := by
  intro e; subst e; rw [h] at h'; cases h'
section
variable (P : Program) (w : World)
def ObjOk (H : Hp) (h : Heap) (a : Addr) : HO → Prop
  | .lst xs => xs.length ≤ sizeLine ∧ ∃ (its : List Value) (n : Nat), Vals xs its ∧ h.get? a = some { cls := .type "list", data := .seq its.toArray n }
  | .tup xs => xs.length ≤ sizeLine ∧ ∃ its : List Value, Vals xs its ∧ IsTup h a its.toArray
  | .dK kvs => kvs.length ≤ sizeLine ∧ (a == sysModules) = false ∧ ∃ vs, KV kvs vs ∧ h.DictOf (mixKind P w) a vs
  | .dT kvs => kvs.length ≤ sizeLine ∧ (a == sysModules) = false ∧ ∃ xs : List (List Key × Addr × Value),
      Paired (fun (p : List Key × V) (q : List Key × Addr × Value) => p.1 = q.1 ∧ H q.2.1 = some (.tup (p.1.map kV)) ∧ RelV p.2 q.2.2) kvs xs ∧
      ∃ o es ep, h.get? a = some o ∧ o.ExactDict ∧ o.data = .dict es ep ∧ es.toList = xs.map (entryOfKey (tupleKind (mixKind P w))) ∧ (xs.map (·.1)).Nodup
  | .set S n => h.SetOf (intKind P w) a S n
  | .ins C dx fs => H dx = some (.own a) ∧ fs.length ≤ 1000 ∧ dx ≠ a ∧ h.get? a = some (PySem.W.instObj C dx) ∧
      ∃ mA, h.Ns1 dx mA ∧ (∀ f, RelO (fs.lookup f) (mA f)) ∧ PySem.Within mA (fs.map (·.1))
  | .own _ => ∃ o, h.get? a = some o
  | .xd fs => ∃ mA, h.Ns1 a mA ∧ ∀ f, RelO (fs.lookup f) (mA f)
  | .rng lo hi => ∃ t u v, h.get? a = some { cls := .type "range", data := .fields #[.int lo t, .int hi u, .int 1 v] }
  | .frz o u => h.get? a = some o ∧ ObjOk H h a u
  | .tbl ps => h.get? a = some { cls := .none, data := .fields ps }
  | .met f x => h.get? a = some (PySem.W.methodObj (.ref f) (.ref x))
  | .ext φ => φ h ∧ (∃ o, h.get? a = some o) ∧ ∀ h1 h2 : Heap, φ h1 → (∀ o, h1.get? a = some o → h2.get? a = some o) → φ h2
/-- the abstract heap is held -/
def HOk (H : Hp) (h : Heap) : Prop := ∀ a o, H a = some o → ObjOk P w H h a o
end
section
variable {P : Program} {w : World} {H H' : Hp} {h h' : Heap} {a : Addr} {o : HO}
theorem ObjOk.lt (x : ObjOk P w H h a o) : a < h.objs.size := by
  cases o with
  | lst xs => obtain ⟨_, _, _, _, e⟩ := x; exact Heap.lt_size e
  | tup xs => obtain ⟨_, _, _, p⟩ := x; exact p.lt
  | dK kvs => obtain ⟨_, _, _, _, o, _, _, e, _⟩ := x; exact Heap.lt_size e
  | dT kvs => obtain ⟨_, _, _, _, o, _, _, e, _⟩ := x; exact Heap.lt_size e
  | set S n => obtain ⟨o, _, _, _, e, _⟩ := x; exact Heap.lt_size e
  | ins C dx fs => obtain ⟨_, _, _, e, _⟩ := x; exact Heap.lt_size e
  | own y => obtain ⟨_, e⟩ := x; exact Heap.lt_size e
  | xd fs => obtain ⟨_, ⟨_, _, _, e, _⟩, _⟩ := x; exact Heap.lt_size e
  | rng lo hi => obtain ⟨_, _, _, e⟩ := x; exact Heap.lt_size e
  | frz ob u => obtain ⟨e, _⟩ := x; exact Heap.lt_size e
  | tbl ps => exact Heap.lt_size (show h.get? a = some _ from x)
  | met f y => exact Heap.lt_size (show h.get? a = some _ from x)
  | ext φ => obtain ⟨_, ⟨_, e⟩, _⟩ := x; exact Heap.lt_size e
theorem Paired.mapP {α β : Type} {F G : α → β → Prop} : ∀ {l₁ : List α} {l₂ : List β}, Paired F l₁ l₂ → (∀ a b, F a b → G a b) → Paired G l₁ l₂
  | _, _, .nil, _ => .nil
  | _, _, .cons r t, f => .cons (f _ _ r) (Paired.mapP t f)
/-- what an object's description leans on: its own object, its own dict, the tuples -/
theorem ObjOk.stay (x : ObjOk P w H h a o) (k : ∀ b u, (b = a ∨ H b = some (.own a)) → h.get? b = some u → h'.get? b = some u)
    (ho : ∀ b, H b = some (.own a) → H' b = some (.own a)) (ht : ∀ b xs, H b = some (.tup xs) → H' b = some (.tup xs)) : ObjOk P w H' h' a o := by
  induction o with
  | lst xs => obtain ⟨z, its, n, r, e⟩ := x; exact ⟨z, its, n, r, k _ _ (.inl rfl) e⟩
  | tup xs => obtain ⟨z, its, r, ob, e, c⟩ := x; exact ⟨z, its, r, ob, k _ _ (.inl rfl) e, c⟩
  | dK kvs => obtain ⟨z, y, vs, r, ob, es, ep, e, c⟩ := x; exact ⟨z, y, vs, r, ob, es, ep, k _ _ (.inl rfl) e, c⟩
  | dT kvs =>
    obtain ⟨z, y, xs, r, ob, es, ep, e, c⟩ := x
    exact ⟨z, y, xs, Paired.mapP r fun p q z => ⟨z.1, ht _ _ z.2.1, z.2.2⟩, ob, es, ep, k _ _ (.inl rfl) e, c⟩
  | set S n => obtain ⟨ob, es, ep, t, e, c⟩ := x; exact ⟨ob, es, ep, t, k _ _ (.inl rfl) e, c⟩
  | ins C dx fs =>
    obtain ⟨d, z, ne, e, mA, ⟨od, es, ep, e2, c⟩, r⟩ := x
    exact ⟨ho _ d, z, ne, k _ _ (.inl rfl) e, mA, ⟨od, es, ep, k _ _ (.inr d) e2, c⟩, r⟩
  | own y => obtain ⟨ob, e⟩ := x; exact ⟨ob, k _ _ (.inl rfl) e⟩
  | xd fs => obtain ⟨mA, ⟨od, es, ep, e, c⟩, r⟩ := x; exact ⟨mA, ⟨od, es, ep, k _ _ (.inl rfl) e, c⟩, r⟩
  | rng lo hi => obtain ⟨t, u, v, e⟩ := x; exact ⟨t, u, v, k _ _ (.inl rfl) e⟩
  | frz ob u ih => obtain ⟨e, q⟩ := x; exact ⟨k _ _ (.inl rfl) e, ih q⟩
  | tbl ps =>
    have e : h.get? a = some { cls := .none, data := .fields ps } := x
    show h'.get? a = some { cls := .none, data := .fields ps }
    exact k a _ (.inl rfl) e
  | met f y =>
    have e : h.get? a = some (PySem.W.methodObj (.ref f) (.ref y)) := x
    show h'.get? a = some (PySem.W.methodObj (.ref f) (.ref y))
    exact k a _ (.inl rfl) e
  | ext φ => obtain ⟨p, ⟨o, e⟩, st⟩ := x; exact ⟨st _ _ p fun o q => k _ _ (.inl rfl) q, ⟨o, k _ _ (.inl rfl) e⟩, st⟩
theorem HOk.lt (x : HOk P w H h) (e : H a = some o) : a < h.objs.size := (x a o e).lt
theorem HOk.fresh (x : HOk P w H h) (e : h.objs.size ≤ a) : H a = none := by
  cases q : H a with
  | none => rfl
  | some u => exact absurd (Nat.lt_of_lt_of_le (x.lt q) e) (Nat.lt_irrefl _)
/-- every object of the heap is kept -/
theorem HOk.kept (x : HOk P w H h) (k : ∀ b u, h.get? b = some u → h'.get? b = some u) : HOk P w H h' := fun a o e =>
  (x a o e).stay (fun b u _ q => k b u q) (fun _ q => q) fun _ _ q => q
/-- a new object is laid and tracked -/
theorem HOk.laid (x : HOk P w H h) (k : ∀ b u, h.get? b = some u → h'.get? b = some u) (hp : h.objs.size ≤ a) (new : ObjOk P w (upd H a o) h' a o) : HOk P w (upd H a o) h' := fun b u e => by
  have hn := x.fresh hp
  by_cases hb : b = a
  · subst hb; rw [upd_same] at e; cases e; exact new
  · rw [upd_ne hb] at e
    exact (x b u e).stay (fun c v _ q => k c v q) (fun c q => by rw [upd_ne (ne_of_none q hn)]; exact q) fun c xs q => by rw [upd_ne (ne_of_none q hn)]; exact q
end
/-- what may be read as u: it is u, or a known u -/
def Rd (H : Hp) (a : Addr) (u : HO) : Prop := H a = some u ∨ ∃ o, H a = some (.frz o u)
theorem Rd.ok {P : Program} {w : World} {H : Hp} {h : Heap} {a : Addr} {u : HO} (r : Rd H a u) (x : HOk P w H h) : ObjOk P w H h a u := by
  rcases r with r | ⟨o, r⟩
  · exact x a u r
  · obtain ⟨_, q⟩ := x a _ r
    exact q
/-- what may be written -/
def Mut : Option HO → Prop
  | some (.lst _) => True
  | some (.dK _) => True
  | some (.dT _) => True
  | some (.set _ _) => True
  | some (.ins _ _ _) => True
  | some (.ext _) => True
  | _ => False
section
variable {P : Program} {w : World} {H : Hp} {h h' : Heap} {x e : Addr} {o' : HO}
/-- the object at e is changed: x itself, or the dict of the instance x -/
theorem HOk.write (ok : HOk P w H h) (mu : Mut (H x)) (he : e = x ∨ H e = some (.own x)) (k : ∀ b u, b ≠ e → h.get? b = some u → h'.get? b = some u) (heo : ∃ u, h'.get? e = some u)
    (new : ObjOk P w (upd H x o') h' x o') : HOk P w (upd H x o') h' := fun b u q => by
  have nown : ∀ c y, H c = some (.own y) → c ≠ x := fun c y r z => by subst z; rw [r] at mu; exact mu
  have ntup : ∀ c xs, H c = some (.tup xs) → c ≠ x := fun c xs r z => by subst z; rw [r] at mu; exact mu
  by_cases hb : b = x
  · subst hb; rw [upd_same] at q; cases q; exact new
  · rw [upd_ne hb] at q
    by_cases hbe : b = e
    · have q' : H b = some (.own x) := by
        rcases he with z | z
        · exact absurd (hbe.trans z) hb
        · rw [hbe]; exact z
      rw [q] at q'; cases q'
      obtain ⟨v, hv⟩ := heo
      exact ⟨v, by rw [hbe]; exact hv⟩
    · refine (ok b u q).stay (fun c v hc r => k c v ?_ r) (fun c r => by rw [upd_ne (nown c b r)]; exact r) fun c xs r => by rw [upd_ne (ntup c xs r)]; exact r
      rcases hc with rfl | hc
      · exact hbe
      · rintro rfl
        rcases he with z | z
        · exact nown c b hc z
        · rw [hc] at z; cases z; exact hb rfl
end
/-! ### kept unless tracked; of the frames at fs (the callers') the slots may change (an exception that passes writes there); of the records at ex (iterators) nothing is said -/
structure Un (fs ex : List Addr) (H H' : Hp) (h h' : Heap) : Prop where
  keep : ∀ b o, h.get? b = some o → H b = none → b ∉ fs → b ∉ ex → h'.get? b = some o
  slot : ∀ b o, h.get? b = some o → H b = none → b ∈ fs → b ∉ ex → ∃ sl, h'.get? b = some { o with slots := sl }
  free : ∀ b o, h.get? b = some o → H b = none → b ∉ ex → H' b = none
  there : ∀ b o, h.get? b = some o → b ∉ ex → ∃ o', h'.get? b = some o'
  tups : ∀ b xs, H b = some (.tup xs) → H' b = some (.tup xs)
  frzs : ∀ b o u, H b = some (.frz o u) → H' b = some (.frz o u)
  tbls : ∀ b ps, H b = some (.tbl ps) → ∃ more, H' b = some (.tbl (ps ++ more))
section
variable {fs fs' ex ex' : List Addr} {H H1 H2 : Hp} {h h1 h2 h' : Heap} {a x e : Addr} {o : HO}
theorem Un.any (u : Un fs ex H H1 h h1) {b : Addr} {ob : Obj} (q : h.get? b = some ob) (n : H b = none) (hx : b ∉ ex) : ∃ sl, h1.get? b = some { ob with slots := sl } := by
  by_cases hb : b ∈ fs
  · exact u.slot b ob q n hb hx
  · exact ⟨ob.slots, u.keep b ob q n hb hx⟩
theorem Un.kept (k : ∀ b u, h.get? b = some u → h'.get? b = some u) : Un fs ex H H h h' :=
  ⟨fun b ob q _ _ _ => k b ob q, fun b ob q _ _ _ => ⟨ob.slots, k b ob q⟩, fun _ _ _ n _ => n, fun b ob q _ => ⟨ob, k b ob q⟩, fun _ _ q => q, fun _ _ _ q => q, fun _ ps q => ⟨#[], by rw [q]; simp⟩⟩
theorem Un.refl : Un fs ex H H h h := Un.kept fun _ _ q => q
theorem Un.laid (k : ∀ b u, h.get? b = some u → h'.get? b = some u) (hp : h.objs.size ≤ a) (hn : H a = none) : Un fs ex H (upd H a o) h h' where
  keep := fun b u q _ _ _ => k b u q
  slot := fun b u q _ _ _ => ⟨u.slots, k b u q⟩
  free := fun b u q n _ => by rw [upd_ne (Nat.ne_of_lt (Nat.lt_of_lt_of_le (Heap.lt_size q) hp))]; exact n
  there := fun b u q _ => ⟨u, k b u q⟩
  tups := fun b xs q => by rw [upd_ne (ne_of_none q hn)]; exact q
  frzs := fun b u xs q => by rw [upd_ne (ne_of_none q hn)]; exact q
  tbls := fun b ps q => ⟨#[], by rw [upd_ne (ne_of_none q hn), q]; simp⟩
theorem Un.write (mu : Mut (H x)) (he : e = x ∨ H e = some (.own x)) (k : ∀ b u, b ≠ e → h.get? b = some u → h'.get? b = some u) (heo : ∃ u, h'.get? e = some u) : Un fs ex H (upd H x o) h h' := by
  have hx : ∀ b, H b = none → b ≠ x := fun b n z => by subst z; rw [n] at mu; exact mu
  have hb : ∀ b, H b = none → b ≠ e := fun b n z => by
    subst z
    rcases he with r | r
    · exact hx b n r
    · rw [n] at r; cases r
  have hm : ∀ b u, H b = some u → ¬ Mut (some u) → b ≠ x := fun b u q nm z => by subst z; rw [q] at mu; exact nm mu
  refine ⟨fun b u q n _ _ => k b u (hb b n) q, fun b u q n _ _ => ⟨u.slots, k b u (hb b n) q⟩, fun b u q n _ => by rw [upd_ne (hx b n)]; exact n, fun b u q _ => ?_,
    fun b xs q => by rw [upd_ne (hm b _ q fun z => z)]; exact q, fun b u xs q => by rw [upd_ne (hm b _ q fun z => z)]; exact q, fun b ps q => ⟨#[], by rw [upd_ne (hm b _ q fun z => z), q]; simp⟩⟩
  by_cases hbe : b = e
  · subst hbe; exact heo
  · exact ⟨u, k b u hbe q⟩
end
/-! ### the heap without what is tracked -/
def trk (h : Heap) (H : Hp) : List Addr := (List.range h.objs.size).filter fun a => (H a).isSome
def hidT (h : Heap) (H : Hp) : Heap := PySem.W.hideAll h (trk h H)
theorem hidT_size (h : Heap) (H : Hp) : (hidT h H).objs.size = h.objs.size := PySem.W.hideAll_size _ _
theorem hidT_get {h : Heap} {H : Hp} {b : Addr} {o : Obj} (e : h.get? b = some o) (n : H b = none) : (hidT h H).get? b = some o :=
  PySem.W.hideAll_get _ e fun hm => by
    have q : (H b).isSome = true := (List.mem_filter.mp hm).2
    rw [n] at q; simp at q
theorem of_hidT {h : Heap} {H : Hp} {b : Addr} {o : Obj} (e : (hidT h H).get? b = some o) : h.get? b = some o ∧ H b = none := by
  have e' : h.get? b = some o := PySem.W.of_hideAll (trk h H) e
  refine ⟨e', ?_⟩
  cases q : H b with
  | none => rfl
  | some x =>
    have hm : b ∈ trk h H := List.mem_filter.mpr ⟨List.mem_range.mpr (Heap.lt_size e'), by simp [q]⟩
    have z : (hidT h H).get? b = none := PySem.W.hideAll_none (trk h H) hm
    rw [z] at e; cases e
/-! ### OpenK's ledger, filled with every new object but one -/
def allNews (g h : Heap) (L : Addr) : List (Addr × Obj) := (List.range h.objs.size).filterMap fun a => if a = L ∨ (g.get? a).isSome = true then none else (h.get? a).map fun o => (a, o)
def rest (g h : Heap) (L d : Addr) : List (Addr × Obj) := (allNews g h L).filter fun p => decide (p.1 ≠ d)
end L2
namespace L2
open PySem PySem.Spec PyProof.Rows
/-- the module's facts, over the base: the heap at the law's entry without what is tracked there -/
structure Mod (K : PySem.W.Frag) (mg : Str → Option Value) (base : Heap) : Prop where
  kin : K.In base
  glob : base.Ns mainGlobals mg
  blt : ∃ mb, base.Ns builtinsNs mb ∧ ∀ x : Str, x ≠ "__name__" → mb x = bootBuiltins x
  nolimit : base.NoLimit
/-- the context: a def's body (or a comprehension's block) running. base: fixed through the whole law; s₀, H₀: the entry; outer: the frames whose slots others may change (a def's callers); stack: all frames that run;
   ex: iterators that were made ahead of the entry and are walked here (a comprehension's); fn: the names whose cells were made at the entry (a def: all; a comprehension's block: its own); calm: not within an except suite; pn: pins that every state bears; xe: what is wanted of an exception that leaves the code -/
structure Cx where
  prog : Program
  w : World
  K : PySem.W.Frag
  mg : Str → Option Value
  base : Heap
  A : Around
  N : List Str
  s₀ : Shared
  H₀ : Hp
  env : Env
  outer : List Env
  stack : List Env
  ex : List Addr
  fn : Str → Bool
  calm : Bool
  pn : List (Addr × Obj)
  xe : Value → Shared → Prop
/-- the callers' frames -/
def frs (l : List Env) : List Addr := l.filterMap (·.frame)
abbrev Cx.fs (X : Cx) : List Addr := frs X.outer
def Vis (sc : Scope) (x : Str) : Prop := sc.names.lookup x = some .local ∨ sc.names.lookup x = some .cell ∨ sc.names.lookup x = some .free
def Loc (sc : Scope) (x : Str) : Prop := sc.names.lookup x = some .local ∨ sc.names.lookup x = some .cell
def Look (env : Env) (h : Heap) (m : Str → Option Value) (x : Str) (u : Value) : Prop :=
  (env.kindOf x = some .local ∧ m x = some u) ∨ ((env.kindOf x = some .cell ∨ env.kindOf x = some .free) ∧ ∃ c, env.cells.lookup x = some c ∧ h.IsCell c (some u))
structure Cx.Ok (X : Cx) : Prop where
  mod : Mod X.K X.mg X.base
  kind : X.env.scope.kind = .function
  glob : X.env.globals = mainGlobals
  blt : X.env.builtins = builtinsNs
  above : X.s₀.heap.objs.size ≤ X.env.locals
  inj : ∀ x y c, X.env.cells.lookup x = some c → X.env.cells.lookup y = some c → x = y
  has : ∀ x, (X.env.kindOf x = some .cell ∨ X.env.kindOf x = some .free) → ∃ c, X.env.cells.lookup x = some c
  cab : ∀ x c, X.fn x = true → X.env.cells.lookup x = some c → X.s₀.heap.objs.size ≤ c
  hd : X.calm = true → X.A.handled = none
  frames : X.A.frames = some X.stack
  stk : X.stack = X.outer ∨ (X.stack = X.env :: X.outer ∧ X.env.frame = some X.env.locals)
  exf : ∀ b ∈ X.ex, b ≠ X.env.locals ∧ ∀ x c, X.env.cells.lookup x = some c → c ≠ b
  bs : ∀ b o, X.base.get? b = some o → X.s₀.heap.get? b = some o ∧ X.H₀ b = none
  bsz : X.base.objs.size ≤ X.s₀.heap.objs.size
  noex : ∀ b o, X.base.get? b = some o → b ∉ X.ex
  exfs : ∀ b ∈ X.ex, b ∉ X.fs
  funs : X.s₀.heap.FunFrames X.base X.outer
  frf : ∀ b ∈ X.fs, X.H₀ b = none
structure Inv (X : Cx) (pins : List (Addr × Obj)) (σ : List (Option V)) (H : Hp) (s : Shared) : Prop where
  ok : X.Ok
  os : s.os = X.s₀.os
  bare : AllBare s.gens
  base : Un X.fs X.ex X.H₀ H X.s₀.heap s.heap
  loc : ∃ m, s.heap.Ns X.env.locals m ∧ ∀ (i : Nat) (x : Str) (v : V), X.N[i]? = some x → σ[i]? = some (some v) → Vis X.env.scope x → ∃ u, RelV v u ∧ Look X.env s.heap m x u
  cell : ∀ x c, X.env.cells.lookup x = some c → ∃ v, s.heap.IsCell c v
  free : H X.env.locals = none
  freeC : ∀ x c, X.env.cells.lookup x = some c → H c = none
  pin : ∀ p ∈ X.pn ++ pins, s.heap.get? p.1 = some p.2 ∧ H p.1 = none ∧ p.1 ≠ X.env.locals ∧ p.1 ∉ X.fs ∧ ∀ v, p.2.data ≠ .cell v
  hok : HOk X.prog X.w H s.heap
  len : σ.length = X.N.length
section
variable {X : Cx} {pins : List (Addr × Obj)} {σ : List (Option V)} {H H' : Hp} {s : Shared} {h' : Heap}
theorem Cx.Ok.nofr (ok : X.Ok) {b : Addr} {o : Obj} (e : X.base.get? b = some o) : b ∉ X.fs := fun hb => by
  have := (ok.funs.mem hb).1
  rw [e] at this; cases this
theorem Inv.bs (I : Inv X pins σ H s) : ∀ b o, X.base.get? b = some o → s.heap.get? b = some o ∧ H b = none := fun b o e =>
  ⟨I.base.keep b o (I.ok.bs b o e).1 (I.ok.bs b o e).2 (I.ok.nofr e) (I.ok.noex b o e), I.base.free b o (I.ok.bs b o e).1 (I.ok.bs b o e).2 (I.ok.noex b o e)⟩
theorem Inv.bk (I : Inv X pins σ H s) : ∀ b o, X.base.get? b = some o → s.heap.get? b = some o := fun b o e => (I.bs b o e).1
theorem Inv.mod (I : Inv X pins σ H s) : Mod X.K X.mg X.base := I.ok.mod
theorem Inv.kIn (I : Inv X pins σ H s) : X.K.In s.heap := I.ok.mod.kin.keeps I.bk
theorem Inv.lt (I : Inv X pins σ H s) : X.env.locals < s.heap.objs.size := let ⟨_, hn, _⟩ := I.loc; hn.lt
theorem Inv.sz (I : Inv X pins σ H s) : X.s₀.heap.objs.size ≤ s.heap.objs.size := Nat.le_trans I.ok.above (Nat.le_of_lt I.lt)
theorem Inv.nofs (I : Inv X pins σ H s) {a : Addr} (h : s.heap.objs.size ≤ a) : a ∉ X.fs := fun hb => by
  obtain ⟨_, o, ho, _⟩ := I.ok.funs.mem hb
  exact absurd (Nat.lt_of_lt_of_le (Heap.lt_size ho) (Nat.le_trans I.sz h)) (Nat.lt_irrefl _)
theorem Inv.cne (I : Inv X pins σ H s) : ∀ x c, X.env.cells.lookup x = some c → c ≠ X.env.locals := fun x c e z => by
  obtain ⟨v, o, ho, hd⟩ := I.cell x c e
  obtain ⟨m, ⟨o', es, ep, ho', hd', _⟩, _⟩ := I.loc
  rw [z, ho'] at ho; cases ho; rw [hd'] at hd; cases hd
theorem Inv.funs (I : Inv X pins σ H s) : s.heap.FunFrames X.base X.outer := by
  have all : ∀ (l : List Env), (∀ b ∈ frs l, b ∈ X.fs) → X.s₀.heap.FunFrames X.base l → s.heap.FunFrames X.base l := by
    intro l
    induction l with
    | nil => intro _ _; trivial
    | cons env r ih =>
      intro hs hl
      obtain ⟨hk, ⟨L, o, hf, hn, ho, hd⟩, hr⟩ := hl
      have hL : L ∈ X.fs := hs L (by unfold frs; rw [List.filterMap_cons, hf]; exact List.mem_cons_self)
      obtain ⟨sl, e⟩ := I.base.slot L o ho (I.ok.frf L hL) hL fun z => I.ok.exfs L z hL
      exact ⟨hk, ⟨L, _, hf, hn, e, hd⟩, ih (fun b hb => hs b (by unfold frs; rw [List.filterMap_cons, hf]; exact List.mem_cons_of_mem _ hb)) hr⟩
  exact all X.outer (fun _ hb => hb) I.ok.funs
/-- the frames that run, for a call -/
theorem Inv.stack (I : Inv X pins σ H s) : s.heap.FunFrames X.base X.stack := by
  rcases I.ok.stk with e | ⟨e, hf⟩
  · rw [e]; exact I.funs
  · rw [e]
    obtain ⟨m, hn, _⟩ := I.loc
    refine .cons (by rw [I.ok.kind]; decide) hf hn ?_ I.funs
    exact Heap.get?_none_of_le (Nat.le_trans I.ok.bsz I.ok.above)
theorem Inv.stkSub (I : Inv X pins σ H s) : ∀ b ∈ frs X.stack, b ∈ X.env.locals :: X.fs := fun b hb => by
  rcases I.ok.stk with e | ⟨e, hf⟩
  · rw [e] at hb; exact List.mem_cons_of_mem _ hb
  · rw [e] at hb
    unfold frs at hb
    rw [List.filterMap_cons, hf] at hb
    exact hb
theorem Inv.stkFree (I : Inv X pins σ H s) : ∀ b ∈ frs X.stack, H b = none := fun b hb => by
  rcases List.mem_cons.mp (I.stkSub b hb) with e | hb
  · rw [e]; exact I.free
  · obtain ⟨_, o, ho, _⟩ := I.ok.funs.mem hb
    exact I.base.free b o ho (I.ok.frf b hb) fun z => I.ok.exfs b z hb
/-- THE STEP: the untracked objects but the frame and the records at ch are kept (the callers' frames up to slots), the frame's map is kept, the new abstract heap is held -/
theorem Inv.step {g' : Array GenState} {t' : Nat} {d' : Drawn} {ch : List Addr} (I : Inv X pins σ H s)
    (hch : ∀ b ∈ ch, (b ∈ X.ex ∨ X.s₀.heap.objs.size ≤ b) ∧ b ≠ X.env.locals ∧ (∀ x c, X.env.cells.lookup x = some c → c ≠ b) ∧ ∀ p ∈ X.pn ++ pins, p.1 ≠ b)
    (keep : ∀ b o, b ≠ X.env.locals → b ∉ X.fs → b ∉ ch → s.heap.get? b = some o → H b = none → h'.get? b = some o)
    (slot : ∀ b o, b ≠ X.env.locals → b ∈ X.fs → b ∉ ch → s.heap.get? b = some o → H b = none → ∃ sl, h'.get? b = some { o with slots := sl }) (free : ∀ b o, b ∉ ch → s.heap.get? b = some o → H b = none → H' b = none)
    (there : ∀ b o, b ∉ ch → s.heap.get? b = some o → ∃ o', h'.get? b = some o')
    (tups : ∀ b xs, H b = some (.tup xs) → H' b = some (.tup xs)) (frzs : ∀ b o u, H b = some (.frz o u) → H' b = some (.frz o u)) (tbls : ∀ b ps, H b = some (.tbl ps) → ∃ more, H' b = some (.tbl (ps ++ more)))
    (ns : ∀ m, s.heap.Ns X.env.locals m → h'.Ns X.env.locals m) (hok : HOk X.prog X.w H' h') (hg : AllBare g') :
    Inv X pins σ H' { s with heap := h', gens := g', drawn := d', toks := t' } := by
  have neL : ∀ b o, X.s₀.heap.get? b = some o → b ≠ X.env.locals := fun b o e => Nat.ne_of_lt (Nat.lt_of_lt_of_le (Heap.lt_size e) I.ok.above)
  have neC : ∀ b o, X.s₀.heap.get? b = some o → b ∉ X.ex → b ∉ ch := fun b o e hx hb => by
    rcases (hch b hb).1 with z | z
    · exact hx z
    · exact absurd (Nat.lt_of_lt_of_le (Heap.lt_size e) z) (Nat.lt_irrefl _)
  have cellK : ∀ x c, X.env.cells.lookup x = some c → ∀ v, s.heap.IsCell c v → h'.IsCell c v := fun x c e v ⟨o, ho, hd⟩ => by
    have nch : c ∉ ch := fun z => (hch c z).2.2.1 x c e rfl
    by_cases hc : c ∈ X.fs
    · obtain ⟨sl, q⟩ := slot c o (I.cne x c e) hc nch ho (I.freeC x c e)
      exact ⟨_, q, hd⟩
    · exact ⟨o, keep c o (I.cne x c e) hc nch ho (I.freeC x c e), hd⟩
  refine ⟨I.ok, I.os, hg, ⟨fun b o e n hb hx => ?_, fun b o e n hb hx => ?_, fun b o e n hx => ?_, fun b o e hx => ?_, fun b xs e => tups b xs (I.base.tups b xs e), fun b o xs e => frzs b o xs (I.base.frzs b o xs e), fun b ps e => ?_⟩, ?_, fun x c e => ?_, ?_, fun x c e => ?_, fun p hp => ?_, hok, I.len⟩
  · exact keep b o (neL b o e) hb (neC b o e hx) (I.base.keep b o e n hb hx) (I.base.free b o e n hx)
  · obtain ⟨sl, e1⟩ := I.base.slot b o e n hb hx
    obtain ⟨sl', e2⟩ := slot b _ (neL b o e) hb (neC b o e hx) e1 (I.base.free b o e n hx)
    exact ⟨sl', e2⟩
  · obtain ⟨o', e1⟩ := I.base.there b o e hx
    exact free b o' (neC b o e hx) e1 (I.base.free b o e n hx)
  · obtain ⟨o', e1⟩ := I.base.there b o e hx
    exact there b o' (neC b o e hx) e1
  · obtain ⟨m1, e1⟩ := I.base.tbls b ps e
    obtain ⟨m2, e2⟩ := tbls b _ e1
    exact ⟨m1 ++ m2, by rw [e2, Array.append_assoc]⟩
  · obtain ⟨m, hn, hl⟩ := I.loc
    refine ⟨m, ns m hn, fun i x v e1 e2 e3 => ?_⟩
    obtain ⟨u, r, l⟩ := hl i x v e1 e2 e3
    refine ⟨u, r, ?_⟩
    rcases l with l | ⟨k, c, e, z⟩
    · exact .inl l
    · exact .inr ⟨k, c, e, cellK x c e _ z⟩
  · obtain ⟨v, z⟩ := I.cell x c e
    exact ⟨v, cellK x c e v z⟩
  · obtain ⟨m, ⟨o, _, _, ho, _⟩, _⟩ := I.loc
    exact free _ o (fun z => (hch _ z).2.1 rfl) ho I.free
  · obtain ⟨v, o, ho, hd⟩ := I.cell x c e
    exact free c o (fun z => (hch c z).2.2.1 x c e rfl) ho (I.freeC x c e)
  · obtain ⟨e, n, ne, nf, d⟩ := I.pin p hp
    have nch : p.1 ∉ ch := fun z => (hch p.1 z).2.2.2 p hp rfl
    exact ⟨keep p.1 p.2 ne nf nch e n, free p.1 p.2 nch e n, ne, nf, d⟩
/-- .. where the frame's own object is kept too -/
theorem Inv.un {t' : Nat} (I : Inv X pins σ H s) (u : Un X.fs [] H H' s.heap h') (hok : HOk X.prog X.w H' h') : Inv X pins σ H' { s with heap := h', toks := t' } := by
  obtain ⟨m, ⟨o, es, ep, ho, r⟩, _⟩ := id I.loc
  obtain ⟨sl, hL⟩ := u.any ho I.free (by simp)
  exact I.step (g' := s.gens) (d' := s.drawn) (ch := []) (fun _ z => nomatch z) (fun b o _ hb _ e n => u.keep b o e n hb (by simp)) (fun b o _ hb _ e n => u.slot b o e n hb (by simp)) (fun b o _ e n => u.free b o e n (by simp)) (fun b o _ e => u.there b o e (by simp)) u.tups u.frzs u.tbls (fun m' hm => by
    obtain ⟨o', es', ep', ho', r'⟩ := hm
    rw [ho] at ho'; cases ho'
    exact ⟨_, es', ep', hL, r'⟩) hok I.bare
/-- behind a call (or a comprehension's block): the slots of this frame may have changed too, the records at ch may have turned -/
theorem Inv.call {g' : Array GenState} {t' : Nat} {d' : Drawn} {ch : List Addr} (I : Inv X pins σ H s) (u : Un (frs X.stack) ch H H' s.heap h') (hok : HOk X.prog X.w H' h') (hg : AllBare g')
    (hch : ∀ b ∈ ch, (b ∈ X.ex ∨ X.s₀.heap.objs.size ≤ b) ∧ b ≠ X.env.locals ∧ (∀ x c, X.env.cells.lookup x = some c → c ≠ b) ∧ ∀ p ∈ X.pn ++ pins, p.1 ≠ b) :
    Inv X pins σ H' { s with heap := h', gens := g', drawn := d', toks := t' } := by
  obtain ⟨m, ⟨o, es, ep, ho, r⟩, _⟩ := id I.loc
  obtain ⟨sl, hL⟩ := u.any ho I.free fun z => (hch _ z).2.1 rfl
  exact I.step (ch := ch) hch (fun b o hL hb hc e n => u.keep b o e n (fun z => (List.mem_cons.mp (I.stkSub b z)).elim hL hb) hc) (fun b o _ _ hc e n => u.any e n hc) (fun b o hc e n => u.free b o e n hc) (fun b o hc e => u.there b o e hc) u.tups u.frzs u.tbls (fun m' hm => by
    obtain ⟨o', es', ep', ho', r'⟩ := hm
    rw [ho] at ho'; cases ho'
    exact ⟨_, es', ep', hL, r'⟩) hok hg
/-- an untracked record of ours (an iterator) has turned -/
theorem Inv.turned {t' : Nat} {it : Addr} (I : Inv X pins σ H s) (k : ∀ b o, b ≠ it → s.heap.get? b = some o → h'.get? b = some o) (hn : H it = none) (hL : it ≠ X.env.locals)
    (h1 : it ∈ X.ex ∨ X.s₀.heap.objs.size ≤ it) (h2 : ∀ x c, X.env.cells.lookup x = some c → c ≠ it) (h3 : ∀ p ∈ X.pn ++ pins, p.1 ≠ it) : Inv X pins σ H { s with heap := h', toks := t' } := by
  have nit : ∀ b u, H b = some u → b ≠ it := fun b u e z => by rw [z, hn] at e; cases e
  refine I.step (g' := s.gens) (d' := s.drawn) (ch := [it]) (fun b hb => ?_) (fun b o _ _ hc e _ => k b o (fun z => hc (by simp [z])) e) (fun b o _ _ hc e _ => ⟨o.slots, k b o (fun z => hc (by simp [z])) e⟩) (fun _ _ _ _ n => n)
    (fun b o hc e => ⟨o, k b o (fun z => hc (by simp [z])) e⟩) (fun _ _ e => e) (fun _ _ _ e => e) (fun b ps e => ⟨#[], by rw [e]; simp⟩) (fun m hm => ?_) (fun b u e => ?_) I.bare
  · have e : b = it := by simpa using hb
    subst e
    exact ⟨h1, hL, h2, h3⟩
  · obtain ⟨o, es, ep, ho, r⟩ := hm
    exact ⟨o, es, ep, k _ o (Ne.symm hL) ho, r⟩
  · refine (I.hok b u e).stay (fun c v hc q => k c v ?_ q) (fun _ q => q) fun _ _ q => q
    rcases hc with z | z
    · rw [z]; exact nit b u e
    · exact nit c _ z
theorem Inv.tok (I : Inv X pins σ H s) (t : Nat) : Inv X pins σ H { s with toks := t } := I.un (h' := s.heap) (t' := t) Un.refl I.hok
/-- all objects kept -/
theorem Inv.kept {t' : Nat} (I : Inv X pins σ H s) (k : ∀ b u, s.heap.get? b = some u → h'.get? b = some u) : Inv X pins σ H { s with heap := h', toks := t' } := I.un (Un.kept k) (I.hok.kept k)
/-- a new object laid and tracked -/
theorem Inv.laid {a : Addr} {o : HO} {t' : Nat} (I : Inv X pins σ H s) (k : ∀ b u, s.heap.get? b = some u → h'.get? b = some u) (hp : s.heap.objs.size ≤ a) (new : ObjOk X.prog X.w (upd H a o) h' a o) :
    Inv X pins σ (upd H a o) { s with heap := h', toks := t' } := I.un (Un.laid k hp (I.hok.fresh hp)) (I.hok.laid k hp new)
/-- an object written -/
theorem Inv.write {x e : Addr} {o : HO} {t' : Nat} (I : Inv X pins σ H s) (mu : Mut (H x)) (he : e = x ∨ H e = some (.own x)) (k : ∀ b u, b ≠ e → s.heap.get? b = some u → h'.get? b = some u) (heo : ∃ u, h'.get? e = some u)
    (new : ObjOk X.prog X.w (upd H x o) h' x o) : Inv X pins σ (upd H x o) { s with heap := h', toks := t' } := I.un (Un.write mu he k heo) (I.hok.write mu he k heo new)
/-- forgetting slots, pins -/
theorem Inv.weak {σ' : List (Option V)} (I : Inv X pins σ H s) (hl : σ'.length = σ.length) (w : ∀ (i : Nat) v, σ'[i]? = some (some v) → σ[i]? = some (some v)) : Inv X pins σ' H s :=
  ⟨I.ok, I.os, I.bare, I.base, let ⟨m, hn, hl'⟩ := I.loc; ⟨m, hn, fun i x v e1 e2 e3 => hl' i x v e1 (w i v e2) e3⟩, I.cell, I.free, I.freeC, I.pin, I.hok, hl.trans I.len⟩
theorem Inv.pins_of {pins' : List (Addr × Obj)} (I : Inv X pins σ H s) (h : ∀ p ∈ pins', s.heap.get? p.1 = some p.2 ∧ H p.1 = none ∧ p.1 ≠ X.env.locals ∧ p.1 ∉ X.fs ∧ ∀ v, p.2.data ≠ .cell v) : Inv X pins' σ H s :=
  ⟨I.ok, I.os, I.bare, I.base, I.loc, I.cell, I.free, I.freeC, fun p hp => (List.mem_append.mp hp).elim (fun z => I.pin p (List.mem_append_left _ z)) (h p), I.hok, I.len⟩
theorem nodup_ix {N : List Str} (hN : N.Nodup) {i j : Nat} {x : Str} (a : N[i]? = some x) (b : N[j]? = some x) : i = j := by
  obtain ⟨h1, e1⟩ := List.getElem?_eq_some_iff.mp a
  obtain ⟨h2, e2⟩ := List.getElem?_eq_some_iff.mp b
  exact (List.getElem_inj hN).mp (e1.trans e2.symm)
/-- a name is stored; what changed -/
theorem store_ok2 {M : Model} {A : Around} {E : Value → Shared → Prop} {i : Nat} {x : Str} {v : V} {u : Value} {Q : Unit → Shared → Prop} (I : Inv X pins σ H s) (hN : X.N.Nodup) (hi : X.N[i]? = some x) (hx : Loc X.env.scope x) (r : RelV v u)
    (h : ∀ s', Inv X pins (σ.set i (some v)) H s' → (∃ a, Heap.SameBut a s.heap s'.heap ∧ (a = X.env.locals ∨ X.env.cells.lookup x = some a)) → Q () s') (hf : X.fn x = true ∨ X.env.scope.names.lookup x = some .local := by first | exact .inl rfl | exact .inr rfl | assumption) : wpAny M A (storeName X.env x u) Q E s := by
  obtain ⟨m, hn, hl⟩ := id I.loc
  have hcls : (X.env.scope.kind == .class || (X.env.scope.kind == .module && X.env.locals != X.env.globals)) = false := by rw [I.ok.kind]; rfl
  have hiσ : i < σ.length := by rw [I.len]; exact (List.getElem?_eq_some_iff.mp hi).1
  have cne := I.cne
  have tracked : ∀ {a : Addr} {h' : Heap}, (∃ o, s.heap.get? a = some o ∧ H a = none) → Heap.SameBut a s.heap h' → HOk X.prog X.w H h' := fun {a h'} ha hs b ob e => by
    obtain ⟨_, _, hfree⟩ := ha
    refine (I.hok b ob e).stay (fun c w' hc q => (hs.2 c ?_).trans q) (fun _ q => q) fun _ _ q => q
    rintro rfl
    rcases hc with rfl | hc
    · rw [hfree] at e; cases e
    · rw [hfree] at hc; cases hc
  rcases hx with hk | hk
  · refine wpAny_storeName_local hk hn (fun h' hn' hs => ?_) hcls
    obtain ⟨oL, _, _, hoL, _⟩ := id hn
    refine h _ ⟨I.ok, I.os, I.bare, ⟨fun b o e n hb hx => ?_, fun b o e n hb hx => ?_, I.base.free, fun b o e hx => ?_, I.base.tups, I.base.frzs, I.base.tbls⟩, ⟨_, hn', fun j y v' e1 e2 e3 => ?_⟩, fun y c e => ?_, I.free, I.freeC, fun p hp => ?_, tracked ⟨oL, hoL, I.free⟩ hs, by simpa using I.len⟩ ⟨_, hs, .inl rfl⟩
    · exact (hs.2 b (Nat.ne_of_lt (Nat.lt_of_lt_of_le (Heap.lt_size e) I.ok.above))).trans (I.base.keep b o e n hb hx)
    · obtain ⟨sl, e1⟩ := I.base.slot b o e n hb hx
      exact ⟨sl, (hs.2 b (Nat.ne_of_lt (Nat.lt_of_lt_of_le (Heap.lt_size e) I.ok.above))).trans e1⟩
    · obtain ⟨o', e1⟩ := I.base.there b o e hx
      exact ⟨o', (hs.2 b (Nat.ne_of_lt (Nat.lt_of_lt_of_le (Heap.lt_size e) I.ok.above))).trans e1⟩
    · by_cases hj : j = i
      · subst hj
        rw [hi] at e1; cases e1
        rw [List.getElem?_set_self hiσ] at e2
        cases e2
        exact ⟨u, r, .inl ⟨hk, by simp⟩⟩
      · rw [List.getElem?_set_ne (Ne.symm hj)] at e2
        obtain ⟨u', r', q⟩ := hl j y v' e1 e2 e3
        refine ⟨u', r', ?_⟩
        rcases q with ⟨k, e⟩ | ⟨k, c, e, z⟩
        · refine .inl ⟨k, ?_⟩
          have : y ≠ x := fun e => hj (nodup_ix hN e1 (e ▸ hi))
          simp [this, e]
        · exact .inr ⟨k, c, e, z.sameBut hs (cne y c e)⟩
    · obtain ⟨w', z⟩ := I.cell y c e
      exact ⟨w', z.sameBut hs (cne y c e)⟩
    · obtain ⟨e, n, ne, nf, d⟩ := I.pin p hp
      exact ⟨(hs.2 p.1 ne).trans e, n, ne, nf, d⟩
  · have hfn : X.fn x = true := by
      rcases hf with z | z
      · exact z
      · rw [z] at hk; cases hk
    obtain ⟨c, hc⟩ := I.ok.has x (.inl hk)
    obtain ⟨w', z⟩ := I.cell x c hc
    refine wpAny_storeName_cell I.ok.kind hk hc z (fun h' hc' hs => ?_)
    obtain ⟨oc, hoc, hocd⟩ := id z
    refine h { s with heap := h' } ⟨I.ok, I.os, I.bare, ⟨fun b o e n hb hx => ?_, fun b o e n hb hx => ?_, I.base.free, fun b o e hx => ?_, I.base.tups, I.base.frzs, I.base.tbls⟩, ⟨m, hn.sameBut hs (Ne.symm (cne x c hc)), fun j y v' e1 e2 e3 => ?_⟩, fun y c' e => ?_, I.free, I.freeC, fun p hp => ?_, tracked ⟨oc, hoc, I.freeC x c hc⟩ hs, by simpa using I.len⟩ ⟨c, hs, .inr hc⟩
    · exact (hs.2 b (Nat.ne_of_lt (Nat.lt_of_lt_of_le (Heap.lt_size e) (I.ok.cab x c hfn hc)))).trans (I.base.keep b o e n hb hx)
    · obtain ⟨sl, e1⟩ := I.base.slot b o e n hb hx
      exact ⟨sl, (hs.2 b (Nat.ne_of_lt (Nat.lt_of_lt_of_le (Heap.lt_size e) (I.ok.cab x c hfn hc)))).trans e1⟩
    · obtain ⟨o', e1⟩ := I.base.there b o e hx
      exact ⟨o', (hs.2 b (Nat.ne_of_lt (Nat.lt_of_lt_of_le (Heap.lt_size e) (I.ok.cab x c hfn hc)))).trans e1⟩
    · by_cases hj : j = i
      · subst hj
        rw [hi] at e1; cases e1
        rw [List.getElem?_set_self hiσ] at e2
        cases e2
        exact ⟨u, r, .inr ⟨.inl hk, c, hc, hc'⟩⟩
      · rw [List.getElem?_set_ne (Ne.symm hj)] at e2
        obtain ⟨u', r', q⟩ := hl j y v' e1 e2 e3
        refine ⟨u', r', ?_⟩
        rcases q with q | ⟨k, c', e, z'⟩
        · exact .inl q
        · refine .inr ⟨k, c', e, z'.sameBut hs ?_⟩
          rintro rfl
          exact hj (nodup_ix hN e1 (I.ok.inj _ _ _ e hc ▸ hi))
    · by_cases hcc : c' = c
      · subst hcc; exact ⟨_, hc'⟩
      · obtain ⟨w2, z2⟩ := I.cell y c' e
        exact ⟨w2, z2.sameBut hs hcc⟩
    · obtain ⟨e, n, ne, nf, d⟩ := I.pin p hp
      refine ⟨(hs.2 p.1 ?_).trans e, n, ne, nf, d⟩
      intro q
      rw [q, hoc] at e
      have q' : oc = p.2 := Option.some.inj e
      exact d w' (by rw [← q']; exact hocd)
theorem store_ok {M : Model} {A : Around} {E : Value → Shared → Prop} {i : Nat} {x : Str} {v : V} {u : Value} {Q : Unit → Shared → Prop} (I : Inv X pins σ H s) (hN : X.N.Nodup) (hi : X.N[i]? = some x) (hx : Loc X.env.scope x) (r : RelV v u)
    (h : ∀ s', Inv X pins (σ.set i (some v)) H s' → Q () s') (hf : X.fn x = true ∨ X.env.scope.names.lookup x = some .local := by first | exact .inl rfl | exact .inr rfl | assumption) : wpAny M A (storeName X.env x u) Q E s :=
  store_ok2 I hN hi hx r (fun s' I' _ => h s' I') hf
/-- behind a call or a block, the state as it is -/
theorem Inv.call' {s' : Shared} {ch : List Addr} (I : Inv X pins σ H s) (ho : s'.os = s.os) (u : Un (frs X.stack) ch H H' s.heap s'.heap) (hok : HOk X.prog X.w H' s'.heap) (hg : AllBare s'.gens)
    (hch : ∀ b ∈ ch, (b ∈ X.ex ∨ X.s₀.heap.objs.size ≤ b) ∧ b ≠ X.env.locals ∧ (∀ x c, X.env.cells.lookup x = some c → c ≠ b) ∧ ∀ p ∈ X.pn ++ pins, p.1 ≠ b) : Inv X pins σ H' s' := by
  obtain ⟨h', g', d', t', o'⟩ := s'
  have e : o' = s.os := ho
  subst e
  exact I.call (g' := g') (t' := t') (d' := d') u hok hg hch
end
/-! ### the judgements -/
/-- an exception: its class, its own dict's address (where it has one), the abstract heap behind it -/
abbrev XK := Value → Option Addr → Hp → Prop
abbrev St := List (Option V)
abbrev VK := V → Hp → Prop
/-- an expression's reading; a test's; an argument list's -/
abbrev TE := St → Hp → VK → Prop
abbrev TT := St → Hp → (Bool → Hp → Prop) → Prop
abbrev TA := St → Hp → (List V → Hp → Prop) → Prop
/-- what is wanted behind a statement -/
structure Ends where
  nx : St → Hp → Prop
  rt : VK
  bk : St → Hp → Prop := fun _ _ => False
  ct : St → Hp → Prop := fun _ _ => False
abbrev TS := Ends → St → Hp → Prop
def EP (X : Cx) (pins : List (Addr × Obj)) (σ : St) (Q : VK) (u : Value) (s' : Shared) : Prop := ∃ v H', Inv X pins σ H' s' ∧ RelV v u ∧ Q v H'
def TP (X : Cx) (pins : List (Addr × Obj)) (σ : St) (Q : Bool → Hp → Prop) (b : Bool) (s' : Shared) : Prop := ∃ H', Inv X pins σ H' s' ∧ Q b H'
def AP (X : Cx) (pins : List (Addr × Obj)) (σ : St) (Q : List V → Hp → Prop) (us : List Value) (s' : Shared) : Prop := ∃ vs H', Inv X pins σ H' s' ∧ Vals vs us ∧ Q vs H'
def SP (X : Cx) (pins : List (Addr × Obj)) (D : Ends) (f : Flow) (s' : Shared) : Prop :=
  match f with
  | .next => ∃ σ' H', Inv X pins σ' H' s' ∧ D.nx σ' H'
  | .brk => ∃ σ' H', Inv X pins σ' H' s' ∧ D.bk σ' H'
  | .cont => ∃ σ' H', Inv X pins σ' H' s' ∧ D.ct σ' H'
  | .ret u => ∃ v σ' H', Inv X pins σ' H' s' ∧ RelV v u ∧ D.rt v H'
def PE (X : Cx) (e : Expr) (t : TE) : Prop :=
  ∀ (pins : List (Addr × Obj)) (s : Shared) (σ : St) (H : Hp) (Q : VK), Inv X pins σ H s → t σ H Q → wpAny (model X.prog X.w) X.A (eval e X.env) (EP X pins σ Q) X.xe s
def PT (X : Cx) (e : Expr) (t : TT) : Prop :=
  ∀ (pins : List (Addr × Obj)) (s : Shared) (σ : St) (H : Hp) (Q : Bool → Hp → Prop), Inv X pins σ H s → t σ H Q → wpAny (model X.prog X.w) X.A (isTrue e X.env (eval e X.env)) (TP X pins σ Q) X.xe s
/-- a test whatever its 'whole' is (and, or) -/
def PW (X : Cx) (e : Expr) (t : TT) : Prop :=
  ∀ (whole : Sem Value) (pins : List (Addr × Obj)) (s : Shared) (σ : St) (H : Hp) (Q : Bool → Hp → Prop), Inv X pins σ H s → t σ H Q → wpAny (model X.prog X.w) X.A (isTrue e X.env whole) (TP X pins σ Q) X.xe s
theorem PW.pt {X : Cx} {e : Expr} {t : TT} (h : PW X e t) : PT X e t := h _
/-- an argument list (no star), from the left -/
def PA (X : Cx) (es : List Expr) (t : TA) : Prop :=
  ∀ (pos : Pos) (pins : List (Addr × Obj)) (s : Shared) (σ : St) (H : Hp) (Q : List V → Hp → Prop), Inv X pins σ H s → t σ H Q → wpAny (model X.prog X.w) X.A (spliced (backTo pos (starEach es X.env))) (AP X pins σ Q) X.xe s
def PS (X : Cx) (st : Stmt) (t : TS) : Prop :=
  ∀ (pins : List (Addr × Obj)) (s : Shared) (σ : St) (H : Hp) (D : Ends), Inv X pins σ H s → t D σ H → wpAny (model X.prog X.w) X.A (exec st X.env) (SP X pins D) X.xe s
def PSs (X : Cx) (st : List Stmt) (t : TS) : Prop :=
  ∀ (pins : List (Addr × Obj)) (s : Shared) (σ : St) (H : Hp) (D : Ends), Inv X pins σ H s → t D σ H → wpAny (model X.prog X.w) X.A (execs st X.env) (SP X pins D) X.xe s
/-- weaken the end -/
theorem thn {α : Type} {t : Sem α} {Q Q' : α → Shared → Prop} {M : Model} {A : Around} {E : Value → Shared → Prop} {s : Shared} (h : wpAny M A t Q E s) (hQ : ∀ a s, Q a s → Q' a s) : wpAny M A t Q' E s := wpAny_mono h hQ fun _ _ x => x
end L2
namespace L2
open PySem PySem.Spec PyProof.Rows
section
variable {X : Cx}
/-! ### names and constants -/
def tVar (i : Nat) : TE := fun σ H Q => ∃ v, σ[i]? = some (some v) ∧ Q v H
def tC (v : V) : TE := fun _ H Q => Q v H
theorem pe_var {i : Nat} {x : Str} {pos : Pos} (hN : X.N[i]? = some x) (hv : Vis X.env.scope x) (hd : (x == ("__debug__" : Str)) = false := by decide) (hcd : (x == ("__classdict__" : Str)) = false := by decide) : PE X (.Name x pos) (tVar i) := by
  intro pins s σ H Q I h
  obtain ⟨v, e, h⟩ := h
  obtain ⟨m, hn, hl⟩ := I.loc
  obtain ⟨u, r, l⟩ := hl i x v hN e hv
  have fin : EP X pins σ Q u s := ⟨v, H, I, r, h⟩
  rcases l with ⟨hk, hm⟩ | ⟨hk, c, hc, hcell⟩
  · exact wpAny_Name (wpAny_loadName_local I.ok.kind hk hn hm fin) hd
  · rcases hk with hk | hk
    · exact wpAny_Name (wpAny_loadName_cell I.ok.kind hk hc hcell fin) hd
    · exact wpAny_Name (wpAny_loadName_free I.ok.kind hk hc hcell fin hcd) hd
theorem pe_int {i j pos} : PE X (.Constant (.int i) j pos) (tC (.int i)) := fun _ _ _ H _ I h => wpAny_Constant_int ⟨.int i, H, I.tok _, ⟨_, rfl⟩, h⟩
theorem pe_bl {b j pos} : PE X (.Constant (.bool b) j pos) (tC (.bl b)) := fun _ _ _ H _ I h => Constant_bool ⟨.bl b, H, I, rfl, h⟩
theorem pe_str {x j pos} : PE X (.Constant (.str x) j pos) (tC (.str x)) := fun _ _ _ H _ I h => Calls.Constant_str ⟨.str x, H, I.tok _, ⟨_, rfl⟩, h⟩
/-- a global name of the def -/
def Gl (X : Cx) (x : Str) : Prop := X.env.kindOf x = some .globalImplicit
theorem ld_glob {E : Value → Shared → Prop} {pins : List (Addr × Obj)} {s : Shared} {σ : St} {H : Hp} {x : Str} {u : Value} {pos : Pos} {Q : Value → Shared → Prop} (I : Inv X pins σ H s) (hg : Gl X x) (hm : X.mg x = some u) (h : Q u s)
    (hd : (x == ("__debug__" : Str)) = false := by decide) : wpAny (model X.prog X.w) X.A (eval (.Name x pos) X.env) Q E s :=
  Calls.Name_function_global I.ok.kind hg (Calls.loadGlobal_global (by rw [I.ok.glob]; exact I.mod.glob.keeps I.bk) hm h) hd
theorem ld_blt {E : Value → Shared → Prop} {pins : List (Addr × Obj)} {s : Shared} {σ : St} {H : Hp} {x : Str} {u : Value} {pos : Pos} {Q : Value → Shared → Prop} (I : Inv X pins σ H s) (hg : Gl X x) (hm : X.mg x = none) (hv : bootBuiltins x = some u) (h : Q u s)
    (hn : x ≠ "__name__" := by decide) (hd : (x == ("__debug__" : Str)) = false := by decide) : wpAny (model X.prog X.w) X.A (eval (.Name x pos) X.env) Q E s := by
  obtain ⟨mb, h1, h2⟩ := I.mod.blt
  exact Calls.Name_function_global I.ok.kind hg (Calls.loadGlobal_builtin (by rw [I.ok.glob]; exact I.mod.glob.keeps I.bk) hm (by rw [I.ok.blt]; exact h1.keeps I.bk) ((h2 x hn).trans hv) h) hd
/-- a module's constant, a class, a function, as a value -/
theorem pe_glob {x : Str} {v : V} {u : Value} {pos : Pos} (hg : Gl X x) (hm : X.mg x = some u) (r : RelV v u) (hd : (x == ("__debug__" : Str)) = false := by decide) : PE X (.Name x pos) (tC v) :=
  fun _ _ _ H _ I h => ld_glob I hg hm ⟨v, H, I, r, h⟩ hd
theorem pe_bltn {x : Str} {v : V} {u : Value} {pos : Pos} (hg : Gl X x) (hm : X.mg x = none) (hv : bootBuiltins x = some u) (r : RelV v u) (hn : x ≠ "__name__" := by decide) (hd : (x == ("__debug__" : Str)) = false := by decide) : PE X (.Name x pos) (tC v) :=
  fun _ _ _ H _ I h => ld_blt I hg hm hv ⟨v, H, I, r, h⟩ hn hd
/-! ### arithmetic -/
variable {a b : Expr} {ta tb : TE} {pos : Pos}
/-! ### comparisons -/
/-- a comparison as a value, as a test -/
def tB (t : TE) : TT := fun σ H Q => t σ H fun x H1 => ∃ c, x = .bl c ∧ Q c H1
/-- an expression whose value is a bool, as a test -/
theorem pt_val {e : Expr} {t : TE} (h : PE X e t) (he : ∀ whole, isTrue e X.env whole = (do let v ← whole; standAt e.pos; holding [v] (truthy v)) := by intro _; rfl) : PT X e (tB t) := by
  intro pins s σ H Q I hw
  refine isTrue_plain (thn (h pins s σ H _ I hw) fun v s1 ⟨x, H1, I1, r1, q1⟩ => ?_) (he _)
  obtain ⟨d, rfl, q⟩ := q1
  cases r1
  exact wpAny_truthy_bool ⟨H1, I1, q⟩
/-! ### and, or, not -/
variable {tA tB' : TT} {rest : List Expr}
def tAnd (t u : TT) : TT := fun σ H Q => t σ H fun c H1 => if c = true then u σ H1 Q else Q false H1
def tOr (t u : TT) : TT := fun σ H Q => t σ H fun c H1 => if c = true then Q true H1 else u σ H1 Q
def tNot (t : TT) : TT := fun σ H Q => t σ H fun c H1 => Q (!c) H1
theorem pw_and1 (ha : PT X a tA) : PW X (.BoolOp .And [a] pos) tA := by
  intro wh pins s σ H Q I h
  refine isTrue_and (thn (ha pins s σ H Q I h) fun c s1 e => ?_)
  cases c with
  | true => exact isTrue_and_nil e
  | false => exact e
theorem pw_or1 (ha : PT X a tA) : PW X (.BoolOp .Or [a] pos) tA := by
  intro wh pins s σ H Q I h
  refine isTrue_or (thn (ha pins s σ H Q I h) fun c s1 e => ?_)
  cases c with
  | false => exact isTrue_or_nil e
  | true => exact e
theorem pw_and (ha : PT X a tA) (hb : PW X (.BoolOp .And (b :: rest) pos) tB') : PW X (.BoolOp .And (a :: b :: rest) pos) (tAnd tA tB') := by
  intro wh pins s σ H Q I h
  refine isTrue_and (thn (ha pins s σ H _ I h) fun c s1 ⟨H1, I1, q1⟩ => ?_)
  cases c with
  | true => exact hb wh pins s1 σ H1 Q I1 q1
  | false => exact ⟨H1, I1, q1⟩
theorem pw_or (ha : PT X a tA) (hb : PW X (.BoolOp .Or (b :: rest) pos) tB') : PW X (.BoolOp .Or (a :: b :: rest) pos) (tOr tA tB') := by
  intro wh pins s σ H Q I h
  refine isTrue_or (thn (ha pins s σ H _ I h) fun c s1 ⟨H1, I1, q1⟩ => ?_)
  cases c with
  | true => exact ⟨H1, I1, q1⟩
  | false => exact hb wh pins s1 σ H1 Q I1 q1
theorem pt_not (ha : PT X a tA) : PT X (.UnaryOp .Not a pos) (tNot tA) := by
  intro pins s σ H Q I h
  exact isTrue_not (ha pins s σ H (fun c H1 => Q (!c) H1) I h)
/-- .. as values (bools) -/
def tAndV (ta tb : TE) : TE := fun σ H Q => ta σ H fun x H1 => ∃ c, x = .bl c ∧ if c = true then tb σ H1 Q else Q (.bl false) H1
def tNotV (ta : TE) : TE := fun σ H Q => ta σ H fun x H1 => ∃ c, x = .bl c ∧ Q (.bl (!c)) H1
theorem pe_one {op} {t : TE} (h : PE X a t) : PE X (.BoolOp op [a] pos) t := fun pins s σ H Q I hw => BoolOp_one (h pins s σ H Q I hw)
theorem pe_and (ha : PE X a ta) (hb : PE X (.BoolOp .And (b :: rest) pos) tb) : PE X (.BoolOp .And (a :: b :: rest) pos) (tAndV ta tb) := by
  intro pins s σ H Q I h
  refine BoolOp_and (thn (ha pins s σ H _ I h) fun v s1 ⟨x, H1, I1, r1, q1⟩ => ?_)
  obtain ⟨c, rfl, q1⟩ := q1
  cases r1
  refine wpAny_truthy_bool ?_
  cases c with
  | true => exact hb pins s1 σ H1 Q I1 q1
  | false => exact ⟨.bl false, H1, I1, rfl, q1⟩
theorem pe_not (ha : PE X a ta) : PE X (.UnaryOp .Not a pos) (tNotV ta) := by
  intro pins s σ H Q I h
  refine UnaryOp_ (thn (ha pins s σ H _ I h) fun v s1 ⟨x, H1, I1, r1, q1⟩ => ?_)
  obtain ⟨c, rfl, q1⟩ := q1
  cases r1
  exact not_of (wpAny_truthy_bool ⟨.bl (!c), H1, I1, rfl, q1⟩)
end
end L2
namespace L2
open PySem PySem.Spec PyProof.Rows
/-! ### a list, a tuple that is read: tracked, frozen, or an object of the module -/
def SqL (K : PySem.W.Frag) (H : Hp) (a : Addr) (xs : List V) : Prop :=
  Rd H a (.lst xs) ∨
    ∃ (o : Obj) (its : Array Value) (n : Nat), K.lookup a = some o ∧ o.cls = .type "list" ∧ o.dict = none ∧ o.data = .seq its n ∧ its.size ≤ sizeLine ∧ Vals xs its.toList
def SqT (K : PySem.W.Frag) (H : Hp) (a : Addr) (xs : List V) : Prop :=
  Rd H a (.tup xs) ∨
    ∃ (o : Obj) (its : Array Value) (n : Nat), K.lookup a = some o ∧ o.cls = .type "tuple" ∧ o.data = .seq its n ∧ its.size ≤ sizeLine ∧ Vals xs its.toList
def absV : Value → Option V
  | .none => some .non
  | .bool b => some (.bl b)
  | .int i _ => some (.int i)
  | .str x _ => some (.str x)
  | .bytes b _ => some (.byt b)
  | .float b _ => some (.flt b)
  | .ref a => some (.ref a)
  | .type n => some (.ty n)
  | _ => none
theorem RelV.abs {x : V} {u : Value} (r : RelV x u) : absV u = some x := by
  cases x with
  | non => cases r; rfl
  | bl _ => cases r; rfl
  | int _ => obtain ⟨t, rfl⟩ := r; rfl
  | str _ => obtain ⟨t, rfl⟩ := r; rfl
  | byt _ => obtain ⟨t, rfl⟩ := r; rfl
  | flt _ => obtain ⟨t, rfl⟩ := r; rfl
  | ref _ => cases r; rfl
  | ty _ => cases r; rfl
theorem RelV.inj {x y : V} {u : Value} (r : RelV x u) (q : RelV y u) : x = y := Option.some.inj (r.abs.symm.trans q.abs)
theorem Vals.inj : ∀ {xs ys : List V} {us : List Value}, Vals xs us → Vals ys us → xs = ys
  | _, _, _, .nil, .nil => rfl
  | _, _, _, .cons r t, .cons r' t' => by rw [r.inj r', Vals.inj t t']
section
variable {X : Cx} {pins : List (Addr × Obj)} {σ : St} {H : Hp} {s : Shared} {a : Addr} {xs ys : List V}
theorem SqL.of {K : PySem.W.Frag} (h : H a = some (.lst xs)) : SqL K H a xs := .inl (.inl h)
theorem SqT.of {K : PySem.W.Frag} (h : H a = some (.tup xs)) : SqT K H a xs := .inl (.inl h)
theorem Inv.list (I : Inv X pins σ H s) (h : SqL X.K H a xs) : ∃ its : List Value, Vals xs its ∧ PlainL s.heap a its.toArray ∧ xs.length ≤ sizeLine := by
  rcases h with h | ⟨o, its, n, hk, hc, hd, hs, hz, r⟩
  · obtain ⟨z, its, n, r, e⟩ := h.ok I.hok
    exact ⟨its, r, ⟨_, n, e, rfl, rfl, rfl⟩, z⟩
  · refine ⟨its.toList, r, ⟨o, n, I.kIn a o hk, hc, hd, by simpa using hs⟩, ?_⟩
    have e := r.length
    simp only [Array.length_toList] at e
    omega
theorem Inv.tuple (I : Inv X pins σ H s) (h : SqT X.K H a xs) : ∃ its : List Value, Vals xs its ∧ IsTup s.heap a its.toArray ∧ xs.length ≤ sizeLine := by
  rcases h with h | ⟨o, its, n, hk, hc, hs, hz, r⟩
  · obtain ⟨z, its, r, p⟩ := h.ok I.hok
    exact ⟨its, r, p, z⟩
  · refine ⟨its.toList, r, ⟨o, I.kIn a o hk, hc, n, by simpa using hs⟩, ?_⟩
    have e := r.length
    simp only [Array.length_toList] at e
    omega
theorem Inv.list_inj (I : Inv X pins σ H s) (h : SqL X.K H a xs) (h' : SqL X.K H a ys) : xs = ys := by
  obtain ⟨its, r, ⟨o, n, e, _, _, d⟩, _⟩ := I.list h
  obtain ⟨its', r', ⟨o', n', e', _, _, d'⟩, _⟩ := I.list h'
  rw [e] at e'; cases e'
  rw [d] at d'
  injection d' with d1 _
  have : its = its' := by simpa using congrArg Array.toList d1
  subst this
  exact r.inj r'
theorem Inv.tuple_inj (I : Inv X pins σ H s) (h : SqT X.K H a xs) (h' : SqT X.K H a ys) : xs = ys := by
  obtain ⟨its, r, ⟨o, e, _, n, d⟩, _⟩ := I.tuple h
  obtain ⟨its', r', ⟨o', e', _, n', d'⟩, _⟩ := I.tuple h'
  rw [e] at e'; cases e'
  rw [d] at d'
  injection d' with d1 _
  have : its = its' := by simpa using congrArg Array.toList d1
  subst this
  exact r.inj r'
end
/-! ### another wish about exceptions -/
abbrev Cx.wish (X : Cx) (E : Value → Shared → Prop) : Cx := { X with xe := E }
/-- no exception leaves -/
abbrev Cx.nox (X : Cx) : Cx := X.wish fun _ _ => False
theorem Cx.Ok.wish {X : Cx} (ok : X.Ok) (E : Value → Shared → Prop) : (X.wish E).Ok :=
  ⟨ok.mod, ok.kind, ok.glob, ok.blt, ok.above, ok.inj, ok.has, ok.cab, ok.hd, ok.frames, ok.stk, ok.exf, ok.bs, ok.bsz, ok.noex, ok.exfs, ok.funs, ok.frf⟩
theorem Cx.Ok.unwish {X : Cx} {E : Value → Shared → Prop} (ok : (X.wish E).Ok) : X.Ok :=
  ⟨ok.mod, ok.kind, ok.glob, ok.blt, ok.above, ok.inj, ok.has, ok.cab, ok.hd, ok.frames, ok.stk, ok.exf, ok.bs, ok.bsz, ok.noex, ok.exfs, ok.funs, ok.frf⟩
section
variable {X : Cx} {pins : List (Addr × Obj)} {σ : St} {H : Hp} {s : Shared} {E : Value → Shared → Prop}
theorem Inv.wish (I : Inv X pins σ H s) (E : Value → Shared → Prop) : Inv (X.wish E) pins σ H s := ⟨I.ok.wish E, I.os, I.bare, I.base, I.loc, I.cell, I.free, I.freeC, I.pin, I.hok, I.len⟩
theorem Inv.unwish (I : Inv (X.wish E) pins σ H s) : Inv X pins σ H s := ⟨I.ok.unwish, I.os, I.bare, I.base, I.loc, I.cell, I.free, I.freeC, I.pin, I.hok, I.len⟩
theorem SP.unwish {D : Ends} {f : Flow} {s' : Shared} (h : SP (X.wish E) pins D f s') : SP X pins D f s' := by
  cases f with
  | next => obtain ⟨σ', H', I, q⟩ := h; exact ⟨σ', H', I.unwish, q⟩
  | brk => obtain ⟨σ', H', I, q⟩ := h; exact ⟨σ', H', I.unwish, q⟩
  | cont => obtain ⟨σ', H', I, q⟩ := h; exact ⟨σ', H', I.unwish, q⟩
  | ret u => obtain ⟨v, σ', H', I, r, q⟩ := h; exact ⟨v, σ', H', I.unwish, r, q⟩
theorem PSs.nox {st : List Stmt} {t : TS} (h : PSs X.nox st t) : PSs X st t := fun pins s σ H D I hw =>
  wpAny_mono (h pins s σ H D (I.wish _) hw) (fun _ _ q => q.unwish) fun _ _ z => False.elim z
end
/-! ### blocks and small statements -/
section
variable {X : Cx} {st : Stmt} {rest : List Stmt} {t u : TS} {e : Expr} {te : TE} {pos : Pos}
def tNext : TS := fun D σ H => D.nx σ H
def tSeq (t u : TS) : TS := fun D σ H => t { D with nx := u D } σ H
theorem pss_nil : PSs X [] tNext := fun _ _ σ H _ I h => wpAny_execs_nil ⟨σ, H, I, h⟩
theorem pss_cons (h1 : PS X st t) (h2 : PSs X rest u) : PSs X (st :: rest) (tSeq t u) := by
  intro pins s σ H D I h
  refine wpAny_execs_cons (thn (h1 pins s σ H { D with nx := u D } I h) fun f s1 q => ?_)
  cases f with
  | next =>
    obtain ⟨σ', H', I', q⟩ := q
    exact h2 pins s1 σ' H' D I' q
  | ret v => exact q
  | brk => exact q
  | cont => exact q
theorem pss_one (h1 : PS X st t) : PSs X [st] t := by
  intro pins s σ H D I h
  refine wpAny_execs_cons (thn (h1 pins s σ H D I h) fun f s1 q => ?_)
  cases f with
  | next => exact wpAny_execs_nil q
  | ret v => exact q
  | brk => exact q
  | cont => exact q
/-- in a def's body nothing is shown -/
theorem Inv.quiet {pins : List (Addr × Obj)} {σ : St} {H : Hp} {s : Shared} (I : Inv X pins σ H s) : interactive X.env = false := by simp [interactive, I.ok.kind]
/-- an expression whose value is dropped -/
def tDrop (te : TE) : TS := fun D σ H => te σ H fun _ H1 => D.nx σ H1
theorem ps_expr (he : PE X e te) (hs : swapsWith e none pos.line X.env = pure false := by rfl) : PS X (.Expr e pos) (tDrop te) := by
  intro pins s σ H D I h
  exact wpAny_Expr_any (thn (he pins s σ H _ I h) fun v s1 ⟨x, H1, I1, r1, q1⟩ => ⟨σ, H1, I1, q1⟩) I.quiet hs
def tRet (te : TE) : TS := fun D σ H => te σ H D.rt
theorem ps_ret (he : PE X e te) : PS X (.Return (some e) pos) (tRet te) := by
  intro pins s σ H D I h
  exact wpAny_Return_some (thn (he pins s σ H _ I h) fun v s1 ⟨x, H1, I1, r1, q1⟩ => ⟨x, σ, H1, I1, r1, q1⟩)
def tIfS (c : TT) (t u : TS) : TS := fun D σ H => c σ H fun b H1 => if b = true then t D σ H1 else u D σ H1
theorem ps_if {c : Expr} {a b : List Stmt} {tc : TT} (hc : PT X c tc) (ha : PSs X a t) (hb : PSs X b u) : PS X (.If c a b pos) (tIfS tc t u) := by
  intro pins s σ H D I h
  refine wpAny_If (thn (hc pins s σ H _ I h) fun d s1 ⟨H1, I1, q1⟩ => ?_)
  cases d with
  | true => exact ha pins s1 σ H1 D I1 q1
  | false => exact hb pins s1 σ H1 D I1 q1
/-- code that the proof never comes to -/
def tNever : TS := fun _ _ _ => False
theorem ps_never : PS X st tNever := fun _ _ _ _ _ _ h => h.elim
end
/-! ### targets -/
abbrev TG := V → St → Hp → (St → Hp → Prop) → Prop
def PG (X : Cx) (target : Expr) (t : TG) : Prop :=
  ∀ (pins : List (Addr × Obj)) (s : Shared) (σ : St) (H : Hp) (v : V) (u : Value) (Q : St → Hp → Prop), Inv X pins σ H s → RelV v u → t v σ H Q →
    wpAny (model X.prog X.w) X.A (assign target X.env u) (fun _ s' => ∃ σ' H', Inv X pins σ' H' s' ∧ Q σ' H') X.xe s
section
variable {X : Cx} {pos : Pos}
def gName (i : Nat) : TG := fun v σ H Q => Q (σ.set i (some v)) H
theorem pg_name {i : Nat} {x : Str} (hN : X.N.Nodup) (hi : X.N[i]? = some x) (hx : Loc X.env.scope x) (hf : X.fn x = true ∨ X.env.scope.names.lookup x = some .local := by first | exact .inl rfl | exact .inr rfl | assumption) : PG X (.Name x pos) (gName i) := by
  intro pins s σ H v u Q I r h
  exact wpAny_assign_Name (store_ok I hN hi hx r (fun s' I' => ⟨_, H, I', h⟩) hf)
/-- target = value -/
def tAsg (te : TE) (g : TG) : TS := fun D σ H => te σ H fun x H1 => g x σ H1 D.nx
/-- name = value -/
theorem ps_set {i : Nat} {x : Str} {e : Expr} {te : TE} {pos' : Pos} (hN : X.N.Nodup) (hi : X.N[i]? = some x) (hx : Loc X.env.scope x) (he : PE X e te) (hs : swapsWith e (some (.Name x pos')) pos.line X.env = pure false := by rfl) (hf : X.fn x = true ∨ X.env.scope.names.lookup x = some .local := by first | exact .inl rfl | exact .inr rfl | assumption) :
    PS X (.Assign [.Name x pos'] e pos) (tAsg te (gName i)) := by
  intro pins s σ H D I h
  refine wpAny_Assign_Name (thn (he pins s σ H _ I h) fun v s1 ⟨y, H1, I1, r1, q1⟩ => ?_) hs
  exact store_ok I1 hN hi hx r1 (fun s2 I2 => ⟨_, H1, I2, q1⟩) hf
/-- a, b = x, y with plain local names: stored from the right; the pair itself is not tracked (the opening rows as in PyProof/Rows/TupAssign.lean:23) -/
def tPar (i j : Nat) (ta : TA) : TS := fun D σ H => ta σ H fun vs H1 => ∃ v w, vs = [v, w] ∧ D.nx ((σ.set i (some v)).set j (some w)) H1
theorem ps_par {i j : Nat} {x y : Str} {a b : Expr} {ta : TA} {px py pt : Pos} {kt k2 pt2} (hc : X.calm = true) (hN : X.N.Nodup) (hi : X.N[i]? = some x) (hj : X.N[j]? = some y) (hij : i ≠ j)
    (hx : X.env.scope.names.lookup x = some .local) (hy : X.env.scope.names.lookup y = some .local) (ha : PA X [a, b] ta)
    (hw : swappedStores [.Tuple [.Name x px, .Name y py] kt pt] (.Tuple [a, b] k2 pt2) X.env = pure (some [x, y]))
    (hs : swapsWithSole [.Tuple [.Name x px, .Name y py] kt pt] (.Tuple [a, b] k2 pt2) pos.line X.env = pure false := by rfl) :
    PS X (.Assign [.Tuple [.Name x px, .Name y py] kt pt] (.Tuple [a, b] k2 pt2) pos) (tPar i j ta) := by
  intro pins s σ H D I h
  rw [exec_Assign_arm]
  refine wpAny_bind (wpAny_standAt ?_)
  rw [hs]
  refine wpAny_bind (wpAny_pure ?_)
  rw [if_neg (by decide)]
  refine wpAny_bind (Tuple_ (thn (ha _ pins s σ H _ I h) fun us s1 ⟨vs, H1, I1, r1, q1⟩ => ?_))
  obtain ⟨v, w, e1, q1⟩ := q1
  subst e1
  obtain ⟨u1, u2, rfl, rv, rw'⟩ : ∃ u1 u2, us = [u1, u2] ∧ RelV v u1 ∧ RelV w u2 := by
    cases r1 with
    | cons p q =>
      cases q with
      | cons p' q' =>
        cases q'
        exact ⟨_, _, rfl, p, p'⟩
  refine wpAny_newObj_type ?_ (by show 2 ≤ sizeLine; decide)
  have I2 : Inv X pins σ H1 { s1 with heap := s1.heap.push { cls := .type "tuple", data := .seq [u1, u2].toArray } } := I1.kept (t' := s1.toks) fun b o e => Heap.get?_push_of_some _ e
  rw [hw]
  refine wpAny_bind (wpAny_pure ?_)
  show wpAny (model X.prog X.w) X.A (do rule "assign.swapped-stores"; let items ← unpackItems (.ref s1.heap.objs.size) 2 none; assignInOrder [fun v => bindName X.env y v, fun v => bindName X.env x v] items.reverse; pure Flow.next) _ _ _
  refine wpAny_bind (wpAny_rule (wpAny_bind (unpackItems_tuple (items := #[u1, u2]) (I.ok.hd hc) (IsTup.new s1.heap _) fun h' hx' => ?_)))
  have I3 := I2.kept (h' := h') (t' := s1.toks) fun b o e => hx' b o (Nat.ne_of_lt (Heap.lt_size e)) e
  show wpAny _ _ (assignInOrder [fun v => bindName X.env y v, fun v => bindName X.env x v] [u2, u1] >>= fun _ => pure Flow.next) _ _ _
  refine wpAny_bind (assignInOrder_cons (wpAny_bindName (store_ok I3 hN hj (.inl hy) rw' (fun s2 I4 => ?_) (.inr hy))))
  refine assignInOrder_cons (wpAny_bindName (store_ok I4 hN hi (.inl hx) rv (fun s3 I5 => assignInOrder_nil (wpAny_pure ?_)) (.inr hx)))
  rw [List.set_comm _ _ (Ne.symm hij)] at I5
  exact ⟨_, H1, I5, q1⟩
end
/-! ### while -/
section
variable {X : Cx} {pos : Pos}
/-- the invariant W with its measure -/
def tWhile (c : TT) (tb : TS) : TS := fun D σ H => ∃ W : Nat → St → Hp → Prop, (∃ m, W m σ H) ∧ ∀ m σ H, W m σ H →
  c σ H fun b H1 => if b = true then ∃ N : St → Hp → Prop, (∀ σ' H', N σ' H' → ∃ m', m' < m ∧ W m' σ' H') ∧ tb { D with nx := N, ct := N, bk := D.nx } σ H1 else D.nx σ H1
theorem ps_while {c : Expr} {body : List Stmt} {tc : TT} {tb : TS} (hp : PassesOwn (model X.prog X.w) X.A X.env X.xe) (hc : PT X c tc) (hb : PSs X body tb) : PS X (.While c body [] pos) (tWhile tc tb) := by
  intro pins s σ H D I h
  obtain ⟨W, ⟨m0, w0⟩, turn⟩ := h
  refine wpAny_While (codeAny_whileLoop (fun n s' => ∃ σ' H', Inv X pins σ' H' s' ∧ W n σ' H') ?_ m0 ⟨σ, H, I, w0⟩)
  rintro n s1 ⟨σ1, H1, I1, w1⟩
  refine wpAny_passesOwn hp (thn (hc pins s1 σ1 H1 _ I1 (turn n σ1 H1 w1)) fun b s2 ⟨H2, I2, q2⟩ => ?_)
  cases b with
  | true =>
    obtain ⟨N, hN, q2⟩ := q2
    rw [if_pos rfl]
    refine wpAny_passesOwn hp (thn (hb pins s2 σ1 H2 _ I2 q2) fun f s3 q3 => ?_)
    cases f with
    | next =>
      obtain ⟨σ3, H3, I3, n3⟩ := q3
      obtain ⟨m', hm, w3⟩ := hN σ3 H3 n3
      exact ⟨m', hm, σ3, H3, I3, w3⟩
    | cont =>
      obtain ⟨σ3, H3, I3, n3⟩ := q3
      obtain ⟨m', hm, w3⟩ := hN σ3 H3 n3
      exact ⟨m', hm, σ3, H3, I3, w3⟩
    | brk => exact q3
    | ret v => exact q3
  | false =>
    rw [if_neg Bool.false_ne_true]
    exact wpAny_execs_nil ⟨σ1, H2, I2, q2⟩
end
/-! ### what a loop or a comprehension walks -/
/-- at turn i: it yields x (the heap may grow), or it stops -/
structure It where
  go : Nat → Hp → Prop
  yld : Nat → Hp → V → Hp → Prop
  stop : Nat → Hp → Prop
/-- the iterator's own objects may turn: they are not the frame's, not pinned, younger than the entry (or a comprehension's own) -/
def FpOk (X : Cx) (pins : List (Addr × Obj)) (H : Hp) (b : Addr) : Prop :=
  H b = none ∧ b ≠ X.env.locals ∧ b ∉ X.fs ∧ (b ∈ X.ex ∨ X.s₀.heap.objs.size ≤ b) ∧ (∀ x c, X.env.cells.lookup x = some c → c ≠ b) ∧ ∀ p ∈ X.pn ++ pins, p.1 ≠ b
theorem Inv.fpOk {X : Cx} {pins : List (Addr × Obj)} {σ : St} {H H' : Hp} {s : Shared} {b : Addr} (I : Inv X pins σ H s) (hb : s.heap.objs.size ≤ b) (hn : H' b = none) : FpOk X pins H' b := by
  refine ⟨hn, Nat.ne_of_gt (Nat.lt_of_lt_of_le I.lt hb), I.nofs hb, .inr (Nat.le_trans I.sz hb), fun x c e z => ?_, fun p hp z => ?_⟩
  · obtain ⟨v, q⟩ := I.cell x c e
    exact absurd (Nat.lt_of_lt_of_le q.lt (by rw [z]; exact hb)) (Nat.lt_irrefl _)
  · exact absurd (Nat.lt_of_lt_of_le (Heap.lt_size (I.pin p hp).1) (by rw [z]; exact hb)) (Nat.lt_irrefl _)
structure Turn (P : Program) (w : World) (K : PySem.W.Frag) (tg : Expr) (J : It) (fp : List Addr) (it : Addr) (tn : Nat → Heap → Prop) : Prop where
  mem : it ∈ fp
  obj : ∀ i h, tn i h → ∀ b ∈ fp, ∃ o, h.get? b = some o ∧ ∀ v, o.data ≠ .cell v
  keep : ∀ i h h', tn i h → (∀ b ∈ fp, ∀ o, h.get? b = some o → h'.get? b = some o) → tn i h'
  item : ∀ (X : Cx), X.prog = P → X.w = w → X.K = K → X.calm = true → ∀ (i : Nat) (pins : List (Addr × Obj)) (s : Shared) (σ : St) (H : Hp) (E : Value → Shared → Prop), Inv X pins σ H s → (∀ b ∈ fp, FpOk X pins H b) → tn i s.heap → J.go i H →
    wpAny (model P w) X.A (pyNext (.ref it)) (fun r s1 => ∃ u, r = some u ∧
      wpAny (model P w) X.A (letOwnedTupleGo tg (.ref it) u) (fun _ s2 => ∃ x H', Inv X pins σ H' s2 ∧ RelV x u ∧ J.yld i H x H' ∧ tn (i + 1) s2.heap ∧ ∀ b ∈ fp, H' b = none) E s1) E s
  done : ∀ (X : Cx), X.prog = P → X.w = w → X.K = K → X.calm = true → ∀ (i : Nat) (pins : List (Addr × Obj)) (s : Shared) (σ : St) (H : Hp) (E : Value → Shared → Prop), Inv X pins σ H s → (∀ b ∈ fp, FpOk X pins H b) → tn i s.heap → J.stop i H →
    wpAny (model P w) X.A (pyNext (.ref it)) (fun r s1 => r = none ∧ Inv X pins σ H s1) E s
  self : ∀ (A : Around) (i : Nat) (s : Shared) (Q : Value → Shared → Prop) (E : Value → Shared → Prop), tn i s.heap → Q (.ref it) s → wpAny (model P w) A (pyIter (.ref it)) Q E s
abbrev TI := St → Hp → (It → Hp → Prop) → Prop
/-- an iterator has come -/
def PIE (X : Cx) (pins : List (Addr × Obj)) (σ : St) (tg : Expr) (R : It → Hp → Prop) (itv : Value) (s2 : Shared) : Prop :=
  ∃ (it : Addr) (fp : List Addr) (tn : Nat → Heap → Prop) (J : It) (H' : Hp), itv = .ref it ∧ Inv X pins σ H' s2 ∧ Turn X.prog X.w X.K tg J fp it tn ∧ tn 0 s2.heap ∧ (∀ b ∈ fp, FpOk X pins H' b) ∧ R J H'
def PI (X : Cx) (tg iter : Expr) (wi : TI) : Prop :=
  ∀ (pins : List (Addr × Obj)) (s : Shared) (σ : St) (H : Hp) (R : It → Hp → Prop), Inv X pins σ H s → wi σ H R →
    wpAny (model X.prog X.w) X.A (eval iter X.env) (fun v s1 => wpAny (model X.prog X.w) X.A (pyIter v) (PIE X pins σ tg R) X.xe s1) X.xe s
/-- the step ahead of the store is nothing for an iterator that keeps no tuple -/
theorem go_of {M : Model} {A : Around} {E : Value → Shared → Prop} {s : Shared} {tg : Expr} {it : Addr} {u : Value} {o : Obj} {n : String} {vs : Array Value} {Q : Unit → Shared → Prop} (ho : s.heap.get? it = some o) (hc : o.cls = .type n) (hd : o.data = .fields vs)
    (hn : ["enumerate", "zip", "dict_itemiterator", "dict_reverseitemiterator", "odict_iterator", "itertools.zip_longest", "itertools.pairwise"].contains n = false) (hQ : Q () s) : wpAny M A (letOwnedTupleGo tg (.ref it) u) Q E s := by
  unfold letOwnedTupleGo
  cases tg <;> first
    | exact wpAny_pure hQ
    | (cases u <;> first
        | exact wpAny_pure hQ
        | (refine wpAny_bind (wpAny_load ho ?_)
           rw [hc, hd]
           show wpAny M A (if (["enumerate", "zip", "dict_itemiterator", "dict_reverseitemiterator", "odict_iterator", "itertools.zip_longest", "itertools.pairwise"].contains n && vs[0]? == some (rawInt _)) = true then _ else _) Q E s
           rw [if_neg (by intro h; rw [hn, Bool.false_and] at h; cases h)]
           exact wpAny_pure hQ))
/-- the list at a, as it stands at each turn (a loop may append to it) -/
def Itl (K : PySem.W.Frag) (a : Addr) : It :=
  ⟨fun i H => ∃ xs x, SqL K H a xs ∧ xs[i]? = some x, fun i H x H' => H' = H ∧ ∀ xs, SqL K H a xs → xs[i]? = some x, fun i H => ∃ xs, SqL K H a xs ∧ xs.length ≤ i⟩
def Itt (K : PySem.W.Frag) (a : Addr) : It :=
  ⟨fun i H => ∃ xs x, SqT K H a xs ∧ xs[i]? = some x, fun i H x H' => H' = H ∧ ∀ xs, SqT K H a xs → xs[i]? = some x, fun i H => ∃ xs, SqT K H a xs ∧ xs.length ≤ i⟩
/-- lo, lo + 1, .. (n of them) -/
def Itr (lo : Int) (n : Nat) : It := ⟨fun i _ => i < n, fun i H x H' => H' = H ∧ x = .int (lo + i), fun i _ => n ≤ i⟩
theorem turn_list {P : Program} {w : World} {K : PySem.W.Frag} {tg : Expr} (a it : Addr) : Turn P w K tg (Itl K a) [it] it (fun i h => h.IsListIter it a i) where
  mem := by simp
  obj := fun i h st b hb => by
    have e : b = it := by simpa using hb
    subst e
    obtain ⟨o, e, c, d⟩ := st
    exact ⟨o, e, fun v z => by rw [d] at z; cases z⟩
  keep := fun i h h' st k => st.at fun o e => k it (by simp) o e
  item := by
    intro X hP hw hK hc i pins s σ H E I hf st hg
    subst hP hw hK
    obtain ⟨xs, x, hq, hx⟩ := hg
    obtain ⟨its, rv, p, hz⟩ := I.list hq
    obtain ⟨u, hu, ru⟩ := rv.get hx
    obtain ⟨f0, f1, f2, f3, f4, f5⟩ := hf it (by simp)
    refine wpAny_pyNext_list_item st p.isList (x := u) (by simpa using hu) fun h' st' sb => ?_
    have I1 : Inv X pins σ H { s with heap := h' } := I.turned (t' := s.toks) (fun b o hb e => (sb.2 b hb).trans e) f0 f1 f3 f4 f5
    obtain ⟨o, e, c, d⟩ := id st'
    exact ⟨u, rfl, go_of (s := { s with heap := h' }) e c d (by decide) ⟨x, H, I1, ru, ⟨rfl, fun ys hy => by rw [I.list_inj hy hq]; exact hx⟩, st', fun b hb => (hf b hb).1⟩⟩
  done := by
    intro X hP hw hK hc i pins s σ H E I hf st hg
    subst hP hw hK
    obtain ⟨xs, hq, hx⟩ := hg
    obtain ⟨its, rv, p, hz⟩ := I.list hq
    obtain ⟨f0, f1, f2, f3, f4, f5⟩ := hf it (by simp)
    have hl := rv.length
    exact wpAny_pyNext_list_end (I.ok.hd hc) st p.isList (by simp; omega) fun h' eb => ⟨rfl, I.turned (t' := s.toks) (fun b o hb e => eb b o hb e) f0 f1 f3 f4 f5⟩
  self := fun _ _ _ _ _ st h => wpAny_pyIter_listiter st h
theorem turn_tuple {P : Program} {w : World} {K : PySem.W.Frag} {tg : Expr} (a it : Addr) : Turn P w K tg (Itt K a) [it] it (fun i h => h.IsTupleIter it a i) where
  mem := by simp
  obj := fun i h st b hb => by
    have e : b = it := by simpa using hb
    subst e
    obtain ⟨o, e, c, d⟩ := st
    exact ⟨o, e, fun v z => by rw [d] at z; cases z⟩
  keep := fun i h h' st k => st.at fun o e => k it (by simp) o e
  item := by
    intro X hP hw hK hc i pins s σ H E I hf st hg
    subst hP hw hK
    obtain ⟨xs, x, hq, hx⟩ := hg
    obtain ⟨its, rv, p, hz⟩ := I.tuple hq
    obtain ⟨u, hu, ru⟩ := rv.get hx
    obtain ⟨f0, f1, f2, f3, f4, f5⟩ := hf it (by simp)
    refine wpAny_pyNext_tuple_item st (show s.heap.IsTuple a its.toArray from p) (x := u) (by simpa using hu) fun h' st' sb => ?_
    have I1 : Inv X pins σ H { s with heap := h' } := I.turned (t' := s.toks) (fun b o hb e => (sb.2 b hb).trans e) f0 f1 f3 f4 f5
    obtain ⟨o, e, c, d⟩ := id st'
    exact ⟨u, rfl, go_of (s := { s with heap := h' }) e c d (by decide) ⟨x, H, I1, ru, ⟨rfl, fun ys hy => by rw [I.tuple_inj hy hq]; exact hx⟩, st', fun b hb => (hf b hb).1⟩⟩
  done := by
    intro X hP hw hK hc i pins s σ H E I hf st hg
    subst hP hw hK
    obtain ⟨xs, hq, hx⟩ := hg
    obtain ⟨its, rv, p, hz⟩ := I.tuple hq
    obtain ⟨f0, f1, f2, f3, f4, f5⟩ := hf it (by simp)
    have hl := rv.length
    exact wpAny_pyNext_tuple_end (I.ok.hd hc) st (show s.heap.IsTuple a its.toArray from p) (by simp; omega) fun h' eb => ⟨rfl, I.turned (t' := s.toks) (fun b o hb e => eb b o hb e) f0 f1 f3 f4 f5⟩
  self := fun _ _ _ _ _ st h => wpAny_pyIter_tupleiter st h
theorem turn_range {P : Program} {w : World} {K : PySem.W.Frag} {tg : Expr} (it : Addr) (lo : Int) (n : Nat) : Turn P w K tg (Itr lo n) [it] it (fun i h => IsRangeIter h it (lo + (i : Nat) * 1) ((n : Int) - (i : Nat)) 1) where
  mem := by simp
  obj := fun i h st b hb => by
    have e : b = it := by simpa using hb
    subst e
    exact ⟨_, st, fun v z => by
      have z' : Data.fields _ = Data.cell v := z
      cases z'⟩
  keep := fun i h h' st k => k it (by simp) _ st
  item := by
    intro X hP hw hK hc i pins s σ H E I hf st hg
    subst hP hw hK
    obtain ⟨f0, f1, f2, f3, f4, f5⟩ := hf it (by simp)
    have W := Walks.range (prog := X.prog) (w := X.w) (I.ok.hd hc) it lo 1 n
    refine W.item i s _ _ hg st fun v h' tk hv st' kk => ?_
    obtain ⟨t, rfl⟩ := hv
    have I1 : Inv X pins σ H { s with heap := h', toks := tk } := I.turned (fun b o hb e => kk b o (by simpa using hb) e) f0 f1 f3 f4 f5
    refine ⟨_, rfl, go_of (s := { s with heap := h', toks := tk }) (n := "range_iterator") st' rfl rfl (by decide) ⟨.int (lo + i), H, I1, ⟨t, ?_⟩, ⟨rfl, rfl⟩, st', fun b hb => (hf b hb).1⟩⟩
    rw [Int.mul_one]
  done := by
    intro X hP hw hK hc i pins s σ H E I hf st hg
    subst hP hw hK
    obtain ⟨f0, f1, f2, f3, f4, f5⟩ := hf it (by simp)
    exact wpAny_pyNext_range_end (I.ok.hd hc) st (by have : n ≤ i := hg; omega) fun h' eb => ⟨rfl, I.turned (t' := s.toks) (fun b o hb e => eb b o hb e) f0 f1 f3 f4 f5⟩
  self := fun _ _ _ _ _ st h => wpAny_pyIter_rangeiter st h
end L2
namespace L2
open PySem PySem.Spec PyProof.Rows
section
variable {X : Cx} {tg : Expr}
def iList (K : PySem.W.Frag) (tl : TE) : TI := fun σ H R => tl σ H fun x H1 => ∃ a, x = .ref a ∧ (∃ xs, SqL K H1 a xs) ∧ R (Itl K a) H1
def iTup (K : PySem.W.Frag) (tl : TE) : TI := fun σ H R => tl σ H fun x H1 => ∃ a, x = .ref a ∧ (∃ xs, SqT K H1 a xs) ∧ R (Itt K a) H1
theorem pi_list {l : Expr} {tl : TE} (hl : PE X l tl) : PI X tg l (iList X.K tl) := by
  intro pins s σ H R I h
  refine thn (hl pins s σ H _ I h) fun v s1 ⟨x, H1, I1, r1, q1⟩ => ?_
  obtain ⟨a, e, ⟨xs, hq⟩, q⟩ := q1
  subst e
  cases r1
  obtain ⟨its, rv, p, hz⟩ := I1.list hq
  refine wpAny_pyIter_list p.isList ?_
  refine ⟨s1.heap.objs.size, [s1.heap.objs.size], _, _, H1, rfl, I1.kept (t' := s1.toks) fun b o e => Heap.get?_push_of_some _ e, turn_list a _, ⟨_, Heap.get?_push_size _ rfl, rfl, rfl⟩, fun b hb => ?_, q⟩
  have e : b = s1.heap.objs.size := by simpa using hb
  subst e
  exact I1.fpOk (Nat.le_refl _) (I1.hok.fresh (Nat.le_refl _))
theorem pi_tup {l : Expr} {tl : TE} (hl : PE X l tl) : PI X tg l (iTup X.K tl) := by
  intro pins s σ H R I h
  refine thn (hl pins s σ H _ I h) fun v s1 ⟨x, H1, I1, r1, q1⟩ => ?_
  obtain ⟨a, e, ⟨xs, hq⟩, q⟩ := q1
  subst e
  cases r1
  obtain ⟨its, rv, p, hz⟩ := I1.tuple hq
  refine wpAny_pyIter_tuple (show s1.heap.IsTuple a its.toArray from p) ?_
  refine ⟨s1.heap.objs.size, [s1.heap.objs.size], _, _, H1, rfl, I1.kept (t' := s1.toks) fun b o e => Heap.get?_push_of_some _ e, turn_tuple a _, ⟨_, Heap.get?_push_size _ rfl, rfl, rfl⟩, fun b hb => ?_, q⟩
  have e : b = s1.heap.objs.size := by simpa using hb
  subst e
  exact I1.fpOk (Nat.le_refl _) (I1.hok.fresh (Nat.le_refl _))
/-- a range object just made, walked -/
theorem range_it {pins : List (Addr × Obj)} {σ : St} {H : Hp} {s : Shared} {R : It → Hp → Prop} {E : Value → Shared → Prop} {lo hi : Int} {t u v : Tok} {tk : Nat} (I : Inv X pins σ H s) (h1 : -(2 ^ 62) ≤ lo) (h2 : lo < 2 ^ 62) (h3 : -(2 ^ 62) ≤ hi) (h4 : hi < 2 ^ 62)
    (q : R (Itr lo (hi - lo).toNat) H) : wpAny (model X.prog X.w) X.A (pyIter (.ref s.heap.objs.size)) (PIE X pins σ tg R) E { s with heap := s.heap.push { cls := .type "range", data := .fields #[.int lo t, .int hi u, .int 1 v] }, toks := tk } := by
  refine wpAny_pyIter_range (IsRange.new ..) (small_one h1 h2 h3 h4) ?_
  have I1 : Inv X pins σ H { s with heap := s.heap.push { cls := .type "range", data := .fields #[.int lo t, .int hi u, .int 1 v] }, toks := tk } := I.kept fun b o e => Heap.get?_push_of_some _ e
  refine ⟨(s.heap.push { cls := .type "range", data := .fields #[.int lo t, .int hi u, .int 1 v] }).objs.size, [(s.heap.push { cls := .type "range", data := .fields #[.int lo t, .int hi u, .int 1 v] }).objs.size], _, _, H, rfl,
    I1.kept (t' := tk) fun b o e => Heap.get?_push_of_some _ e, turn_range _ lo (hi - lo).toNat, ?_, fun b hb => ?_, q⟩
  · have e1 : lo + ((0 : Nat) : Int) * 1 = lo := by simp
    have e2 : (((hi - lo).toNat : Nat) : Int) - ((0 : Nat) : Int) = Builtin.Range.rangeSize lo hi 1 := by rw [rangeSize_one]; split <;> omega
    show IsRangeIter _ _ (lo + ((0 : Nat) : Int) * 1) ((((hi - lo).toNat : Nat) : Int) - ((0 : Nat) : Int)) 1
    rw [e1, e2]
    exact Heap.get?_push_size _ rfl
  · have e : b = (s.heap.push { cls := .type "range", data := .fields #[.int lo t, .int hi u, .int 1 v] }).objs.size := by simpa using hb
    subst e
    exact I1.fpOk (Nat.le_refl _) (I1.hok.fresh (Nat.le_refl _))
def iRng1 (ta : TA) : TI := fun σ H R => ta σ H fun vs H1 => ∃ j : Int, vs = [.int j] ∧ -(2 ^ 62) ≤ j ∧ j < 2 ^ 62 ∧ R (Itr 0 j.toNat) H1
theorem pi_range1 {a : Expr} {ta : TA} {p pos : Pos} (hg : Gl X "range") (hm : X.mg "range" = none) (ha : PA X [a] ta) (hs : starEach [a] X.env = [(false, eval a X.env)] := by rfl) : PI X tg (.Call (.Name "range" p) [a] [] pos) (iRng1 ta) := by
  intro pins s σ H R I h
  refine Call_ (ld_blt I hg hm boot_range (PyProof.Rows.callWith_type1 (thn (ha pos pins s σ H _ I h) fun us s1 ⟨vs, H1, I1, r1, q1⟩ => ?_) hs rfl))
  obtain ⟨j, e, q1, q2, q⟩ := q1
  subst e
  cases r1 with
  | cons r rr =>
    cases rr
    obtain ⟨t, rfl⟩ := r
    exact call_range_1 (range_it I1 (by omega) (by omega) q1 q2 (by simpa using q))
/-! ### for -/
/-- W: the invariant by the turn and a measure; N: what the body is to reach -/
def tFor (wi : TI) (g : TG) (tb : TS) : TS := fun D σ H => wi σ H fun J H1 => ∃ W : Nat → Nat → St → Hp → Prop, (∃ m, W 0 m σ H1) ∧ ∀ i m σ H, W i m σ H →
  (J.stop i H ∧ D.nx σ H) ∨ (J.go i H ∧ ∃ N : St → Hp → Prop, (∀ σ' H', N σ' H' → ∃ m', m' < m ∧ W (i + 1) m' σ' H') ∧ ∀ x H', J.yld i H x H' → g x σ H' fun σ2 H2 => tb { D with nx := N, ct := N, bk := D.nx } σ2 H2)
/-- the records at fp as they stand -/
def pinsAt (fp : List Addr) (h : Heap) : List (Addr × Obj) := fp.filterMap fun b => (h.get? b).map fun o => (b, o)
theorem mem_pinsAt {fp : List Addr} {h : Heap} {b : Addr} {o : Obj} (hb : b ∈ fp) (e : h.get? b = some o) : (b, o) ∈ pinsAt fp h := List.mem_filterMap.mpr ⟨b, hb, by rw [e]; rfl⟩
theorem of_pinsAt {fp : List Addr} {h : Heap} {p : Addr × Obj} (hp : p ∈ pinsAt fp h) : p.1 ∈ fp ∧ h.get? p.1 = some p.2 := by
  obtain ⟨b, hb, e⟩ := List.mem_filterMap.mp hp
  cases q : h.get? b with
  | none => rw [q] at e; cases e
  | some o =>
    rw [q] at e
    have e' : (b, o) = p := Option.some.inj e
    subst e'
    exact ⟨hb, q⟩
theorem Inv.pinned {pins : List (Addr × Obj)} {σ : St} {H : Hp} {s : Shared} {fp : List Addr} (I : Inv X pins σ H s) (hf : ∀ b ∈ fp, FpOk X pins H b) (ho : ∀ b ∈ fp, ∃ o, s.heap.get? b = some o ∧ ∀ v, o.data ≠ .cell v) : Inv X (pins ++ pinsAt fp s.heap) σ H s :=
  I.pins_of fun p hp => (List.mem_append.mp hp).elim (fun z => I.pin p (List.mem_append_right _ z)) fun z => by
    obtain ⟨hb, e⟩ := of_pinsAt z
    obtain ⟨f0, f1, f2, _⟩ := hf p.1 hb
    obtain ⟨o, e', d⟩ := ho p.1 hb
    rw [e] at e'; cases e'
    exact ⟨e, f0, f1, f2, d⟩
theorem Inv.unpinned {pins pl : List (Addr × Obj)} {σ : St} {H : Hp} {s : Shared} (I : Inv X (pins ++ pl) σ H s) : Inv X pins σ H s := I.pins_of fun p hp => I.pin p (List.mem_append_right _ (List.mem_append_left _ hp))
theorem ps_for {iter : Expr} {body : List Stmt} {wi : TI} {g : TG} {tb : TS} {pos : Pos} (hp : PassesOwn (model X.prog X.w) X.A X.env X.xe) (hc : X.calm = true) (hi : PI X tg iter wi) (hg : PG X tg g) (hb : PSs X body tb)
    (hs : ∀ x, foldedSetIterable iter X.env x = pure x := by intro _; rfl) : PS X (.For tg iter body [] pos) (tFor wi g tb) := by
  intro pins s σ H D I h
  refine wpAny_For (thn (hi pins s σ H _ I h) fun v s1 h1 => thn h1 fun itv s2 h2 => ?_) hs
  obtain ⟨it, fp, tn, J, H2, e, I2, T, st2, f2, W, ⟨m0, w0⟩, turn⟩ := h2
  subst e
  -- what stays true of the iterator's objects through the loop
  have stat : ∀ {H' : Hp}, (∀ b ∈ fp, H' b = none) → ∀ b ∈ fp, FpOk X pins H' b := fun hn b hb => ⟨hn b hb, (f2 b hb).2⟩
  refine codeAny_forLoop_any (fun n s' => ∃ i σ' H', Inv X pins σ' H' s' ∧ tn i s'.heap ∧ (∀ b ∈ fp, H' b = none) ∧ W i n σ' H') ?_ m0 ⟨0, σ, H2, I2, st2, fun b hb => (f2 b hb).1, w0⟩
  rintro n s3 ⟨i, σ3, H3, I3, st3, fr3, w3⟩
  rcases turn i n σ3 H3 w3 with ⟨stop, qn⟩ | ⟨go, N, hN, step⟩
  · refine wpAny_passesOwn hp (thn (T.done X rfl rfl rfl hc i pins s3 σ3 H3 X.xe I3 (stat fr3) st3 stop) fun r s4 ⟨hr, I4⟩ => ?_)
    subst hr
    exact wpAny_execs_nil ⟨σ3, H3, I4, qn⟩
  · refine wpAny_passesOwn hp (thn (T.item X rfl rfl rfl hc i pins s3 σ3 H3 X.xe I3 (stat fr3) st3 go) fun r s4 ⟨u, hr, h4⟩ => ?_)
    subst hr
    refine wpAny_passesOwn hp (thn h4 fun _ s5 ⟨x, H5, I5, r5, y5, st5, fr5⟩ => ?_)
    have I5' := I5.pinned (stat fr5) (T.obj _ _ st5)
    refine wpAny_passesOwn hp (thn (hg _ s5 σ3 H5 x u _ I5' r5 (step x H5 y5)) fun _ s6 ⟨σ6, H6, I6, q6⟩ => ?_)
    refine wpAny_passesOwn hp (thn (hb _ s6 σ6 H6 _ I6 q6) fun f s7 q7 => ?_)
    have again : ∀ {σ7 : St} {H7 : Hp}, Inv X (pins ++ pinsAt fp s5.heap) σ7 H7 s7 → N σ7 H7 → ∃ m, m < n ∧ ∃ i σ' H', Inv X pins σ' H' s7 ∧ tn i s7.heap ∧ (∀ b ∈ fp, H' b = none) ∧ W i m σ' H' := fun {σ7 H7} I7 n7 => by
      obtain ⟨m', hm, w7⟩ := hN σ7 H7 n7
      refine ⟨m', hm, i + 1, σ7, H7, I7.unpinned, T.keep _ _ _ st5 fun b hb o e => (I7.pin (b, o) (List.mem_append_right _ (List.mem_append_right _ (mem_pinsAt hb e)))).1, fun b hb => ?_, w7⟩
      obtain ⟨o, e, d⟩ := T.obj _ _ st5 b hb
      exact (I7.pin (b, o) (List.mem_append_right _ (List.mem_append_right _ (mem_pinsAt hb e)))).2.1
    cases f with
    | next => obtain ⟨σ7, H7, I7, n7⟩ := q7; exact again I7 n7
    | cont => obtain ⟨σ7, H7, I7, n7⟩ := q7; exact again I7 n7
    | brk => obtain ⟨σ7, H7, I7, q7⟩ := q7; exact ⟨σ7, H7, I7.unpinned, q7⟩
    | ret v => obtain ⟨x7, σ7, H7, I7, r7, q7⟩ := q7; exact ⟨x7, σ7, H7, I7.unpinned, r7, q7⟩
end
/-! ### the forms one uses -/
theorem for_range {lo : Int} {n : Nat} {g : TG} {tb : TS} {D : Ends} {σ : St} {H : Hp} (Pv : Nat → St → Hp → Prop) (h0 : Pv 0 σ H)
    (hs : ∀ i σ H, i < n → Pv i σ H → g (.int (lo + i)) σ H fun σ2 H2 => tb { D with nx := Pv (i + 1), ct := Pv (i + 1), bk := D.nx } σ2 H2) (hd : ∀ σ H, Pv n σ H → D.nx σ H) :
    ∃ W : Nat → Nat → St → Hp → Prop, (∃ m, W 0 m σ H) ∧ ∀ i m σ H, W i m σ H →
      ((Itr lo n).stop i H ∧ D.nx σ H) ∨ ((Itr lo n).go i H ∧ ∃ N : St → Hp → Prop, (∀ σ' H', N σ' H' → ∃ m', m' < m ∧ W (i + 1) m' σ' H') ∧ ∀ x H', (Itr lo n).yld i H x H' → g x σ H' fun σ2 H2 => tb { D with nx := N, ct := N, bk := D.nx } σ2 H2) := by
  refine ⟨fun i m σ H => m = n - i ∧ i ≤ n ∧ Pv i σ H, ⟨n, by simp, Nat.zero_le _, h0⟩, ?_⟩
  rintro i m σ H ⟨rfl, hi, p⟩
  by_cases hlt : i < n
  · refine .inr ⟨hlt, Pv (i + 1), fun σ' H' p' => ⟨n - (i + 1), by omega, rfl, hlt, p'⟩, fun x H' y => ?_⟩
    obtain ⟨e, y⟩ := y
    subst e y
    exact hs i σ _ hlt p
  · have e : i = n := by omega
    subst e
    exact .inl ⟨Nat.le_refl _, hd σ H p⟩
end L2
namespace L2
open PySem PySem.Spec PyProof.Rows
abbrev R2 := V → V → Hp → VK → Prop
/-- a two-place operation on values: f is binaryOp op, inplaceOp op or compareOp op -/
def OpR (X : Cx) (f : Value → Value → Sem Value) (r : R2) : Prop :=
  ∀ (pins : List (Addr × Obj)) (s : Shared) (σ : St) (H : Hp) (x y : V) (v u : Value) (Q : VK), Inv X pins σ H s → RelV x v → RelV y u → r x y H Q →
    wpAny (model X.prog X.w) X.A (f v u) (EP X pins σ Q) X.xe s
/-- a one-place operation -/
def UnR (X : Cx) (f : Value → Sem Value) (r : V → Hp → VK → Prop) : Prop :=
  ∀ (pins : List (Addr × Obj)) (s : Shared) (σ : St) (H : Hp) (x : V) (v : Value) (Q : VK), Inv X pins σ H s → RelV x v → r x H Q →
    wpAny (model X.prog X.w) X.A (f v) (EP X pins σ Q) X.xe s
/-- a call of a value that is known (a builtin, a type) with values -/
def CallR (X : Cx) (f : Value) (r : List V → Hp → VK → Prop) : Prop :=
  ∀ (pins : List (Addr × Obj)) (s : Shared) (σ : St) (H : Hp) (xs : List V) (us : List Value) (Q : VK), Inv X pins σ H s → Vals xs us → r xs H Q →
    wpAny (model X.prog X.w) X.A (call f us) (EP X pins σ Q) X.xe s
def tOp (r : R2) (ta tb : TE) : TE := fun σ H Q => ta σ H fun x H1 => tb σ H1 fun y H2 => r x y H2 Q
def tUn (r : V → Hp → VK → Prop) (ta : TE) : TE := fun σ H Q => ta σ H fun x H1 => r x H1 Q
/-- ints in, under C, and a value out -/
def rI (C : Int → Int → Prop) (g : Int → Int → V) : R2 := fun x y H Q => ∃ i j, x = .int i ∧ y = .int j ∧ C i j ∧ Q (g i j) H
def rI0 (g : Int → Int → V) : R2 := fun x y H Q => ∃ i j, x = .int i ∧ y = .int j ∧ Q (g i j) H
def rU (g : Int → V) : V → Hp → VK → Prop := fun x H Q => ∃ i, x = .int i ∧ Q (g i) H
section
variable {X : Cx} {a b c : Expr} {ta tb tc : TE} {pos : Pos}
theorem binT (ha : PE X a ta) (hb : PE X b tb) {pins : List (Addr × Obj)} {s : Shared} {σ : St} {H : Hp} {R : V → V → Hp → Prop} (I : Inv X pins σ H s)
    (h : ta σ H fun x H1 => tb σ H1 fun y H2 => R x y H2) {Q : Value → Shared → Prop} {f : Value → Value → Sem Value}
    (hf : ∀ v u s2 x y H2, Inv X pins σ H2 s2 → RelV x v → RelV y u → R x y H2 → wpAny (model X.prog X.w) X.A (f v u) Q X.xe s2) :
    wpAny (model X.prog X.w) X.A (eval a X.env) (fun v s₁ => wpAny (model X.prog X.w) X.A (eval b X.env) (fun u s₂ => wpAny (model X.prog X.w) X.A (f v u) Q X.xe s₂) X.xe s₁) X.xe s := by
  refine thn (ha pins s σ H _ I h) fun v s1 ⟨x, H1, I1, r1, q1⟩ => ?_
  refine thn (hb pins s1 σ H1 _ I1 q1) fun u s2 ⟨y, H2, I2, r2, q2⟩ => ?_
  exact hf v u s2 x y H2 I2 r1 r2 q2
theorem pe_op {op : Operator} {r : R2} (ho : OpR X (binaryOp op) r) (ha : PE X a ta) (hb : PE X b tb) : PE X (.BinOp a op b pos) (tOp r ta tb) := by
  intro pins s σ H Q I h
  exact wpAny_BinOp (binT ha hb I h fun v u s2 x y H2 I2 rx ry q => ho pins s2 σ H2 x y v u Q I2 rx ry q)
theorem pe_un {op : UnaryOp} {r : V → Hp → VK → Prop} (ho : UnR X (unaryOp op) r) (ha : PE X a ta) : PE X (.UnaryOp op a pos) (tUn r ta) := by
  intro pins s σ H Q I h
  exact UnaryOp_ (thn (ha pins s σ H _ I h) fun v s1 ⟨x, H1, I1, r1, q1⟩ => ho pins s1 σ H1 x v Q I1 r1 q1)
/-! ### ints -/
theorem opI {f : Value → Value → Sem Value} {C : Int → Int → Prop} {g : Int → Int → Int}
    (rule : ∀ (i j : Int) (t u : Tok) (s : Shared) (Q : Value → Shared → Prop) (E : Value → Shared → Prop), C i j → Q (.int (g i j) s.toks) { s with toks := s.toks + 1 } → wpAny (model X.prog X.w) X.A (f (.int i t) (.int j u)) Q E s) :
    OpR X f (rI C fun i j => .int (g i j)) := by
  intro pins s σ H x y v u Q I rx ry h
  obtain ⟨i, j, rfl, rfl, hc, q⟩ := h
  obtain ⟨t, rfl⟩ := rx
  obtain ⟨t', rfl⟩ := ry
  exact rule i j t t' s _ _ hc ⟨.int (g i j), H, I.tok _, ⟨_, rfl⟩, q⟩
theorem opI0 {f : Value → Value → Sem Value} {g : Int → Int → Int}
    (rule : ∀ (i j : Int) (t u : Tok) (s : Shared) (Q : Value → Shared → Prop) (E : Value → Shared → Prop), Q (.int (g i j) s.toks) { s with toks := s.toks + 1 } → wpAny (model X.prog X.w) X.A (f (.int i t) (.int j u)) Q E s) :
    OpR X f (rI0 fun i j => .int (g i j)) := by
  intro pins s σ H x y v u Q I rx ry h
  obtain ⟨i, j, rfl, rfl, q⟩ := h
  obtain ⟨t, rfl⟩ := rx
  obtain ⟨t', rfl⟩ := ry
  exact rule i j t t' s _ _ ⟨.int (g i j), H, I.tok _, ⟨_, rfl⟩, q⟩
theorem opB0 {f : Value → Value → Sem Value} {g : Int → Int → Bool}
    (rule : ∀ (i j : Int) (t u : Tok) (s : Shared) (Q : Value → Shared → Prop) (E : Value → Shared → Prop), Q (.bool (g i j)) s → wpAny (model X.prog X.w) X.A (f (.int i t) (.int j u)) Q E s) :
    OpR X f (rI0 fun i j => .bl (g i j)) := by
  intro pins s σ H x y v u Q I rx ry h
  obtain ⟨i, j, rfl, rfl, q⟩ := h
  obtain ⟨t, rfl⟩ := rx
  obtain ⟨t', rfl⟩ := ry
  exact rule i j t t' s _ _ ⟨.bl (g i j), H, I, rfl, q⟩
def CPow (i j : Int) : Prop := 0 ≤ j ∧ j ≤ 1000000 ∧ i.natAbs < 2 ^ 64
def CMul (i j : Int) : Prop := (-(2 ^ 64) < i ∧ i < 2 ^ 64) ∨ (-(2 ^ 64) < j ∧ j < 2 ^ 64)
theorem CMul.ok {i j : Int} (h : CMul i j) : IntMulOk i j := by
  rcases h with ⟨h1, h2⟩ | ⟨h1, h2⟩
  · exact .of_left (intBits_le_64 h1 h2)
  · exact .of_right (intBits_le_64 h1 h2)
theorem two_pow_nn (k : Nat) : (0 : Int) ≤ 2 ^ k := by
  rw [two_pow_cast]
  exact Int.natCast_nonneg _
theorem op_add : OpR X (binaryOp .Add) (rI0 fun i j => .int (i + j)) := opI0 fun _ _ _ _ _ _ _ q => add_int q
theorem op_sub : OpR X (binaryOp .Sub) (rI0 fun i j => .int (i - j)) := opI0 fun _ _ _ _ _ _ _ q => sub_int q
theorem op_mul : OpR X (binaryOp .Mult) (rI CMul fun i j => .int (i * j)) := opI fun _ _ _ _ _ _ _ hc q => mul_int q hc.ok
/-- % by a positive divisor of any size -/
theorem op_mod : OpR X (binaryOp .Mod) (rI (fun _ j => 0 < j) fun i j => .int (i % j)) := opI fun i j _ _ _ _ _ hc q => by
  have h1 : (0 : Int) < j := hc
  exact mod_int' (by omega) (by rw [Int.fmod_eq_emod_of_nonneg i (by omega)]; exact q)
theorem op_pow : OpR X (binaryOp .Pow) (rI CPow fun i j => .int (i ^ j.toNat)) := opI fun _ _ _ _ _ _ _ hc q => pow_int_small hc.1 hc.2.1 hc.2.2 q
theorem op_shr : OpR X (binaryOp .RShift) (rI (fun _ j => 0 ≤ j) fun i j => .int (i / 2 ^ j.toNat)) := opI fun i j _ _ _ _ _ hc q =>
  rshift_int hc (by rw [Int.fdiv_eq_ediv_of_nonneg i (two_pow_nn _)]; exact q)
theorem unI {f : Value → Sem Value} {g : Int → Int}
    (rule : ∀ (i : Int) (t : Tok) (s : Shared) (Q : Value → Shared → Prop) (E : Value → Shared → Prop), Q (.int (g i) s.toks) { s with toks := s.toks + 1 } → wpAny (model X.prog X.w) X.A (f (.int i t)) Q E s) :
    UnR X f (rU fun i => .int (g i)) := by
  intro pins s σ H x v Q I rx h
  obtain ⟨i, rfl, q⟩ := h
  obtain ⟨t, rfl⟩ := rx
  exact rule i t s _ _ ⟨.int (g i), H, I.tok _, ⟨_, rfl⟩, q⟩
theorem un_neg : UnR X (unaryOp .USub) (rU fun i => .int (-i)) := unI fun _ _ _ _ _ q => neg_int q
/-! ### bools among ints: n += (a < b) -/
end
/-! ### comparisons -/
/-- the scalars that == tells apart as data does -/
def scal : V → V → Bool
  | .non, .non => true | .non, .int _ => true | .int _, .non => true | .non, .bl _ => true | .bl _, .non => true | .non, .str _ => true | .str _, .non => true
  | .int _, .int _ => true | .bl _, .bl _ => true | .str _, .str _ => true | .byt _, .byt _ => true
  | .int _, .str _ => true | .str _, .int _ => true | .bl _, .str _ => true | .str _, .bl _ => true
  | _, _ => false
def rEq : R2 := fun x y H Q => scal x y = true ∧ Q (.bl (decide (x = y))) H
def rNe : R2 := fun x y H Q => scal x y = true ∧ Q (.bl (!decide (x = y))) H
theorem dec_int {i j : Int} : decide (V.int i = V.int j) = (i == j) := by
  rw [Bool.eq_iff_iff]
  simp
theorem dec_bl {i j : Bool} : decide (V.bl i = V.bl j) = (i == j) := by
  rw [Bool.eq_iff_iff]
  simp
theorem dec_str {i j : Str} : decide (V.str i = V.str j) = (i == j) := by
  rw [Bool.eq_iff_iff]
  simp
theorem dec_byt {i j : Array UInt8} : decide (V.byt i = V.byt j) = (i.toList == j.toList) := by
  rw [Bool.eq_iff_iff]
  cases i
  cases j
  simp
section
variable {X : Cx} {a b c : Expr} {ta tb tc : TE} {pos : Pos}
theorem fin_bl {pins : List (Addr × Obj)} {σ : St} {H : Hp} {s : Shared} {Q : VK} {k k' : Bool} (I : Inv X pins σ H s) (q : Q (.bl k) H) (e : k = k') : EP X pins σ Q (.bool k') s := by
  subst e
  exact ⟨.bl k, H, I, rfl, q⟩
theorem op_eq : OpR X (compareOp .Eq) rEq := by
  intro pins s σ H x y v u Q I rx ry h
  obtain ⟨hs, q⟩ := h
  cases x with
  | non =>
    cases rx
    cases y with
    | non => cases ry; exact PySem.EqNone.eq_none_none (fin_bl I q (by simp))
    | bl j => cases ry; exact PySem.EqNone.eq_none_bool (fin_bl I q (by simp))
    | int j => obtain ⟨t', rfl⟩ := ry; exact PySem.EqNone.eq_none_int (fin_bl I q (by simp))
    | str j => obtain ⟨t', rfl⟩ := ry; exact PySem.EqNone.eq_none_str (fin_bl I q (by simp))
    | _ => exact absurd (show false = true from hs) Bool.false_ne_true
  | bl i =>
    cases rx
    cases y with
    | non => cases ry; exact PySem.EqNone.eq_bool_none (fin_bl I q (by simp))
    | bl j => cases ry; exact eq_bool (fin_bl I q dec_bl)
    | str j => obtain ⟨t', rfl⟩ := ry; exact PySem.EqMixed.eq_bool_str (fin_bl I q (by simp))
    | _ => exact absurd (show false = true from hs) Bool.false_ne_true
  | int i =>
    obtain ⟨t, rfl⟩ := rx
    cases y with
    | non => cases ry; exact PySem.EqNone.eq_int_none (fin_bl I q (by simp))
    | int j => obtain ⟨t', rfl⟩ := ry; exact eq_int (fin_bl I q dec_int)
    | str j => obtain ⟨t', rfl⟩ := ry; exact PySem.EqMixed.eq_int_str (fin_bl I q (by simp))
    | _ => exact absurd (show false = true from hs) Bool.false_ne_true
  | str i =>
    obtain ⟨t, rfl⟩ := rx
    cases y with
    | non => cases ry; exact PySem.EqNone.eq_str_none (fin_bl I q (by simp))
    | bl j => cases ry; exact PySem.EqMixed.eq_str_bool (fin_bl I q (by simp))
    | int j => obtain ⟨t', rfl⟩ := ry; exact PySem.EqMixed.eq_str_int (fin_bl I q (by simp))
    | str j => obtain ⟨t', rfl⟩ := ry; exact eq_str (fin_bl I q dec_str)
    | _ => exact absurd (show false = true from hs) Bool.false_ne_true
  | byt i =>
    obtain ⟨t, rfl⟩ := rx
    cases y with
    | byt j => obtain ⟨t', rfl⟩ := ry; exact PySem.W.eq_bytes (fin_bl I q dec_byt)
    | _ => exact absurd (show false = true from hs) Bool.false_ne_true
  | _ => cases y <;> exact absurd (show false = true from hs) Bool.false_ne_true
theorem op_ne : OpR X (compareOp .NotEq) rNe := by
  intro pins s σ H x y v u Q I rx ry h
  obtain ⟨hs, q⟩ := h
  cases x with
  | non =>
    cases rx
    cases y with
    | non => cases ry; exact PySem.EqNone.ne_none_none (fin_bl I q (by simp))
    | bl j => cases ry; exact PySem.EqNone.ne_none_bool (fin_bl I q (by simp))
    | int j => obtain ⟨t', rfl⟩ := ry; exact PySem.EqNone.ne_none_int (fin_bl I q (by simp))
    | str j => obtain ⟨t', rfl⟩ := ry; exact PySem.EqNone.ne_none_str (fin_bl I q (by simp))
    | _ => exact absurd (show false = true from hs) Bool.false_ne_true
  | bl i =>
    cases rx
    cases y with
    | non => cases ry; exact PySem.EqNone.ne_bool_none (fin_bl I q (by simp))
    | bl j => cases ry; exact ne_bool (fin_bl I q (congrArg not dec_bl))
    | str j => obtain ⟨t', rfl⟩ := ry; exact PySem.EqMixed.ne_bool_str (fin_bl I q (by simp))
    | _ => exact absurd (show false = true from hs) Bool.false_ne_true
  | int i =>
    obtain ⟨t, rfl⟩ := rx
    cases y with
    | non => cases ry; exact PySem.EqNone.ne_int_none (fin_bl I q (by simp))
    | int j => obtain ⟨t', rfl⟩ := ry; exact ne_int (fin_bl I q (congrArg not dec_int))
    | str j => obtain ⟨t', rfl⟩ := ry; exact PySem.EqMixed.ne_int_str (fin_bl I q (by simp))
    | _ => exact absurd (show false = true from hs) Bool.false_ne_true
  | str i =>
    obtain ⟨t, rfl⟩ := rx
    cases y with
    | non => cases ry; exact PySem.EqNone.ne_str_none (fin_bl I q (by simp))
    | bl j => cases ry; exact PySem.EqMixed.ne_str_bool (fin_bl I q (by simp))
    | int j => obtain ⟨t', rfl⟩ := ry; exact PySem.EqMixed.ne_str_int (fin_bl I q (by simp))
    | str j => obtain ⟨t', rfl⟩ := ry; exact ne_str (fin_bl I q (congrArg not dec_str))
    | _ => exact absurd (show false = true from hs) Bool.false_ne_true
  | byt i =>
    obtain ⟨t, rfl⟩ := rx
    cases y with
    | byt j => obtain ⟨t', rfl⟩ := ry; exact PySem.W.ne_bytes (fin_bl I q (congrArg not dec_byt))
    | _ => exact absurd (show false = true from hs) Bool.false_ne_true
  | _ => cases y <;> exact absurd (show false = true from hs) Bool.false_ne_true
theorem op_lt : OpR X (compareOp .Lt) (rI0 fun i j => .bl (decide (i < j))) := opB0 fun _ _ _ _ _ _ _ q => lt_int q
theorem op_le : OpR X (compareOp .LtE) (rI0 fun i j => .bl (decide (i ≤ j))) := opB0 fun _ _ _ _ _ _ _ q => le_int q
theorem op_gt : OpR X (compareOp .Gt) (rI0 fun i j => .bl (decide (j < i))) := opB0 fun _ _ _ _ _ _ _ q => gt_int q
theorem op_ge : OpR X (compareOp .GtE) (rI0 fun i j => .bl (decide (j ≤ i))) := opB0 fun _ _ _ _ _ _ _ q => ge_int q
theorem nomark (b : Expr) {op : CmpOp} (h : op ≠ .In := by decide) (h2 : op ≠ .NotIn := by decide) : behindInMarks op b = false := by
  have e1 : (op == CmpOp.In) = false := by cases op <;> first | rfl | exact absurd rfl h
  have e2 : (op == CmpOp.NotIn) = false := by cases op <;> first | rfl | exact absurd rfl h2
  cases b <;> simp [behindInMarks, e1, e2]
/-- a comparison as a value; hm: nomark b, or (for in, not in) by with_unfolding_all rfl -/
theorem pe_cmpR {op : CmpOp} {r : R2} (ho : OpR X (compareOp op) r) (ha : PE X a ta) (hb : PE X b tb) (hm : behindInMarks op b = false) : PE X (.Compare a [op] [b] pos) (tOp r ta tb) := by
  intro pins s σ H Q I h
  exact wpAny_Compare1 (binT ha hb I h fun v u s2 x y H2 I2 rx ry q => ho pins s2 σ H2 x y v u Q I2 rx ry q) hm
/-- a reading of a value as a test -/
def tTest (t : TE) : TT := fun σ H Q => t σ H fun x H' => ∃ k, x = .bl k ∧ Q k H'
theorem pt_cmpR {op : CmpOp} {r : R2} (ho : OpR X (compareOp op) r) (ha : PE X a ta) (hb : PE X b tb) (hm : behindInMarks op b = false) : PT X (.Compare a [op] [b] pos) (tTest (tOp r ta tb)) := by
  intro pins s σ H Q I h
  refine wpAny_isTrue_Compare1 (thn (ha pins s σ H _ I h) fun v s1 ⟨x, H1, I1, r1, q1⟩ => thn (hb pins s1 σ H1 _ I1 q1) fun u s2 ⟨y, H2, I2, r2, q2⟩ =>
    thn (ho pins s2 σ H2 x y v u _ I2 r1 r2 q2) fun c s3 ⟨z, H3, I3, r3, k, e, q3⟩ => ?_) hm
  subst e
  cases r3
  exact wpAny_truthy_bool ⟨H3, I3, q3⟩
/-- a op1 b op2 c -/
def tChain (r r' : R2) (ta tb tc : TE) : TE := fun σ H Q => ta σ H fun x H1 => tb σ H1 fun y H2 => r x y H2 fun z H3 => ∃ k, z = .bl k ∧
  (if k = true then tc σ H3 fun w' H4 => r' y w' H4 Q else Q (.bl false) H3)
theorem pe_chain {op op' : CmpOp} {r r' : R2} (ho : OpR X (compareOp op) r) (ho' : OpR X (compareOp op') r') (ha : PE X a ta) (hb : PE X b tb) (hc : PE X c tc)
    (hm : lastMarks [op, op'] [b, c] = false := by with_unfolding_all rfl) : PE X (.Compare a [op, op'] [b, c] pos) (tChain r r' ta tb tc) := by
  intro pins s σ H Q I h
  refine Compare_chain (thn (ha pins s σ H _ I h) fun v s1 ⟨x, H1, I1, r1, q1⟩ => chain_link (thn (hb pins s1 σ H1 _ I1 q1) fun u s2 ⟨y, H2, I2, r2, q2⟩ =>
    thn (ho pins s2 σ H2 x y v u _ I2 r1 r2 q2) fun d s3 ⟨z, H3, I3, r3, k, e, q3⟩ => ?_)) hm
  subst e
  cases r3
  refine wpAny_truthy_bool ?_
  cases k with
  | false => exact ite_ff ⟨.bl false, H3, I3, rfl, q3⟩
  | true => exact ite_tt (chain_last (thn (hc pins s3 σ H3 _ I3 q3) fun w' s4 ⟨z', H4, I4, r4, q4⟩ => ho' pins s4 σ H4 y z' u w' Q I4 r2 r4 q4))
theorem pt_chain {op op' : CmpOp} {r r' : R2} (ho : OpR X (compareOp op) r) (ho' : OpR X (compareOp op') r') (ha : PE X a ta) (hb : PE X b tb) (hc : PE X c tc)
    (hm : lastMarks [op, op'] [b, c] = false := by with_unfolding_all rfl) : PT X (.Compare a [op, op'] [b, c] pos) (tTest (tChain r r' ta tb tc)) := by
  intro pins s σ H Q I h
  refine isTrue_chain (thn (ha pins s σ H _ I h) fun v s1 ⟨x, H1, I1, r1, q1⟩ => test_link (thn (hb pins s1 σ H1 _ I1 q1) fun u s2 ⟨y, H2, I2, r2, q2⟩ =>
    thn (ho pins s2 σ H2 x y v u _ I2 r1 r2 q2) fun d s3 ⟨z, H3, I3, r3, k, e, q3⟩ => ?_)) hm
  subst e
  cases r3
  refine wpAny_truthy_bool ?_
  cases k with
  | false =>
    obtain ⟨k', e', q'⟩ := q3
    cases e'
    exact ite_ff ⟨H3, I3, q'⟩
  | true =>
    refine ite_tt (test_last (thn (hc pins s3 σ H3 _ I3 q3) fun w' s4 ⟨z', H4, I4, r4, q4⟩ => thn (ho' pins s4 σ H4 y z' u w' _ I4 r2 r4 q4) fun d' s5 ⟨z2, H5, I5, r5, k2, e2, q5⟩ => ?_))
    subst e2
    cases r5
    exact wpAny_truthy_bool ⟨H5, I5, q5⟩
/-! ### truth -/
theorem line63 : (sizeLine : Nat) < 2 ^ 63 := by rw [sizeLine_eq]; decide
/-! ### strs and bytes -/
/-! ### scalar builtins, by CallR -/
theorem vals1 {x : V} {us : List Value} (r : Vals [x] us) : ∃ u, us = [u] ∧ RelV x u := by
  cases r with
  | cons r1 r2 => cases r2; exact ⟨_, rfl, r1⟩
theorem vals2 {x y : V} {us : List Value} (r : Vals [x, y] us) : ∃ u w', us = [u, w'] ∧ RelV x u ∧ RelV y w' := by
  cases r with
  | cons r1 r2 =>
    cases r2 with
    | cons r3 r4 => cases r4; exact ⟨_, _, rfl, r1, r3⟩
theorem call_abs : CallR X (.builtin "abs") (fun xs H Q => ∃ i, xs = [.int i] ∧ Q (.int (if i < 0 then -i else i)) H) := by
  intro pins s σ H xs us Q I r h
  obtain ⟨i, rfl, q⟩ := h
  obtain ⟨u, rfl, t, rfl⟩ := vals1 r
  exact call_abs_int fun u tk => ⟨.int (if i < 0 then -i else i), H, I.tok _, ⟨_, rfl⟩, q⟩
theorem call_max2 (hc : X.calm = true) : CallR X (.builtin "max") (fun xs H Q => ∃ i j, xs = [.int i, .int j] ∧ Q (.int (if j > i then j else i)) H) := by
  intro pins s σ H xs us Q I r h
  obtain ⟨i, j, rfl, q⟩ := h
  obtain ⟨u, w', rfl, ⟨t, rfl⟩, ⟨t', rfl⟩⟩ := vals2 r
  refine max_two_ints (I.ok.hd hc) fun h' tk k => ⟨_, H, I.kept k, ?_, q⟩
  by_cases hj : j > i
  · rw [if_pos hj, if_pos hj]; exact ⟨_, rfl⟩
  · rw [if_neg hj, if_neg hj]; exact ⟨_, rfl⟩
theorem call_min2 (hc : X.calm = true) : CallR X (.builtin "min") (fun xs H Q => ∃ i j, xs = [.int i, .int j] ∧ Q (.int (if j < i then j else i)) H) := by
  intro pins s σ H xs us Q I r h
  obtain ⟨i, j, rfl, q⟩ := h
  obtain ⟨u, w', rfl, ⟨t, rfl⟩, ⟨t', rfl⟩⟩ := vals2 r
  refine min_two_ints (I.ok.hd hc) fun h' tk k => ⟨_, H, I.kept k, ?_, q⟩
  by_cases hj : j < i
  · rw [if_pos hj, if_pos hj]; exact ⟨_, rfl⟩
  · rw [if_neg hj, if_neg hj]; exact ⟨_, rfl⟩
end
end L2
namespace L2
open PySem PySem.Spec PyProof.Rows
/-! ### an instance, its attributes a map -/
structure ObjM (h : Heap) (x dx C : Addr) (mA : Str → Option Value) : Prop where
  obj : h.get? x = some (PySem.W.instObj C dx)
  ns : h.Ns1 dx mA
  ne : dx ≠ x
theorem lookIn_ns {h : Heap} {dx : Addr} {mA : Str → Option Value} (n : h.Ns1 dx mA) : ∃ od, h.get? dx = some od ∧ ∀ name, PySem.W.lookIn name od = some (mA name) := by
  obtain ⟨o, es, ep, ho, hd, hk, _, hm⟩ := n
  refine ⟨o, ho, fun name => ?_⟩
  have e := hm name
  unfold nsFind findBy at e
  rw [← Array.find?_toList] at e
  unfold PySem.W.lookIn
  rw [hd]
  dsimp only
  split
  · rename_i y q
    rw [q] at e
    exact congrArg some e
  · rename_i q
    rw [q] at e
    have a : es.toList.any (·.refKey) = false := by
      rw [List.any_eq_false]
      intro y hy
      obtain ⟨z, t, hkey⟩ := hk y (Array.mem_toList_iff.mp hy)
      simp [DictEntry.refKey, hkey]
    have a' : ¬ es.toList.any (·.refKey) = true := by rw [a]; exact Bool.false_ne_true
    rw [if_neg a']
    exact congrArg some e
theorem ObjM.look {h : Heap} {x dx C : Addr} {mA : Str → Option Value} (I : ObjM h x dx C mA) : ∃ od, PySem.W.InstAt h x (PySem.W.instObj C dx) C (some od) ∧ ∀ name, PySem.W.lookIn name od = some (mA name) :=
  let ⟨od, ho, hl⟩ := lookIn_ns I.ns
  ⟨od, ⟨I.obj, rfl, rfl, ho⟩, hl⟩
section
variable {prog : Program} {w : World} {A : Around} {E : Value → Shared → Prop} {s : Shared} {K : PySem.W.Frag} {x dx C f : Addr} {mA : Str → Option Value} {name : Str} {v : Value}
end
/-! ### the attributes as a list of pairs -/
section
variable {P : Program} {w : World} {H H' : Hp} {h h' : Heap} {a C dx : Addr} {fs fs' : List (Str × V)}
theorem ins_get (hok : HOk P w H h) (e : H a = some (.ins C dx fs)) : ∃ mA, ObjM h a dx C mA ∧ (∀ f, RelO (fs.lookup f) (mA f)) ∧ PySem.Within mA (fs.map (·.1)) ∧ fs.length ≤ 1000 ∧ H dx = some (.own a) := by
  obtain ⟨d, z, ne, ob, mA, n, r, q⟩ := (show ObjOk P w H h a (.ins C dx fs) from hok a _ e)
  exact ⟨mA, ⟨ob, n, ne⟩, r, q, z, d⟩
end
/-! ### what of the text a class must have -/
structure Cls (K : PySem.W.Frag) (C : Addr) : Prop where
  pg : PySem.W.plainGet K C Str.empty = true
  hd : PySem.W.hasDictIn K C = true
  po : PySem.W.plainOver K C = true
  sa : PySem.W.findIn K (.ref C) "__setattr__" = some (some (.builtin "object.__setattr__"))
theorem Cls.get {K : PySem.W.Frag} {C : Addr} (c : Cls K C) (f : Str) : PySem.W.plainGet K C f = true := c.pg
section
variable {X : Cx} {pins : List (Addr × Obj)} {σ : St} {H : Hp} {s : Shared} {a C dx : Addr} {fs : List (Str × V)} {f : Str} {v : V} {A : Around} {E : Value → Shared → Prop}
end
/-! ### readings and rules -/
section
variable {X : Cx} {o e value : Expr} {f : Str} {pos pos' tpos : Pos} {ta tv : TE}
end
/-! ### isinstance -/
section
variable {X : Cx} {pins : List (Addr × Obj)} {σ : St} {H : Hp} {s : Shared} {A : Around} {E : Value → Shared → Prop} {Q : Value → Shared → Prop} {c : Value} {b : Bool}
/-- the type of a value, as the fragment's deciders take it; for an instance its class -/
inductive TyOf (K : PySem.W.Frag) (H : Hp) : V → Value → Prop where
  | non : TyOf K H .non (.type "NoneType")
  | bl (x : Bool) : TyOf K H (.bl x) (.type "bool")
  | int (i : Int) : TyOf K H (.int i) (.type "int")
  | str (x : Str) : TyOf K H (.str x) (.type "str")
  | flt (x : UInt64) : TyOf K H (.flt x) (.type "float")
  | lst {a : Addr} {xs : List V} (e : H a = some (.lst xs)) : TyOf K H (.ref a) (.type "list")
  | frz {a : Addr} {o : Obj} {xs : List V} (e : H a = some (.frz o (.lst xs))) : TyOf K H (.ref a) (.type "list")
  | tup {a : Addr} {xs : List V} (e : H a = some (.tup xs)) : TyOf K H (.ref a) (.type "tuple")
  | dK {a : Addr} {kvs : List (Key × V)} (e : H a = some (.dK kvs)) : TyOf K H (.ref a) (.type "dict")
  | dT {a : Addr} {kvs : List (List Key × V)} (e : H a = some (.dT kvs)) : TyOf K H (.ref a) (.type "dict")
  | ins {a C dx : Addr} {fs : List (Str × V)} (e : H a = some (.ins C dx fs)) (cl : Cls K C) (ha : PySem.W.findIn K (.ref C) "__class__" = some (some (.builtin "object.__class__")))
      (hn : PySem.W.specialIn K (.builtin "object.__class__") "__get__" = some (some (.builtin "getset_descriptor.__get__"))) (htk : PySem.W.takesIn K (.builtin "object.__class__") = some true)
      (hm : PySem.W.mroIn K C (.type "object") = some true) : TyOf K H (.ref a) (.ref C)
/-- isinstance(x, c) for one class c, a built-in or an own one: kitOne's answer -/
theorem isinst_ok {x : V} {u t : Value} (I : Inv X pins σ H s) (rx : RelV x u) (ty : TyOf X.K H x t) (e : PySem.W.kitOne X.K t c = some b) (h : ∀ tk, Q (.bool b) { s with toks := tk }) :
    wpAny (model X.prog X.w) A (call (.builtin "isinstance") [u, c]) Q E s := by
  cases ty with
  | non => cases (show u = Value.none from rx); exact PySem.W.kia_one PySem.W.kitx_none I.kIn True.intro e (fun z => nomatch z) h
  | bl y => cases (show u = Value.bool y from rx); exact PySem.W.kia_one PySem.W.kitx_bool I.kIn True.intro e (fun z => nomatch z) h
  | int i => obtain ⟨t, q⟩ := (show ∃ t, u = Value.int i t from rx); cases q; exact PySem.W.kia_one PySem.W.kitx_int I.kIn True.intro e (fun z => nomatch z) h
  | str y => obtain ⟨t, q⟩ := (show ∃ t, u = Value.str y t from rx); cases q; exact PySem.W.kia_one PySem.W.kitx_str I.kIn True.intro e (fun z => nomatch z) h
  | flt y => obtain ⟨t, q⟩ := (show ∃ t, u = Value.float y t from rx); cases q; exact PySem.W.kia_one PySem.W.kitx_float I.kIn True.intro e (fun z => nomatch z) h
  | @lst a xs ea =>
    cases (show u = Value.ref a from rx)
    obtain ⟨_, _, n, _, h1⟩ := (show ObjOk X.prog X.w H s.heap a (.lst xs) from I.hok a _ ea)
    exact PySem.W.kia_one PySem.W.kitx_list I.kIn ⟨_, h1, rfl⟩ e (fun z => nomatch z) h
  | @frz a ob xs ea =>
    cases (show u = Value.ref a from rx)
    obtain ⟨_, _, _, n, _, h1⟩ := (show ObjOk X.prog X.w H s.heap a (.frz ob (.lst xs)) from I.hok a _ ea)
    exact PySem.W.kia_one PySem.W.kitx_list I.kIn ⟨_, h1, rfl⟩ e (fun z => nomatch z) h
  | @tup a xs ea =>
    cases (show u = Value.ref a from rx)
    obtain ⟨_, _, _, p⟩ := (show ObjOk X.prog X.w H s.heap a (.tup xs) from I.hok a _ ea)
    obtain ⟨o, h1, h2, _⟩ := p
    exact PySem.W.kia_one PySem.W.kitx_tuple I.kIn ⟨o, h1, h2⟩ e (fun z => nomatch z) h
  | @dK a kvs ea =>
    cases (show u = Value.ref a from rx)
    obtain ⟨_, _, vs, _, p⟩ := (show ObjOk X.prog X.w H s.heap a (.dK kvs) from I.hok a _ ea)
    obtain ⟨o, es, ep, h1, h2, _⟩ := p
    exact PySem.W.kia_one PySem.W.kitx_dict I.kIn ⟨o, h1, h2.1⟩ e (fun z => nomatch z) h
  | @dT a kvs ea =>
    cases (show u = Value.ref a from rx)
    obtain ⟨_, _, xs, _, o, es, ep, h1, h2, _⟩ := (show ObjOk X.prog X.w H s.heap a (.dT kvs) from I.hok a _ ea)
    exact PySem.W.kia_one PySem.W.kitx_dict I.kIn ⟨o, h1, h2.1⟩ e (fun z => nomatch z) h
  | @ins a C dx fs ea cl ha hn htk hm =>
    cases (show u = Value.ref a from rx)
    obtain ⟨mA, O, _⟩ := ins_get I.hok ea
    obtain ⟨od, J, _⟩ := O.look
    exact PySem.W.kia_one (PySem.W.kitx_own (cl.get _) cl.hd ha hn htk hm) I.kIn J e (fun z => nomatch z) h
end
end L2
namespace L2
open PySem PySem.Spec PyProof.Rows
/-! ### room -/
structure Room (k : Nat) (A : Around) : Prop where
  hd : A.handled = none
  dp : A.depth + 3 * k + 5 < recursionLimit
  un : A.units + 16 * k + 200 < cLine
theorem Room.mono {j k : Nat} {A : Around} (r : Room k A) (h : j ≤ k) : Room j A := ⟨r.hd, by have := r.dp; omega, by have := r.un; omega⟩
theorem Room.deeper {k : Nat} {A : Around} (r : Room (k + 1) A) (env : Env) : Room k (A.deeper env) :=
  ⟨r.hd, by have := r.dp; show A.depth + 1 + 3 * k + 5 < _; omega, by have := r.un; show A.units + 3 + 16 * k + 200 < _; omega⟩
theorem Room.depth {k : Nat} {A : Around} (r : Room k A) : A.depth < recursionLimit := by have := r.dp; omega
/-! ### argument lists and displays -/
def tNil : TA := fun _ H Q => Q [] H
def tCons (ta : TE) (tr : TA) : TA := fun σ H Q => ta σ H fun x H1 => tr σ H1 fun xs H2 => Q (x :: xs) H2
section
variable {X : Cx} {e : Expr} {es : List Expr} {te : TE} {t : TA} {pos : Pos}
theorem pa_nil : PA X [] tNil := fun _ _ _ _ H Q I h => Calls.spliced_nil ⟨[], H, I, .nil, h⟩
theorem pa_cons (ha : PE X e te) (hr : PA X es t) (hs : starEach (e :: es) X.env = (false, eval e X.env) :: starEach es X.env := by rfl) : PA X (e :: es) (tCons te t) := by
  intro pos pins s σ H Q I h
  rw [hs]
  show wpAny _ _ (spliced ((false, eval e X.env) :: backTo pos (starEach es X.env))) _ _ s
  refine Calls.spliced_cons (thn (ha pins s σ H _ I h) fun u s1 ⟨x, H1, I1, r1, q1⟩ => ?_)
  exact thn (hr pos pins s1 σ H1 _ I1 q1) fun us s2 ⟨xs, H2, I2, r2, q2⟩ => ⟨x :: xs, H2, I2, .cons r1 r2, q2⟩
/-- a tuple, a list of written items -/
def tTup (t : TA) : TE := fun σ H Q => t σ H fun xs H1 => xs.length ≤ sizeLine ∧ ∀ p, H1 p = none → Q (.ref p) (upd H1 p (.tup xs))
def tLst (t : TA) : TE := fun σ H Q => t σ H fun xs H1 => xs.length ≤ sizeLine ∧ ∀ p, H1 p = none → Q (.ref p) (upd H1 p (.lst xs))
theorem pe_tup {x1} (h : PA X es t) : PE X (.Tuple es x1 pos) (tTup t) := by
  intro pins s σ H Q I hq
  refine wpAny_Tuple_spliced (thn (h pos pins s σ H _ I hq) fun us s1 ⟨xs, H1, I1, r, z, q⟩ => ⟨by rw [← r.length]; exact z, ?_⟩)
  have hf : H1 s1.heap.objs.size = none := I1.hok.fresh (Nat.le_refl _)
  refine ⟨.ref s1.heap.objs.size, upd H1 s1.heap.objs.size (.tup xs), I1.laid (t' := s1.toks) (fun b u e => Heap.get?_push_of_some _ e) (Nat.le_refl _) ?_, rfl, q _ hf⟩
  exact ⟨z, us, r, ⟨_, Heap.get?_push_size _ rfl, rfl, _, rfl⟩⟩
theorem pe_lst (h : PA X es t) : PE X (.List es pos) (tLst t) := by
  intro pins s σ H Q I hq
  refine wpAny_List_spliced (thn (h pos pins s σ H _ I hq) fun us s1 ⟨xs, H1, I1, r, z, q⟩ => ⟨by rw [← r.length]; exact z, ?_⟩)
  have hf : H1 s1.heap.objs.size = none := I1.hok.fresh (Nat.le_refl _)
  refine ⟨.ref s1.heap.objs.size, upd H1 s1.heap.objs.size (.lst xs), I1.laid (t' := s1.toks) (fun b u e => Heap.get?_push_of_some _ e) (Nat.le_refl _) ?_, rfl, q _ hf⟩
  exact ⟨z, us, 0, r, Heap.get?_push_size _ rfl⟩
end
/-! ### what a def promises -/
/-- a def's promise: the bound arguments in the parameters' order, the heap, the wanted end, the wanted exception -/
abbrev Sp := List V → Hp → VK → XK → Prop
/-- how an exception lies behind a call (file 08 gives it): the callers' frames, abstract heap and state ahead of the call, the wish, the exception, the state -/
abbrev CXT := List Env → Hp → Shared → XK → Value → Shared → Prop
/-- the state at a call -/
structure Env0 (P : Program) (w : World) (K : PySem.W.Frag) (mg : Str → Option Value) (base : Heap) (A : Around) (outer : List Env) (s : Shared) (H : Hp) : Prop where
  frames : A.frames = some outer
  mod : Mod K mg base
  bs : ∀ b o, base.get? b = some o → s.heap.get? b = some o ∧ H b = none
  bsz : base.objs.size ≤ s.heap.objs.size
  funs : s.heap.FunFrames base outer
  frf : ∀ b ∈ frs outer, H b = none
  hok : HOk P w H s.heap
  bare : AllBare s.gens
/-- a call's end -/
def CE (outer : List Env) (P : Program) (w : World) (H : Hp) (s : Shared) (Q : VK) (u : Value) (s' : Shared) : Prop :=
  ∃ v H', s'.os = s.os ∧ AllBare s'.gens ∧ Un (frs outer) [] H H' s.heap s'.heap ∧ HOk P w H' s'.heap ∧ RelV v u ∧ Q v H'
def CR (CX : CXT) (outer : List Env) (P : Program) (w : World) (H : Hp) (s : Shared) (Q : VK) (E : XK) (r : Result) (s' : Shared) : Prop :=
  match r with
  | .ok (.ret u) => CE outer P w H s Q u s'
  | .ok _ => False
  | .error e => CX outer H s E e s'
structure FnOk (P : Program) (w : World) (K : PySem.W.Frag) (mg : Str → Option Value) (base : Heap) (CX : CXT) (k : Nat) (f : Addr) (fd : FuncData) (ps : List Str) (sp : Sp) : Prop where
  len : ∀ vs H Q E, sp vs H Q E → vs.length = ps.length
  run : ∀ (A : Around) (outer : List Env) (s : Shared) (H : Hp) (args : Args) (us : List Value) (vs : List V) (Q : VK) (E : XK), Room k A → Env0 P w K mg base A outer s H → BindsTo s fd args (ps.zip us) → Vals vs us → sp vs H Q E →
    codeAny (model P w) A (.call (.ref f) args) (CR CX outer P w H s Q E) s
theorem FnOk.mono {P : Program} {w : World} {K : PySem.W.Frag} {mg : Str → Option Value} {base : Heap} {CX : CXT} {j k : Nat} {f : Addr} {fd : FuncData} {ps : List Str} {sp : Sp} (F : FnOk P w K mg base CX j f fd ps sp) (h : j ≤ k) :
    FnOk P w K mg base CX k f fd ps sp := ⟨F.len, fun A outer s H args us vs Q E hr => F.run A outer s H args us vs Q E (hr.mono h)⟩
section
variable {X : Cx} {pins : List (Addr × Obj)} {σ : St} {H : Hp} {s s' : Shared}
/-- from a body: what a callee wants -/
theorem Inv.env0 (I : Inv X pins σ H s) : Env0 X.prog X.w X.K X.mg X.base X.A X.stack s H :=
  ⟨I.ok.frames, I.ok.mod, I.bs, Nat.le_trans I.ok.bsz I.sz, I.stack, I.stkFree, I.hok, I.bare⟩
/-- behind a call -/
theorem Inv.after {Q : VK} {u : Value} (I : Inv X pins σ H s) (h : CE X.stack X.prog X.w H s Q u s') : EP X pins σ Q u s' := by
  obtain ⟨v, H', os, bare, un, hok, r, q⟩ := h
  obtain ⟨hh, g, d, t, os'⟩ := s'
  obtain rfl : os' = s.os := os
  exact ⟨v, H', I.call (h' := hh) (g' := g) (d' := d) (t' := t) (ch := []) un hok bare (fun b z => absurd z (by simp)), r, q⟩
end
/-! ### calls -/
/-- f(..): the written arguments, then the defaults dvs; E: what is wanted of an exception -/
def tCall (sp : Sp) (dvs : List V) (E : XK) (t : TA) : TE := fun σ H Q => t σ H fun vs H1 => sp (vs ++ dvs) H1 Q E
/-- how the parameters are bound: us the positional arguments, kw the keywords' values by name, ds the defaults that fill up -/
def Binds (K : PySem.W.Frag) (fd : FuncData) (ps : List Str) (ds : List Value) : Prop :=
  ∀ (s : Shared) (us : List Value), K.In s.heap → (us ++ ds).length = ps.length → BindsTo s fd ⟨us, []⟩ (ps.zip (us ++ ds))
/-- every parameter is given -/
theorem Binds.all {K : PySem.W.Frag} {fd : FuncData} {ps : List Str} (h : ∀ us : List Value, us.length = ps.length → bindArgs fd ⟨us, []⟩ = pure (ps.zip us)) : Binds K fd ps [] := fun s us _ hl => by
  rw [List.append_nil] at hl ⊢
  exact .of_eq (h us hl)
/-- an exception of a callee reaches what this body wants of exceptions -/
def Passes (CX : CXT) (X : Cx) (E : XK) : Prop := ∀ (pins : List (Addr × Obj)) (σ : St) (H : Hp) (s : Shared) (e : Value) (s' : Shared), Inv X pins σ H s → CX X.stack H s E e s' → X.xe e s'
section
variable {X : Cx} {CX : CXT} {k : Nat} {f C : Addr} {fd : FuncData} {ps : List Str} {sp : Sp} {dvs : List V} {ds : List Value} {E : XK} {x m : Str} {p pos apos : Pos} {e o : Expr} {es : List Expr} {ta : TE} {t : TA}
/-- the callee runs -/
theorem run_fn {pins : List (Addr × Obj)} {σ : St} {H : Hp} {s : Shared} {Q : VK} {us : List Value} {vs : List V} (F : FnOk X.prog X.w X.K X.mg X.base CX k f fd ps sp) (hr : Room k X.A) (hb : Binds X.K fd ps ds) (hd : Vals dvs ds) (hx : Passes CX X E)
    (I : Inv X pins σ H s) (r : Vals vs us) (h : sp (vs ++ dvs) H Q E) : wpAny (model X.prog X.w) X.A (call (.ref f) us) (EP X pins σ Q) X.xe s := by
  have r2 : Vals (vs ++ dvs) (us ++ ds) := r.append hd
  have hl : (us ++ ds).length = ps.length := by rw [← r2.length]; exact F.len _ _ _ _ h
  refine wpAny_call (codeAny_mono (F.run X.A X.stack s H ⟨us, []⟩ (us ++ ds) (vs ++ dvs) Q E hr I.env0 (hb s us I.kIn hl) r2 h) fun r s' hq => ?_)
  cases r with
  | error e => exact hx pins σ H s e s' I hq
  | ok fl =>
    cases fl with
    | ret u => exact I.after hq
    | next => exact False.elim hq
    | brk => exact False.elim hq
    | cont => exact False.elim hq
theorem pe_call (F : FnOk X.prog X.w X.K X.mg X.base CX k f fd ps sp) (hr : Room k X.A) (hg : Gl X x) (hm : X.mg x = some (.ref f)) (hk : PySem.W.keepIn X.K (.ref f) = true) (hb : Binds X.K fd ps ds) (hd : Vals dvs ds) (hx : Passes CX X E)
    (ha : PA X (e :: es) t) (hdb : (x == ("__debug__" : Str)) = false := by decide) (he : starEach (e :: es) X.env = (false, eval e X.env) :: starEach es X.env := by rfl) (hpl : (backTo pos (starEach es X.env)).any (·.1) = false := by rfl) :
    PE X (.Call (.Name x p) (e :: es) [] pos) (tCall sp dvs E t) := by
  intro pins s σ H Q I h
  refine wpAny_Call_Name_kw (ld_glob I hg hm ?_ hdb)
  refine PySem.W.callWith_K (h₀ := X.base) I.ok.mod.kin hk (thn (ha pos pins s σ H _ I h) fun us s1 ⟨vs, H1, I1, r, q⟩ => ⟨I1.kIn, ?_⟩) he hpl
  exact run_fn F hr hb hd hx I1 r q
end
/-! ### keywords -/
section
variable {X : Cx} {CX : CXT} {k : Nat} {f C : Addr} {fd : FuncData} {ps ks : List Str} {sp : Sp} {E : XK} {x m : Str} {p pos apos kpos : Pos} {e o : Expr} {es : List Expr} {kws : List Keyword} {te ta : TE} {t tk : TA} {nm : Option Str}
variable {g : List Value → List Value → List Value} {gV : List V → List V → List V}
end
/-! ### a def's body keeps its promise -/
/-- names: the parameters first -/
structure FnScope (N P : List Str) (sc : Scope) : Prop where
  kind : sc.kind = .function
  co : sc.isCoroutine = false
  gen : sc.isGenerator = false
  nd : N.Nodup
  pre : N.take P.length = P
  par : ∀ x ∈ P, sc.names.lookup x = some .local ∨ sc.names.lookup x = some .cell
  nofree : ∀ y ∈ sc.names, y.2 ≠ .free
theorem bindL_out {kindOf : Str → Option NameKind} {x : Str} : ∀ {binds : List (Str × Value)} {m : Str → Option Value}, (∀ v, (x, v) ∉ binds) → bindL kindOf binds m x = m x
  | [], _, _ => rfl
  | (n, v) :: r, m, h => by
    unfold bindL
    rw [bindL_out fun w hw => h w (List.mem_cons_of_mem _ hw)]
    split
    · have : x ≠ n := by rintro rfl; exact h v List.mem_cons_self
      simp [this]
    · rfl
theorem bindC_out {kindOf : Str → Option NameKind} {x : Str} : ∀ {binds : List (Str × Value)} {m : Str → Option Value}, (∀ v, (x, v) ∉ binds) → bindC kindOf binds m x = m x
  | [], _, _ => rfl
  | (n, v) :: r, m, h => by
    unfold bindC
    rw [bindC_out fun w hw => h w (List.mem_cons_of_mem _ hw)]
    split
    · rfl
    · have : x ≠ n := by rintro rfl; exact h v List.mem_cons_self
      simp [this]
theorem bindL_get {kindOf : Str → Option NameKind} {x : Str} {v : Value} : ∀ {P : List Str} {vs : List Value} {i : Nat} {m : Str → Option Value}, P.Nodup → P[i]? = some x → vs[i]? = some v → kindOf x = some .local →
    bindL kindOf (P.zip vs) m x = some v
  | [], _, _, _, _, h, _, _ => by simp at h
  | _ :: _, [], _, _, _, _, h, _ => by simp at h
  | p :: P, w :: vs, 0, m, nd, h1, h2, hk => by
    simp at h1 h2; subst h1; subst h2
    show bindL kindOf ((p, w) :: P.zip vs) m p = _
    unfold bindL
    rw [bindL_out fun v hv => (List.nodup_cons.mp nd).1 (List.of_mem_zip hv).1, if_pos hk]
    simp
  | p :: P, w :: vs, i + 1, m, nd, h1, h2, hk => by
    show bindL kindOf ((p, w) :: P.zip vs) m x = _
    unfold bindL
    exact bindL_get (i := i) (List.nodup_cons.mp nd).2 (by simpa using h1) (by simpa using h2) hk
theorem bindC_get {kindOf : Str → Option NameKind} {x : Str} {v : Value} : ∀ {P : List Str} {vs : List Value} {i : Nat} {m : Str → Option Value}, P.Nodup → P[i]? = some x → vs[i]? = some v → kindOf x ≠ some .local →
    bindC kindOf (P.zip vs) m x = some v
  | [], _, _, _, _, h, _, _ => by simp at h
  | _ :: _, [], _, _, _, _, h, _ => by simp at h
  | p :: P, w :: vs, 0, m, nd, h1, h2, hk => by
    simp at h1 h2; subst h1; subst h2
    show bindC kindOf ((p, w) :: P.zip vs) m p = _
    unfold bindC
    rw [bindC_out fun v hv => (List.nodup_cons.mp nd).1 (List.of_mem_zip hv).1, if_neg hk]
    simp
  | p :: P, w :: vs, i + 1, m, nd, h1, h2, hk => by
    show bindC kindOf ((p, w) :: P.zip vs) m x = _
    unfold bindC
    exact bindC_get (i := i) (List.nodup_cons.mp nd).2 (by simpa using h1) (by simpa using h2) hk
/-- the names' values at the entry -/
def start (N : List Str) (vs : List V) : St := vs.map some ++ List.replicate (N.length - vs.length) none
/-- the context of a def's body, at its entry; an exception leaves the frame, then lies as CX says -/
def cxOf (CX : CXT) (P : Program) (w : World) (K : PySem.W.Frag) (mg : Str → Option Value) (base : Heap) (N : List Str) (qual : Str) (scope : Scope) (f : Addr) (cd : Value) (A : Around) (outer : List Env) (s : Shared) (H : Hp) (E : XK) : Cx where
  prog := P
  w := w
  K := K
  mg := mg
  base := base
  A := A.deeper (envOfC qual scope s.heap.objs.size f cd)
  N := N
  s₀ := s
  H₀ := H
  env := envOfC qual scope s.heap.objs.size f cd
  outer := outer
  stack := envOfC qual scope s.heap.objs.size f cd :: outer
  ex := []
  calm := true
  fn := fun _ => true
  pn := []
  xe := fun e s' => wpAny (model P w) (A.deeper (envOfC qual scope s.heap.objs.size f cd)) (leaving (envOfC qual scope s.heap.objs.size f cd) e) (fun _ s'' => CX outer H s E e s'') (fun e' s'' => CX outer H s E e' s'') s'
theorem cell_has {sc : Scope} {n : Nat} {x : Str} (h : sc.names.lookup x = some .cell) : ∃ c, (cellsFrom n sc.names []).lookup x = some c := by
  have q := PySem.W.cellsFrom_some sc.names n [] (.inl h)
  exact Option.isSome_iff_exists.mp q
theorem inv_start {CX : CXT} {P : Program} {w : World} {K : PySem.W.Frag} {mg : Str → Option Value} {base : Heap} {N ps : List Str} {qual : Str} {scope : Scope} {f : Addr} {cd : Value} {A : Around} {outer : List Env} {s s1 : Shared} {H : Hp} {E : XK} {us : List Value} {vs : List V}
    (S : FnScope N ps scope) (hd : A.handled = none) (e0 : Env0 P w K mg base A outer s H) (hl : vs.length = ps.length) (r : Vals vs us)
    (x : InCallC s s.heap.objs.size (bindL (envOfC qual scope s.heap.objs.size f cd).kindOf (ps.zip us) fun _ => none) (cellsFrom (s.heap.objs.size + 1) scope.names []) (bindC (envOfC qual scope s.heap.objs.size f cd).kindOf (ps.zip us) fun _ => none) s1) :
    Inv (cxOf CX P w K mg base N qual scope f cd A outer s H E) [] (start N vs) H s1 := by
  have hpl : ps.length ≤ N.length := by have := congrArg List.length S.pre; rw [List.length_take] at this; omega
  obtain ⟨h1, tk, rfl, hk⟩ := x.done
  have noA : ∀ b : Addr, b ∉ (cxOf CX P w K mg base N qual scope f cd A outer s H E).ex := fun b z => absurd (show b ∈ ([] : List Addr) from z) (by simp)
  refine ⟨⟨e0.mod, S.kind, rfl, rfl, Nat.le_refl _, fun y z c h1 h2 => ?_, fun y hy => ?_, fun y c _ h => ?_, fun _ => hd, Around.frames_deeper e0.frames, .inr ⟨rfl, rfl⟩, fun b z => absurd z (noA b), e0.bs, e0.bsz, fun b _ _ => noA b, fun b z => absurd z (noA b), e0.funs, e0.frf⟩,
    rfl, e0.bare, Un.kept hk, ⟨_, x.toInCall.ns, fun i y v h1 h2 h3 => ?_⟩, fun y c h => ⟨_, x.cell y c h⟩, e0.hok.fresh (Nat.le_refl _), fun y c h => ?_, fun p hp => absurd (show p ∈ ([] : List (Addr × Obj)) from hp) (by simp), e0.hok.kept hk, ?_⟩
  · exact name_of_addr x.apart (PySem.mem_of_lookup h1) (PySem.mem_of_lookup h2)
  · have hy : scope.names.lookup y = some .cell ∨ scope.names.lookup y = some .free := hy
    rcases hy with hy | hy
    · exact cell_has hy
    · exact absurd rfl (S.nofree _ (PySem.mem_of_lookup hy))
  · exact Nat.le_of_lt (x.above y c (PySem.mem_of_lookup h))
  · have hi : i < vs.length := by
      unfold start at h2
      by_cases hi : i < vs.length
      · exact hi
      · rw [List.getElem?_append_right (by simpa using hi)] at h2
        rw [List.getElem?_replicate] at h2
        split at h2 <;> cases h2
    have ha : vs[i]? = some v := by
      unfold start at h2
      rw [List.getElem?_append_left (by simpa using hi), List.getElem?_map] at h2
      cases e : vs[i]? with
      | none => rw [e] at h2; cases h2
      | some a => rw [e] at h2; cases h2; rfl
    obtain ⟨u, hu, rv⟩ := r.get ha
    have hp : ps[i]? = some y := by
      rw [← S.pre, List.getElem?_take_of_lt (by omega)]; exact h1
    have ndP : ps.Nodup := by rw [← S.pre]; exact S.nd.sublist (List.take_sublist _ _)
    refine ⟨u, rv, ?_⟩
    rcases S.par y (List.mem_of_getElem? hp) with k | k
    · exact .inl ⟨k, bindL_get ndP hp hu k⟩
    · obtain ⟨c, e⟩ := cell_has (n := s.heap.objs.size + 1) k
      refine .inr ⟨.inl k, c, e, ?_⟩
      have q := x.cell y c e
      rw [bindC_get ndP hp hu (by show scope.names.lookup y ≠ _; rw [k]; decide)] at q
      exact q
  · exact e0.hok.fresh (Nat.le_of_lt (x.above y c (PySem.mem_of_lookup h)))
  · unfold start
    show _ = N.length
    rw [List.length_append, List.length_map, List.length_replicate]
    omega
/-- THE RULE: a def (or a method) of the text, by its body. The body's reading t is chosen for each entry; it is run at the parameters' values -/
theorem fn_of {CX : CXT} {P : Program} {w : World} {K : PySem.W.Frag} {mg : Str → Option Value} {base : Heap} {k : Nat} {f : Addr} {name qual : Str} {params : Arguments} {body : List Stmt} {scope : Scope} {dV kV doc pm cdv ct oc : Value} {an od : Option Addr}
    {osl : Array (Option Value)} {N ps : List Str} {sp : Sp} (lk : K.lookup f = some ⟨oc, od, .func (PySem.W.fnOf name qual params body scope dV kV doc pm an cdv ct), osl⟩) (hcd : PySem.W.codeIn K cdv qual = true) (S : FnScope N ps scope)
    (len : ∀ vs H Q E, sp vs H Q E → vs.length = ps.length)
    (hbody : ∀ (A : Around) (outer : List Env) (s : Shared) (H : Hp) (vs : List V) (Q : VK) (E : XK), Room k (A.deeper (envOfC qual scope s.heap.objs.size f cdv)) → sp vs H Q E →
      ∃ t, PSs (cxOf CX P w K mg base N qual scope f cdv A outer s H E) body t ∧ t { nx := fun _ H' => Q .non H', rt := Q } (start N vs) H) :
    FnOk P w K mg base CX (k + 1) f (PySem.W.fnOf name qual params body scope dV kV doc pm an cdv ct) ps sp := by
  refine ⟨len, fun A outer s H args us vs Q E hr e0 hb r hsp => ?_⟩
  have hl := len _ _ _ _ hsp
  have KX : K.In s.heap := e0.mod.kin.keeps fun b o e => (e0.bs b o e).1
  have lim : s.heap.NoLimit := e0.mod.nolimit.keeps fun b o e => (e0.bs b o e).1
  have hkind : ∀ y ∈ ps.zip us, scope.names.lookup y.1 = some .local ∨ (scope.names.lookup y.1 = some .cell ∧ ((cellsFrom (s.heap.objs.size + 1) scope.names []).lookup y.1).isSome = true) := fun ⟨n, v⟩ hy => by
    rcases S.par n (List.of_mem_zip hy).1 with q | q
    · exact .inl q
    · exact .inr ⟨q, PySem.W.cellsFrom_some _ _ _ (.inl q)⟩
  refine codeAny_call_function hr.depth (KX _ _ lk) rfl S.co S.gen rfl (PySem.W.codeRec_of KX hcd) (hb _ _ _ _ ?_)
  refine wpAny_newFunctionEnv_cells S.kind hkind fun env he s1 x => ?_
  subst he
  refine ⟨lim.keeps x.toInCall.keep, codeAny_func ?_⟩
  obtain ⟨t, ht, hq⟩ := hbody A outer s H vs Q E (hr.deeper _) hsp
  have I : Inv (cxOf CX P w K mg base N qual scope f cdv A outer s H E) [] (start N vs) H s1 := inv_start S hr.hd e0 hl r x
  refine wpAny_mono (ht [] s1 (start N vs) H _ I hq) (fun fl s' hs => ?_) fun e s' hs => hs
  have fin : ∀ {σ' : St} {H' : Hp} {v : V} {u : Value}, Inv (cxOf CX P w K mg base N qual scope f cdv A outer s H E) [] σ' H' s' → RelV v u → Q v H' → CE outer P w H s Q u s' :=
    fun {σ' H' v u} J rv q => ⟨v, H', J.os, J.bare, J.base, J.hok, rv, q⟩
  cases fl with
  | ret u =>
    obtain ⟨v, σ', H', J, rv, q⟩ := hs
    exact fin J rv q
  | next =>
    obtain ⟨σ', H', J, q⟩ := hs
    exact fin (v := V.non) (u := Value.none) J rfl q
  | brk =>
    obtain ⟨_, _, _, q⟩ := hs
    exact False.elim q
  | cont =>
    obtain ⟨_, _, _, q⟩ := hs
    exact False.elim q
end L2
namespace L2
open PySem PySem.Spec PyProof.Rows
section
variable {X : Cx} {x : Str} {p pos : Pos} {e : Expr} {es : List Expr} {t : TA} {id T : String} {r : List V → Hp → VK → Prop}
def tCB (r : List V → Hp → VK → Prop) (t : TA) : TE := fun σ H Q => t σ H fun vs H1 => r vs H1 Q
/-- f(e, ..), f a built-in function -/
theorem pe_callB (hc : CallR X (.builtin id) r) (hg : Gl X x) (hm : X.mg x = none) (hv : bootBuiltins x = some (.builtin id)) (ha : PA X (e :: es) t) (hn : x ≠ "__name__" := by decide) (hdb : (x == ("__debug__" : Str)) = false := by decide)
    (he : starEach (e :: es) X.env = (false, eval e X.env) :: starEach es X.env := by rfl) (hpl : (backTo pos (starEach es X.env)).any (·.1) = false := by rfl) : PE X (.Call (.Name x p) (e :: es) [] pos) (tCB r t) := by
  intro pins s σ H Q I h
  refine wpAny_Call_Name_kw (ld_blt I hg hm hv ?_ hn hdb)
  exact PyProof.Rows.callWith_builtin1 (thn (ha pos pins s σ H _ I h) fun us s1 ⟨vs, H1, I1, r1, q1⟩ => hc pins s1 σ H1 vs us Q I1 r1 q1) he hpl
/-- T(e, ..), T a built-in type -/
theorem pe_callTy (hc : CallR X (.type T) r) (hg : Gl X x) (hm : X.mg x = none) (hv : bootBuiltins x = some (.type T)) (ha : PA X (e :: es) t) (hn : x ≠ "__name__" := by decide) (hdb : (x == ("__debug__" : Str)) = false := by decide)
    (he : starEach (e :: es) X.env = (false, eval e X.env) :: starEach es X.env := by rfl) (hpl : (backTo pos (starEach es X.env)).any (·.1) = false := by rfl) : PE X (.Call (.Name x p) (e :: es) [] pos) (tCB r t) := by
  intro pins s σ H Q I h
  refine wpAny_Call_Name_kw (ld_blt I hg hm hv ?_ hn hdb)
  exact PyProof.Rows.callWith_type1 (thn (ha pos pins s σ H _ I h) fun us s1 ⟨vs, H1, I1, r1, q1⟩ => hc pins s1 σ H1 vs us Q I1 r1 q1) he hpl
end
end L2
namespace HT
open PySem PyProof.Rows
section
open PySem.SeqAt
open PySem.AutoSeq1 (wpAny_loadPart')
open PySem.MeetsSeq PySem.MeetsSeq2 PySem.MeetsSeq3
end
section
variable {prog : Program} {w : World} {A : Around} {E : Value → Shared → Prop} {s : Shared}
/-- t + u, t not empty -/
theorem cat_tup {t b : Addr} {vs ws : List Value} {Q : Value → Shared → Prop} (ht : IsTup s.heap t vs.toArray) (hb : IsTup s.heap b ws.toArray) (hv : vs ≠ [])
    (h1 : ws = [] → Q (.ref t) s) (h2 : ws ≠ [] → Q (.ref s.heap.objs.size) { s with heap := s.heap.push { cls := .type "tuple", data := .seq (vs ++ ws).toArray } })
    (hsz : vs.length + ws.length ≤ sizeLine) : wpAny (model prog w) A (binaryOp .Add (.ref t) (.ref b)) Q E s := by
  obtain ⟨⟨cls, dd, data, sl⟩, ho, hc, n, hd⟩ := id ht
  obtain ⟨⟨cls2, dd2, data2, sl2⟩, ho2, hc2, n2, hd2⟩ := id hb
  simp only at hc hd hc2 hd2
  subst hc hd hc2 hd2
  have e : vs.toArray ++ ws.toArray = (vs ++ ws).toArray := by simp
  by_cases hw : ws = []
  · exact concat_meets ⟨_, ho, rfl⟩ ⟨_, ho2, rfl⟩ noFill_tuple_add seq_tuple_add PySem.F.slot_tuple_add PySem.F.entry_tuple_add (PySem.F.args_tuple_add_2 _ _)
      (tuple_addW1 t b vs.toArray ws.toArray n n2 dd dd2 sl sl2 (by simpa using hv) (by simp [hw])) ⟨ho, ho2, h1 hw⟩
  · refine concat_meets ⟨_, ho, rfl⟩ ⟨_, ho2, rfl⟩ noFill_tuple_add seq_tuple_add PySem.F.slot_tuple_add PySem.F.entry_tuple_add (PySem.F.args_tuple_add_2 _ _)
      (tuple_addW2 t b vs.toArray ws.toArray n n2 dd dd2 sl sl2 (by simpa using hv) (by simpa using hw) (by rw [List.size_toArray, List.size_toArray]; exact hsz)) ⟨ho, ho2, ?_⟩
    rw [e]
    exact h2 hw
/-! ### t[a:b], not the whole -/
/-- a slice's bound as a place among n (d where it is left out) -/
def sIx (n d : Nat) : Option Int → Nat
  | none => d
  | some v => if v < 0 then (v + (n : Int)).toNat else min v.toNat n
theorem sIx_none (n d : Nat) : sIx n d none = d := rfl
theorem sIx_nat (n d k : Nat) : sIx n d (some (k : Int)) = min k n := by
  show (if (k : Int) < 0 then ((k : Int) + (n : Int)).toNat else min (k : Int).toNat n) = min k n
  rw [if_neg (by omega), Int.toNat_natCast]
theorem sIx_le (n d : Nat) (hd : d ≤ n) (o : Option Int) : sIx n d o ≤ n := by
  cases o with
  | none => exact hd
  | some v =>
    show (if v < 0 then (v + (n : Int)).toNat else min v.toNat n) ≤ n
    by_cases hv : v < 0
    · rw [if_pos hv]; omega
    · rw [if_neg hv]; exact Nat.min_le_right _ _
theorem clip_eq (v : Int) (n d : Nat) : (if v < 0 then max (v + (n : Int)) 0 else min v (n : Int)) = ((sIx n d (some v) : Nat) : Int) := by
  show (if v < 0 then max (v + (n : Int)) 0 else min v (n : Int)) = (((if v < 0 then (v + (n : Int)).toNat else min v.toNat n) : Nat) : Int)
  by_cases hv : v < 0
  · simp only [if_pos hv]; omega
  · simp only [if_neg hv]; omega
theorem adjust_gen (lo hi : Option Int) (n : Nat) : Builtin.Slice.sliceAdjust lo hi 1 (n : Int) = (((sIx n 0 lo : Nat) : Int), ((sIx n n hi : Nat) : Int)) := by
  have h1 : ¬ ((1 : Int) < 0) := by omega
  unfold Builtin.Slice.sliceAdjust
  simp only [h1, if_false]
  refine Prod.ext ?_ ?_
  · cases lo with
    | none => rfl
    | some v => exact clip_eq v n 0
  · cases hi with
    | none => rfl
    | some v => exact clip_eq v n n
theorem places_gen (i j : Nat) : Builtin.Slice.slicePlaces (i : Int) (j : Int) 1 = j - i := by
  unfold Builtin.Slice.slicePlaces
  have h1 : (1 : Int) > 0 := by omega
  simp only [h1, if_true, Int.ediv_one]
  split <;> omega
theorem slicePart_ {v : Value} {o : Option Int} {Q : Option Int → Shared → Prop} (p : IsPart v o) (h : Q o s) : wpAny (model prog w) A (Builtin.Slice.slicePartIndex v) Q E s := by
  cases p with
  | none => exact slicePart_none h
  | int i t => exact slicePart_int h
theorem sliceApplied_gen {sl : Addr} {vl vu : Value} {lo hi : Option Int} {n : Nat} {Q : Int × Int × Nat → Shared → Prop} (hs : s.heap.IsSliceOf sl vl vu .none) (pl : IsPart vl lo) (pu : IsPart vu hi)
    (h : Q (((sIx n 0 lo : Nat) : Int), 1, sIx n n hi - sIx n 0 lo) s) : wpAny (model prog w) A (Builtin.Slice.sliceApplied (.ref sl) (pure (n : Int))) Q E s := by
  obtain ⟨os, hos, hcs, hds⟩ := id hs
  unfold Builtin.Slice.sliceApplied Builtin.Slice.sliceFields
  refine wpAny_bind (wpAny_bind (wpAny_field hos hds (x := vl) rfl (wpAny_bind (wpAny_field hos hds (x := vu) rfl (wpAny_bind (wpAny_field hos hds (x := .none) rfl (wpAny_pure ?_)))))))
  refine wpAny_bind (slicePart_none ?_)
  show wpAny _ _ (if ((1 : Int) == 0) = true then _ else _) _ _ s
  rw [if_neg (by decide)]
  refine wpAny_bind (slicePart_ pl (wpAny_bind (slicePart_ pu (wpAny_bind (wpAny_pure ?_)))))
  show wpAny _ _ (match Builtin.Slice.sliceAdjust lo hi 1 (n : Int) with | (lo, hi) => pure (lo, (1 : Int), Builtin.Slice.slicePlaces lo hi 1)) _ _ s
  rw [adjust_gen lo hi n]
  show wpAny _ _ (pure (((sIx n 0 lo : Nat) : Int), (1 : Int), Builtin.Slice.slicePlaces ((sIx n 0 lo : Nat) : Int) ((sIx n n hi : Nat) : Int) 1)) _ _ s
  rw [places_gen]
  exact wpAny_pure h
theorem pick_gen (xs : Array Value) (i k : Nat) : ((List.range k).filterMap fun (m : Nat) => xs[((i : Int) + (m : Int) * 1).toNat]?).toArray = ((xs.toList.drop i).take k).toArray := by
  have e : (fun (m : Nat) => xs[((i : Int) + (m : Int) * 1).toNat]?) = fun m => xs[i + m]? := by
    funext m
    have : ((i : Int) + (m : Int) * 1).toNat = i + m := by omega
    rw [this]
  rw [e]
  have := pick_run xs i k
  rw [List.filterMap_map] at this
  have e2 : ((fun x => xs[x]?) ∘ fun x => i + x) = fun m => xs[i + m]? := rfl
  rw [e2] at this
  rw [this]
theorem getItem_tuple_cut {t sl : Addr} {items : Array Value} {vl vu : Value} {lo hi : Option Int} {Q : Value → Shared → Prop} (ht : IsTup s.heap t items) (hs : s.heap.IsSliceOf sl vl vu .none) (pl : IsPart vl lo) (pu : IsPart vu hi)
    (hw : ¬ (sIx items.size 0 lo = 0 ∧ sIx items.size items.size hi = items.size))
    (h : Q (.ref s.heap.objs.size) { s with heap := s.heap.push { cls := .type "tuple", data := .seq ((items.toList.drop (sIx items.size 0 lo)).take (sIx items.size items.size hi - sIx items.size 0 lo)).toArray } })
    (hsz : items.size ≤ sizeLine) : wpAny (model prog w) A (getItem (.ref t) (.ref sl)) Q E s := by
  have htake : sizeOk (.seq ((items.toList.drop (sIx items.size 0 lo)).take (sIx items.size items.size hi - sIx items.size 0 lo)).toArray) := by
    show ((items.toList.drop (sIx items.size 0 lo)).take (sIx items.size items.size hi - sIx items.size 0 lo)).toArray.size ≤ sizeLine
    rw [List.size_toArray, List.length_take, List.length_drop, Array.length_toList]
    omega
  have hj : sIx items.size items.size hi ≤ items.size := sIx_le _ _ (Nat.le_refl _) hi
  obtain ⟨os, hos, hcs, hds⟩ := id hs
  have hTs : s.TypeIs (.ref sl) "slice" := ⟨os, hos, hcs⟩
  unfold getItem
  try with_reducible refine wpAny_holding ?_
  first | refine wpAny_bind (wpAny_pure ?_) | skip
  refine wpAny_bind (wpAny_sequenceKey ht.typeIs (by decide) ?_)
  refine wpAny_bind (wpAny_callSpecial?_slot (name := Str.ofString "__getitem__") ht.typeIs PyProof.Rows.slot_tuple_getitem
    (wpAny_call_entry PyProof.Rows.slot_tuple_getitem ht.typeIs entry_tuple_getitem ?_ (args_tuple_getitem _ _)))
  show wpAny _ _ (Builtin.Tuple.tupleItemsOf (.ref t) >>= _) _ _ s
  refine wpAny_bind (tupleItemsOf_ ht ?_)
  refine wpAny_bind (wpAny_typeOf hTs ?_)
  rw [if_pos (by decide)]
  refine wpAny_bind (sliceApplied_gen hs pl pu ?_)
  have hno : ¬ ((((sIx items.size 0 lo : Nat) : Int) == 0 && (1 : Int) == 1 && (sIx items.size items.size hi - sIx items.size 0 lo) == items.size) = true) := by
    intro q
    rw [Bool.and_eq_true, Bool.and_eq_true] at q
    have q1 : ((sIx items.size 0 lo : Nat) : Int) = 0 := eq_of_beq q.1.1
    have q2 : sIx items.size items.size hi - sIx items.size 0 lo = items.size := eq_of_beq q.2
    exact hw ⟨by omega, by omega⟩
  show wpAny _ _ (if (((sIx items.size 0 lo : Nat) : Int) == 0 && (1 : Int) == 1 && (sIx items.size items.size hi - sIx items.size 0 lo) == items.size) = true then _ else _) _ _ s
  rw [if_neg hno, pick_gen]
  first
    | exact wpAny_bind (m := Builtin.Tuple.tupleExact _) (wpAny_newObj_type (wpAny_pure ⟨_, rfl, wpAny_pure h⟩) htake)
    | exact wpAny_bind (m := Builtin.Tuple.tupleExact _) (wpAny_newObj_type (wpAny_bind (wpAny_pure (wpAny_pure ⟨_, rfl, wpAny_pure h⟩))) htake)
    | exact wpAny_bind (wpAny_bind (m := Builtin.Tuple.tupleExact _) (wpAny_newObj_type (wpAny_pure (wpAny_pure ⟨_, rfl, wpAny_pure h⟩)) htake))
    | exact wpAny_bind (wpAny_bind (m := Builtin.Tuple.tupleExact _) (wpAny_newObj_type (wpAny_pure ⟨_, rfl, wpAny_pure h⟩) htake))
end
end HT
namespace L2
open PySem PySem.Spec PyProof.Rows
/-! ### the parts of a slice -/
abbrev TO := St → Hp → (Option Int → Hp → Prop) → Prop
/-- a slice's part (left out, or an int) -/
def PO (X : Cx) (e : Option Expr) (t : TO) : Prop :=
  ∀ (pins : List (Addr × Obj)) (s : Shared) (σ : St) (H : Hp) (Q : Option Int → Hp → Prop), Inv X pins σ H s → t σ H Q →
    wpAny (model X.prog X.w) X.A (evalPart e X.env) (fun u s' => ∃ o H', Inv X pins σ H' s' ∧ IsPart u o ∧ Q o H') X.xe s
def tNoPart : TO := fun _ H Q => Q none H
def tPart (t : TE) : TO := fun σ H Q => t σ H fun x H1 => ∃ i, x = .int i ∧ Q (some i) H1
section
variable {X : Cx} {e : Expr} {te : TE} {lo hi : Option Expr} {tl th : TO} {pos p2 : Pos}
theorem po_none : PO X none tNoPart := by
  intro pins s σ H Q I h
  rw [evalPart_none]
  exact wpAny_pure ⟨none, H, I, .none, h⟩
theorem po_some (h : PE X e te) : PO X (some e) (tPart te) := by
  intro pins s σ H Q I hw
  rw [evalPart_some]
  refine thn (h pins s σ H _ I hw) fun u s1 ⟨x, H1, I1, r1, q1⟩ => ?_
  obtain ⟨i, rfl, q⟩ := q1
  obtain ⟨t, rfl⟩ := r1
  exact ⟨some i, H1, I1, .int i t, q⟩
/-- what a slice of a value is, by values: the slice object stands at sl -/
def SlR (X : Cx) (r : V → Option Int → Option Int → Hp → VK → Prop) : Prop :=
  ∀ (pins : List (Addr × Obj)) (s : Shared) (σ : St) (H : Hp) (x : V) (v vl vu : Value) (lo hi : Option Int) (sl : Addr) (Q : VK), Inv X pins σ H s → RelV x v → s.heap.IsSliceOf sl vl vu .none → IsPart vl lo → IsPart vu hi → r x lo hi H Q →
    ∃ T id, typeLookup (.type T) "__getitem__" = pure (some (.builtin id)) ∧ s.TypeIs v T ∧ wpAny (model X.prog X.w) X.A (getItem v (.ref sl)) (EP X pins σ Q) X.xe s
theorem SlR.or {r r' : V → Option Int → Option Int → Hp → VK → Prop} (h : SlR X r) (h' : SlR X r') : SlR X (fun x lo hi H Q => r x lo hi H Q ∨ r' x lo hi H Q) := by
  intro pins s σ H x v vl vu lo hi sl Q I rx hs pl pu q
  rcases q with q | q
  · exact h pins s σ H x v vl vu lo hi sl Q I rx hs pl pu q
  · exact h' pins s σ H x v vl vu lo hi sl Q I rx hs pl pu q
def tSl (r : V → Option Int → Option Int → Hp → VK → Prop) (te : TE) (tl th : TO) : TE := fun σ H Q => te σ H fun x H1 => tl σ H1 fun l H2 => th σ H2 fun u H3 => r x l u H3 Q
/-- a[lo:hi], any a -/
theorem pe_slice {r : V → Option Int → Option Int → Hp → VK → Prop} (hr : SlR X r) (he : PE X e te) (hl : PO X lo tl) (hu : PO X hi th) : PE X (.Subscript e (.Slice lo hi none p2) pos) (tSl r te tl th) := by
  intro pins s σ H Q I h
  refine Subscript_ (thn (he pins s σ H _ I h) fun v s1 ⟨x, H1, I1, r1, q1⟩ => ?_)
  refine wpAny_Slice (thn (hl pins s1 σ H1 _ I1 q1) fun vl s2 ⟨l, H2, I2, pl, q2⟩ => thn (hu pins s2 σ H2 _ I2 q2) fun vu s3 ⟨u, H3, I3, pu, q3⟩ => ?_)
  rw [evalPart_none]
  refine wpAny_pure ?_
  have I4 : Inv X pins σ H3 { s3 with heap := s3.heap.push { cls := .type "slice", data := .fields #[vl, vu, .none] } } := I3.kept (t' := s3.toks) fun b ob q => Heap.get?_push_of_some _ q
  obtain ⟨T, id, hT, ht, hg⟩ := hr pins { s3 with heap := s3.heap.push { cls := .type "slice", data := .fields #[vl, vu, .none] } } σ H3 x v vl vu l u s3.heap.objs.size Q I4 r1 (Heap.IsSliceOf.new ..) pl pu q3
  show wpAny (model X.prog X.w) X.A (subscriptTail e (.Slice lo hi none p2) v (.ref s3.heap.objs.size)) (EP X pins σ Q) X.xe { s3 with heap := s3.heap.push { cls := .type "slice", data := .fields #[vl, vu, .none] } }
  exact tail_any (ops := [.ref s3.heap.objs.size, v]) ht hT hg (by with_unfolding_all rfl)
/-- the items of xs[lo:hi] -/
def cutV (xs : List V) (lo hi : Option Int) : List V := (xs.drop (HT.sIx xs.length 0 lo)).take (HT.sIx xs.length xs.length hi - HT.sIx xs.length 0 lo)
theorem cutV_length (xs : List V) (lo hi : Option Int) : (cutV xs lo hi).length ≤ xs.length := by
  unfold cutV
  rw [List.length_take, List.length_drop]
  omega
/-- t[lo:hi], not the whole of it (the whole would be t itself) -/
def rSlT (K : PySem.W.Frag) : V → Option Int → Option Int → Hp → VK → Prop := fun x lo hi H Q => ∃ a xs, x = .ref a ∧ SqT K H a xs ∧
  ¬ (HT.sIx xs.length 0 lo = 0 ∧ HT.sIx xs.length xs.length hi = xs.length) ∧ ∀ p, H p = none → Q (.ref p) (upd H p (.tup (cutV xs lo hi)))
theorem sl_tup : SlR X (rSlT X.K) := by
  intro pins s σ H x v vl vu lo hi sl Q I rx hs pl pu h
  obtain ⟨a, xs, rfl, hx, hw, q⟩ := h
  cases rx
  obtain ⟨its, r, ht, hz⟩ := I.tuple hx
  have hlen : its.toArray.size = xs.length := by rw [List.size_toArray]; exact r.length.symm
  refine ⟨"tuple", _, PyProof.Rows.slot_tuple_getitem.lookup, ht.typeIs, ?_⟩
  refine HT.getItem_tuple_cut ht hs pl pu (by rw [hlen]; exact hw) ?_ (by rw [hlen]; exact hz)
  rw [hlen]
  refine ⟨.ref s.heap.objs.size, _, I.laid (t' := s.toks) (o := .tup (cutV xs lo hi)) (fun b ob q => Heap.get?_push_of_some _ q) (Nat.le_refl _) ?_, rfl, q _ (I.hok.fresh (Nat.le_refl _))⟩
  exact ⟨Nat.le_trans (cutV_length xs lo hi) hz, _, (r.drop (HT.sIx xs.length 0 lo)).take (HT.sIx xs.length xs.length hi - HT.sIx xs.length 0 lo), IsTup.new _ _⟩
/-! ### t < u, t + u -/
/-- t + u, t not empty: u empty gives t itself -/
def rCatT (K : PySem.W.Frag) : R2 := fun x y H Q => ∃ a b xs ys, x = .ref a ∧ y = .ref b ∧ SqT K H a xs ∧ SqT K H b ys ∧ xs ≠ [] ∧ xs.length + ys.length ≤ sizeLine ∧
  (ys = [] → Q (.ref a) H) ∧ (ys ≠ [] → ∀ p, H p = none → Q (.ref p) (upd H p (.tup (xs ++ ys))))
theorem Vals.nil_iff {xs : List V} {us : List Value} (r : Vals xs us) : us = [] ↔ xs = [] := by
  cases r with
  | nil => simp
  | cons _ _ => simp
theorem op_catT : OpR X (binaryOp .Add) (rCatT X.K) := by
  intro pins s σ H x y v u Q I rx ry h
  obtain ⟨a, b, xs, ys, rfl, rfl, ha, hb, hx, hz, q1, q2⟩ := h
  cases rx
  cases ry
  obtain ⟨its, r1, p1, _⟩ := I.tuple ha
  obtain ⟨its2, r2, p2, _⟩ := I.tuple hb
  refine HT.cat_tup p1 p2 (fun z => hx (r1.nil_iff.mp z)) (fun z => ⟨.ref a, H, I, rfl, q1 (r2.nil_iff.mp z)⟩) (fun z => ?_) (by rw [← r1.length, ← r2.length]; exact hz)
  refine ⟨.ref s.heap.objs.size, _, I.laid (t' := s.toks) (o := .tup (xs ++ ys)) (fun b ob q => Heap.get?_push_of_some _ q) (Nat.le_refl _) ?_, rfl, q2 (fun w => z (r2.nil_iff.mpr w)) _ (I.hok.fresh (Nat.le_refl _))⟩
  exact ⟨by rw [List.length_append]; exact hz, _, r1.append r2, IsTup.new _ _⟩
end
end L2
namespace L2
open PySem PySem.Spec PyProof.Rows
/-! ### places -/
/-- the place that an index of any sign means -/
def ixN (n : Nat) (i : Int) : Option Nat := if 0 ≤ i then (if i < n then some i.toNat else none) else if -(n : Int) ≤ i then some (i + n).toNat else none
def atI {α : Type} (xs : List α) (i : Int) : Option α := (ixN xs.length i).bind fun j => xs[j]?
theorem ixN_seq {n : Nat} {i : Int} {j : Nat} (h : ixN n i = some j) : seqIndex? i n = some j ∧ j < n ∧ -(n : Int) ≤ i ∧ i < n := by
  unfold ixN at h
  by_cases h0 : 0 ≤ i
  · rw [if_pos h0] at h
    by_cases h1 : i < n
    · rw [if_pos h1] at h
      have e : i.toNat = j := Option.some.inj h
      exact ⟨by rw [seqIndex_of h0 h1, e], by omega, by omega, h1⟩
    · rw [if_neg h1] at h; cases h
  · rw [if_neg h0] at h
    by_cases h1 : -(n : Int) ≤ i
    · rw [if_pos h1] at h
      have e : (i + n).toNat = j := Option.some.inj h
      exact ⟨by rw [seqIndex_neg (by omega) h1, e], by omega, h1, by omega⟩
    · rw [if_neg h1] at h; cases h
theorem atI_get {α : Type} {xs : List α} {i : Int} {v : α} (h : atI xs i = some v) : ∃ j, seqIndex? i xs.length = some j ∧ xs[j]? = some v ∧ j < xs.length ∧ -(xs.length : Int) ≤ i ∧ i < xs.length := by
  unfold atI at h
  cases e : ixN xs.length i with
  | none => rw [e] at h; cases h
  | some j =>
    rw [e] at h
    obtain ⟨h1, h2, h3, h4⟩ := ixN_seq e
    exact ⟨j, h1, h, h2, h3, h4⟩
theorem atI_nat {α : Type} {xs : List α} {j : Nat} {v : α} (h : xs[j]? = some v) : atI xs (j : Int) = some v := by
  have hj : j < xs.length := (List.getElem?_eq_some_iff.mp h).1
  have e : ixN xs.length (j : Int) = some j := by
    unfold ixN
    rw [if_pos (by omega), if_pos (by omega)]; simp
  unfold atI; rw [e]; exact h
/-! ### what may be subscripted -/
/-- what stands as an index of a plain subscript -/
def PlainIx (b : Expr) : Prop := ∀ o i, subscripted b false o i = operate [o, i] (getItem o i)
/-- a subscript by values -/
def IxR (X : Cx) (r : R2) : Prop :=
  ∀ (value slice : Expr) (pins : List (Addr × Obj)) (s : Shared) (σ : St) (H : Hp) (x y : V) (v u : Value) (Q : VK), Inv X pins σ H s → RelV x v → RelV y u → r x y H Q →
    subscripted slice false v u = operate [v, u] (getItem v u) → wpAny (model X.prog X.w) X.A (subscriptTail value slice v u) (EP X pins σ Q) X.xe s
/-- a call of a builtin's method by values: the receiver, the arguments -/
def MtR (X : Cx) (id : String) (r : V → List V → Hp → VK → Prop) : Prop :=
  ∀ (pins : List (Addr × Obj)) (s : Shared) (σ : St) (H : Hp) (x : V) (xs : List V) (v : Value) (us : List Value) (Q : VK), Inv X pins σ H s → RelV x v → Vals xs us → r x xs H Q →
    wpAny (model X.prog X.w) X.A (call (.builtin id) (v :: us)) (EP X pins σ Q) X.xe s
section
variable {X : Cx} {a b : Expr} {ta tb : TE} {pos : Pos}
theorem IxR.or {r r' : R2} (h : IxR X r) (h' : IxR X r') : IxR X (fun x y H Q => r x y H Q ∨ r' x y H Q) := by
  intro value slice pins s σ H x y v u Q I rx ry q hs
  rcases q with q | q
  · exact h value slice pins s σ H x y v u Q I rx ry q hs
  · exact h' value slice pins s σ H x y v u Q I rx ry q hs
/-- a[b] -/
theorem pe_ix {r : R2} (hr : IxR X r) (ha : PE X a ta) (hb : PE X b tb) (hs : PlainIx b) : PE X (.Subscript a b pos) (tOp r ta tb) := by
  intro pins s σ H Q I h
  exact Subscript_ (binT ha hb I h fun v u s2 x y H2 I2 rx ry q => hr a b pins s2 σ H2 x y v u Q I2 rx ry q (hs _ _))
def rIxL (K : PySem.W.Frag) : R2 := fun x y H Q => ∃ p xs i v, x = .ref p ∧ y = .int i ∧ SqL K H p xs ∧ atI xs i = some v ∧ Q v H
def rIxT (K : PySem.W.Frag) : R2 := fun x y H Q => ∃ p xs i v, x = .ref p ∧ y = .int i ∧ SqT K H p xs ∧ atI xs i = some v ∧ Q v H
def rIxS : R2 := fun x y H Q => ∃ z i c, x = .str z ∧ y = .int i ∧ z.length ≤ sizeLine ∧ atI z.cps.toList i = some c ∧ Q (.str ⟨#[c]⟩) H
theorem ix_list : IxR X (rIxL X.K) := by
  intro value slice pins s σ H x y v u Q I rx ry h hs
  obtain ⟨p, xs, i, z, rfl, rfl, hq, he, q⟩ := h
  cases rx
  obtain ⟨t, rfl⟩ := ry
  obtain ⟨its, r, pl, hz⟩ := I.list hq
  obtain ⟨j, h1, h2, h3, h4, h5⟩ := atI_get he
  obtain ⟨w, ew, rw'⟩ := r.get h2
  have hl := r.length
  have hn := line63
  have fin : EP X pins σ Q w s := ⟨z, H, I, rw', q⟩
  by_cases h0 : 0 ≤ i
  · have hj : i.toNat = j := by
      rw [seqIndex_of h0 h5] at h1
      exact Option.some.inj h1
    exact item_listR pl.isList h0 (by omega) (by rw [hj]; simpa using ew) fin hs
  · have hj : (i + (its.toArray.size : Int)).toNat = j := by
      rw [seqIndex_neg (by omega) h4] at h1
      rw [List.size_toArray, ← hl]
      exact Option.some.inj h1
    exact subscriptTail_builtinR (x := w) pl.isList.typeIs slot_list_getitem.lookup
      (wpAny_getItem_list_neg (Q := fun r s' => r = w ∧ EP X pins σ Q r s') pl.isList (by omega) (by rw [List.size_toArray] <;> omega) (by omega) (by rw [hj]; simpa using ew) ⟨rfl, fin⟩) hs
theorem ix_tup : IxR X (rIxT X.K) := by
  intro value slice pins s σ H x y v u Q I rx ry h hs
  obtain ⟨p, xs, i, z, rfl, rfl, hq, he, q⟩ := h
  cases rx
  obtain ⟨t, rfl⟩ := ry
  obtain ⟨its, r, pl, hz⟩ := I.tuple hq
  obtain ⟨j, h1, h2, h3, h4, h5⟩ := atI_get he
  obtain ⟨w, ew, rw'⟩ := r.get h2
  have hl := r.length
  have hn := line63
  have fin : EP X pins σ Q w s := ⟨z, H, I, rw', q⟩
  exact subscriptTail_builtinR (x := w) pl.typeIs slot_tuple_getitem.lookup
    (getItem_tuple (j := j) (Q := fun r s' => r = w ∧ EP X pins σ Q r s') pl (by omega) (by omega) (by rw [List.size_toArray, ← hl]; exact h1) (by simpa using ew) ⟨rfl, fin⟩) hs
theorem ix_str : IxR X rIxS := by
  intro value slice pins s σ H x y v u Q I rx ry h hs
  obtain ⟨z, i, c, rfl, rfl, hz, he, q⟩ := h
  obtain ⟨t, rfl⟩ := rx
  obtain ⟨t', rfl⟩ := ry
  obtain ⟨j, h1, h2, h3, h4, h5⟩ := atI_get he
  have hl : z.cps.toList.length = z.length := by simp [Str.length]
  rw [hl] at h1 h4 h5
  have hn := line63
  exact tail_any (typeIs_str s z t) slot_str_getitem.lookup (getItem_str (c := c) (by
    have e1 : decide (i < -(2 ^ 63 : Int)) = false := decide_eq_false (by omega)
    have e2 : decide (i ≥ 2 ^ 63) = false := decide_eq_false (by omega)
    rw [e1, e2, Bool.or_false]) (by rw [h1]; simpa using h2) ⟨.str ⟨#[c]⟩, H, I.tok _, ⟨_, rfl⟩, q⟩) hs
/-- list, tuple or str -/
def rIx (K : PySem.W.Frag) : R2 := fun x y H Q => rIxL K x y H Q ∨ rIxT K x y H Q ∨ rIxS x y H Q
theorem ix_seq : IxR X (rIx X.K) := ix_list.or (ix_tup.or ix_str)
/-! ### xs[i] = v, any sign -/
/-! ### slices -/
theorem slice_bounds (lo hi : Option Int) (n : Nat) : (sliceBounds lo hi none n).1 = ((HT.sIx n 0 lo : Nat) : Int) ∧ (sliceBounds lo hi none n).2.1 = ((HT.sIx n n hi : Nat) : Int) ∧ (sliceBounds lo hi none n).2.2 = 1 := by
  refine ⟨?_, ?_, rfl⟩
  · cases lo with
    | none => simp [sliceBounds, HT.sIx]
    | some i =>
      simp only [sliceBounds, HT.sIx, Option.getD_none, show (1 : Int) > 0 by decide, if_true]
      by_cases h : i < 0
      · simp only [h, if_true] <;> omega
      · simp only [h, if_false] <;> omega
  · cases hi with
    | none => simp [sliceBounds, HT.sIx]
    | some i =>
      simp only [sliceBounds, HT.sIx, Option.getD_none, show (1 : Int) > 0 by decide, if_true]
      by_cases h : i < 0
      · simp only [h, if_true] <;> omega
      · simp only [h, if_false] <;> omega
theorem slicePick_cut (its : List Value) (lo hi : Option Int) : slicePick its.toArray lo hi none = ((its.drop (HT.sIx its.length 0 lo)).take (HT.sIx its.length its.length hi - HT.sIx its.length 0 lo)).toArray := by
  obtain ⟨h1, h2, h3⟩ := slice_bounds lo hi its.toArray.size
  unfold slicePick
  rw [h1, h2, h3]
  simp only [sliceRange_one, pick_run, List.size_toArray] <;> rfl
/-- xs[lo:hi] of a list: a new list -/
def rSlL (K : PySem.W.Frag) : V → Option Int → Option Int → Hp → VK → Prop := fun x lo hi H Q => ∃ a xs, x = .ref a ∧ SqL K H a xs ∧ ∀ p, H p = none → Q (.ref p) (upd H p (.lst (cutV xs lo hi)))
theorem sl_list : SlR X (rSlL X.K) := by
  intro pins s σ H x v vl vu lo hi sl Q I rx hs pl pu h
  obtain ⟨a, xs, rfl, hx, q⟩ := h
  cases rx
  obtain ⟨its, r, ht, hz⟩ := I.list hx
  have hlen := r.length
  refine ⟨"list", _, slot_list_getitem.lookup, ht.isList.typeIs, ?_⟩
  refine wpAny_getItem_list_slice ht.isList hs pl pu .none (by simp) ?_ (by rw [List.size_toArray] <;> omega)
  rw [slicePick_cut, ← hlen]
  refine ⟨.ref s.heap.objs.size, _, I.laid (t' := s.toks) (o := .lst (cutV xs lo hi)) (fun b ob q => Heap.get?_push_of_some _ q) (Nat.le_refl _) ?_, rfl, q _ (I.hok.fresh (Nat.le_refl _))⟩
  exact ⟨Nat.le_trans (cutV_length xs lo hi) hz, _, 0, (r.drop (HT.sIx xs.length 0 lo)).take (HT.sIx xs.length xs.length hi - HT.sIx xs.length 0 lo), Heap.get?_push_size _ rfl⟩
/-! ### in, not in: flat items -/
def flatV : V → Bool
  | .non => true
  | .bl _ => true
  | .int _ => true
  | .str _ => true
  | _ => false
/-- == of flat values -/
def eqV : V → V → Bool
  | .non, .non => true
  | .bl a, .bl b => a == b
  | .bl a, .int b => (if a then 1 else 0) == b
  | .int a, .bl b => a == (if b then 1 else 0)
  | .int a, .int b => a == b
  | .str a, .str b => a == b
  | _, _ => false
theorem eqAt_V {A : Around} {s : Shared} {y x : V} {u v : Value} (ry : RelV y u) (rx : RelV x v) (fy : flatV y = true) (fx : flatV x = true) : SeqAt.EqAt A s u v (eqV y x) := by
  cases y with
  | non =>
    cases ry
    cases x with
    | non => cases rx; exact SeqAt.EqAt.same _
    | bl b => cases rx; exact SeqAt.EqAt.none_bool b
    | int b => obtain ⟨t, rfl⟩ := rx; exact SeqAt.EqAt.none_int b t
    | str b => obtain ⟨t, rfl⟩ := rx; exact SeqAt.EqAt.none_str b t
    | _ => exact absurd (show false = true from fx) Bool.false_ne_true
  | bl a =>
    cases ry
    cases x with
    | non => cases rx; exact SeqAt.EqAt.bool_none a
    | bl b => cases rx; exact SeqAt.EqAt.bool_bool a b
    | int b => obtain ⟨t, rfl⟩ := rx; exact SeqAt.EqAt.bool_int a b t
    | str b => obtain ⟨t, rfl⟩ := rx; exact SeqAt.EqAt.bool_str a b t
    | _ => exact absurd (show false = true from fx) Bool.false_ne_true
  | int a =>
    obtain ⟨t', rfl⟩ := ry
    cases x with
    | non => cases rx; exact SeqAt.EqAt.int_none a t'
    | bl b => cases rx; exact SeqAt.EqAt.int_bool a t' b
    | int b => obtain ⟨t, rfl⟩ := rx; exact SeqAt.EqAt.int_int a t' b t
    | str b => obtain ⟨t, rfl⟩ := rx; exact SeqAt.EqAt.int_str a t' b t
    | _ => exact absurd (show false = true from fx) Bool.false_ne_true
  | str a =>
    obtain ⟨t', rfl⟩ := ry
    cases x with
    | non => cases rx; exact SeqAt.EqAt.str_none a t'
    | bl b => cases rx; exact SeqAt.EqAt.str_bool a t' b
    | int b => obtain ⟨t, rfl⟩ := rx; exact SeqAt.EqAt.str_int a t' b t
    | str b => obtain ⟨t, rfl⟩ := rx; exact SeqAt.EqAt.str_str a t' b t
    | _ => exact absurd (show false = true from fx) Bool.false_ne_true
  | _ => exact absurd (show false = true from fy) Bool.false_ne_true
/-- the items' answers, read off the values (a value's own answer does not lean on its token) -/
def eqU (x : V) (u : Value) : Bool := match u with
  | .none => eqV .non x
  | .bool b => eqV (.bl b) x
  | .int i _ => eqV (.int i) x
  | .str z _ => eqV (.str z) x
  | _ => false
theorem eqU_of {x y : V} {u : Value} (r : RelV y u) (f : flatV y = true) : eqU x u = eqV y x := by
  cases y with
  | non => cases r; rfl
  | bl b => cases r; rfl
  | int i => obtain ⟨t, rfl⟩ := r; rfl
  | str z => obtain ⟨t, rfl⟩ := r; rfl
  | _ => exact absurd (show false = true from f) Bool.false_ne_true
theorem any_eqU {x : V} : ∀ {xs : List V} {us : List Value}, Vals xs us → xs.all flatV = true → us.any (eqU x) = xs.any fun y => eqV y x
  | _, _, .nil, _ => rfl
  | y :: xs, u :: us, .cons r t, f => by
    rw [List.all_cons, Bool.and_eq_true] at f
    rw [List.any_cons, List.any_cons, eqU_of r f.1, any_eqU t f.2]
theorem mem_eqAt {A : Around} {s : Shared} {x : V} {v : Value} (rx : RelV x v) (fx : flatV x = true) : ∀ {xs : List V} {us : List Value}, Vals xs us → xs.all flatV = true → ∀ u ∈ us, SeqAt.EqAt A s u v (eqU x u)
  | _, _, .nil, _ => fun u hu => by cases hu
  | y :: xs, u :: us, .cons r t, f => fun u' hu => by
    rw [List.all_cons, Bool.and_eq_true] at f
    rcases List.mem_cons.mp hu with rfl | hu
    · rw [eqU_of r f.1]; exact eqAt_V r rx f.1 fx
    · exact mem_eqAt rx fx t f.2 u' hu
def inV (x : V) (xs : List V) : Bool := xs.any fun y => eqV y x
/-- x in a list or tuple of flat items -/
def rIn (K : PySem.W.Frag) (neg : Bool) : R2 := fun x y H Q => ∃ p xs, y = .ref p ∧ (SqL K H p xs ∨ SqT K H p xs) ∧ flatV x = true ∧ xs.all flatV = true ∧ Q (.bl (if neg then !inV x xs else inV x xs)) H
theorem op_in_seq : OpR X (compareOp .In) (rIn X.K false) := by
  intro pins s σ H x y v u Q I rx ry h
  obtain ⟨p, xs, rfl, hq, fx, fs, q⟩ := h
  cases ry
  rcases hq with hq | hq
  · obtain ⟨its, r, pl, hz⟩ := I.list hq
    refine SeqAt.in_listAt (eqU x) pl.isList (fun w hw => mem_eqAt rx fx r fs w (by simpa using hw)) ⟨.bl _, H, I, rfl, ?_⟩
    rw [show its.toArray.any (eqU x) = its.any (eqU x) by simp, any_eqU r fs]
    exact q
  · obtain ⟨its, r, pl, hz⟩ := I.tuple hq
    refine SeqAt.in_tupleAt (eqU x) pl (fun w hw => mem_eqAt rx fx r fs w (by simpa using hw)) ⟨.bl _, H, I, rfl, ?_⟩
    rw [show its.toArray.any (eqU x) = its.any (eqU x) by simp, any_eqU r fs]
    exact q
/-! ### len, list(x), tuple(x) of any list or tuple that is read -/
theorem call_len_seq : CallR X (.builtin "len") (fun xs H Q => ∃ p ys, xs = [.ref p] ∧ (SqL X.K H p ys ∨ SqT X.K H p ys) ∧ Q (.int ys.length) H) := by
  intro pins s σ H xs us Q I r h
  obtain ⟨p, ys, rfl, hq, q⟩ := h
  obtain ⟨u, rfl, rx⟩ := vals1 r
  cases rx
  have hn := line63
  rcases hq with hq | hq
  · obtain ⟨its, r', pl, hz⟩ := I.list hq
    have hlen := r'.length
    exact Calls.call_len_list pl.isList (by simp only [List.size_toArray] <;> omega) ⟨.int ys.length, H, I.tok _, ⟨s.toks + 1, by rw [List.size_toArray, hlen]⟩, q⟩
  · obtain ⟨its, r', pl, hz⟩ := I.tuple hq
    have hlen := r'.length
    exact len_tuple pl (by simp only [List.size_toArray] <;> omega) ⟨.int ys.length, H, I.tok _, ⟨s.toks + 1, by rw [List.size_toArray, hlen]⟩, q⟩
theorem call_tuple_of : CallR X (.type "tuple") (fun xs H Q => ∃ p ys, xs = [.ref p] ∧ ((SqL X.K H p ys ∧ ∀ l, H l = none → Q (.ref l) (upd H l (.tup ys))) ∨ (SqT X.K H p ys ∧ Q (.ref p) H))) := by
  intro pins s σ H xs us Q I r h
  obtain ⟨p, ys, rfl, h⟩ := h
  obtain ⟨u, rfl, rx⟩ := vals1 r
  cases rx
  rcases h with ⟨hq, q⟩ | ⟨hq, q⟩
  · obtain ⟨its, r', pl, hz⟩ := I.list hq
    have hlen := r'.length
    refine call_tuple_list pl.isList (fun h' kp => ?_) (by simp only [List.size_toArray] <;> omega)
    have I1 : Inv X pins σ H { s with heap := h' } := I.kept (t' := s.toks) kp
    have I2 : Inv X pins σ (upd H h'.objs.size (.tup ys)) { s with heap := h'.push { cls := .type "tuple", data := .seq its.toArray } } :=
      I1.laid (t' := s.toks) (fun b o e => Heap.get?_push_of_some _ e) (Nat.le_refl _) (show ObjOk X.prog X.w _ _ _ (.tup ys) from ⟨hz, its, r', IsTup.new _ _⟩)
    exact ⟨.ref h'.objs.size, _, I2, rfl, q _ (I1.hok.fresh (Nat.le_refl _))⟩
  · obtain ⟨its, r', pl, hz⟩ := I.tuple hq
    exact call_tuple_same pl ⟨.ref p, H, I, rfl, q⟩
/-! ### the call of a builtin's method: o.m(..) -/
/-- the value is of that builtin type -/
def tyV (K : PySem.W.Frag) (T : String) (x : V) (H : Hp) : Prop := match x with
  | .str _ => T = "str"
  | .int _ => T = "int"
  | .ref p => (T = "list" ∧ ∃ xs, SqL K H p xs) ∨ (T = "tuple" ∧ ∃ o, K.lookup p = some o ∧ o.cls = .type "tuple" ∧ o.dict = none) ∨
      (T = "dict" ∧ ((∃ kvs, H p = some (.dK kvs)) ∨ ∃ kvs, H p = some (.dT kvs))) ∨ (T = "set" ∧ ∃ S n, H p = some (.set S n))
  | _ => False
theorem tyV_is {pins : List (Addr × Obj)} {σ : St} {H : Hp} {s : Shared} {T : String} {x : V} {v : Value} (I : Inv X pins σ H s) (r : RelV x v) (ty : tyV X.K T x H) :
    s.TypeIs v T ∧ ∀ a, v = .ref a → ∃ ob, s.heap.get? a = some ob ∧ ob.dict = none := by
  cases x with
  | str z =>
    obtain ⟨t, rfl⟩ := r
    cases (show T = "str" from ty)
    exact ⟨typeIs_str s z t, fun _ e => nomatch e⟩
  | int i =>
    obtain ⟨t, rfl⟩ := r
    cases (show T = "int" from ty)
    exact ⟨typeIs_int s i t, fun _ e => nomatch e⟩
  | ref p =>
    cases r
    rcases ty with ⟨rfl, xs, hq⟩ | ⟨rfl, o, hk, hc, hd⟩ | ⟨rfl, hk⟩ | ⟨rfl, S, n, hk⟩
    · obtain ⟨its, _, pl, _⟩ := I.list hq
      refine ⟨pl.isList.typeIs, fun a e => ?_⟩
      cases e
      obtain ⟨o, n, e, c, hd, _⟩ := pl
      exact ⟨o, e, hd⟩
    · refine ⟨⟨o, I.kIn p o hk, hc⟩, fun a e => ?_⟩
      cases e
      exact ⟨o, I.kIn _ o hk, hd⟩
    · have z : ∃ o, s.heap.get? p = some o ∧ o.ExactDict := by
        rcases hk with ⟨kvs, hk⟩ | ⟨kvs, hk⟩
        · obtain ⟨_, _, _, _, o, _, _, e, ex, _⟩ := I.hok p _ hk
          exact ⟨o, e, ex⟩
        · obtain ⟨_, _, _, _, o, _, _, e, ex, _⟩ := I.hok p _ hk
          exact ⟨o, e, ex⟩
      obtain ⟨o, e, ex⟩ := z
      refine ⟨⟨o, e, ex.1⟩, fun a e2 => ?_⟩
      cases e2
      exact ⟨o, e, ex.2.1⟩
    · obtain ⟨o, _, _, _, e, ex, _⟩ := I.hok p _ hk
      refine ⟨⟨o, e, ex.1⟩, fun a e2 => ?_⟩
      cases e2
      exact ⟨o, e, ex.2.1⟩
  | _ => exact False.elim ty
def tBM0 (K : PySem.W.Frag) (T : String) (r : V → List V → Hp → VK → Prop) (to : TE) : TE := fun σ H Q => to σ H fun x H1 => tyV K T x H1 ∧ r x [] H1 Q
def tBM (K : PySem.W.Frag) (T : String) (r : V → List V → Hp → VK → Prop) (to : TE) (t : TA) : TE := fun σ H Q => to σ H fun x H1 => tyV K T x H1 ∧ t σ H1 fun xs H2 => r x xs H2 Q
variable {o e : Expr} {es : List Expr} {to : TE} {t : TA} {name : Str} {apos cpos : Pos} {T id : String} {r : V → List V → Hp → VK → Prop}
theorem pe_bm0 (pa : PlainAttrs T) (slot : Slot T name id) (hty : typeOf (.builtin id) = pure (.type "method_descriptor")) (hm : MtR X id r) (ho : PE X o to)
    (hbase : attributeBase o name X.env (eval o X.env) = eval o X.env := by rfl) (hline : (apos.endLine == cpos.line) = true := by rfl) : PE X (.Call (.Attribute o name apos) [] [] cpos) (tBM0 X.K T r to) := by
  intro pins s σ H Q I h
  refine wpAny_Call_method0_late hbase hline (thn (ho pins s σ H _ I h) fun v s1 ⟨x, H1, I1, r1, ty, q1⟩ => ?_)
  obtain ⟨h1, h2⟩ := tyV_is I1 r1 ty
  exact ⟨T, id, pa, slot, hty, h1, h2, Calls.callWith_builtin rfl (PySem.evalArgs_none (hm pins s1 σ H1 x [] v [] Q I1 r1 .nil q1))⟩
theorem pe_bm (pa : PlainAttrs T) (slot : Slot T name id) (hty : typeOf (.builtin id) = pure (.type "method_descriptor")) (hm : MtR X id r) (ho : PE X o to) (ha : PA X (e :: es) t)
    (hbase : attributeBase o name X.env (eval o X.env) = eval o X.env := by rfl)
    (hfew : ((backTo cpos (starEach (e :: es) X.env)).all (fun x => !x.1) && (backToKw cpos (keywordEach [] X.env)).all (fun x => x.1.isSome)
      && decide ((e :: es).length + ([] : List Keyword).length + (if ([] : List Keyword).isEmpty then 0 else 1) < 30)) = true := by rfl)
    (hline : (apos.endLine == cpos.line) = true := by rfl) (hs : starEach (e :: es) X.env = (false, eval e X.env) :: starEach es X.env := by rfl) (hplain : (backTo cpos (starEach es X.env)).any (·.1) = false := by rfl) :
    PE X (.Call (.Attribute o name apos) (e :: es) [] cpos) (tBM X.K T r to t) := by
  intro pins s σ H Q I h
  refine wpAny_Call_method_late hbase hfew hline rfl (thn (ho pins s σ H _ I h) fun v s1 ⟨x, H1, I1, r1, ty, q1⟩ => ?_)
  obtain ⟨h1, h2⟩ := tyV_is I1 r1 ty
  refine ⟨T, id, pa, slot, hty, h1, h2, ?_⟩
  have hA := ha cpos pins s1 σ H1 _ I1 q1
  rw [hs] at hA ⊢
  refine Calls.callWith_builtin (by show (false || (backTo cpos (starEach es X.env)).any (·.1)) = false; rw [hplain] <;> rfl) (Calls.evalArgs_plain ?_)
  exact thn hA fun us s2 ⟨vs, H2, I2, r2, q2⟩ => hm pins s2 σ H2 x vs v us Q I2 r1 r2 q2
/- xs.append(e), list.index on a module's tuple .. are MtR facts of 06m -/
end
end L2
namespace L2
open PySem PySem.Spec PyProof.Rows
def MtM (X : Cx) (id : String) (r : V → List V → Hp → VK → Prop) : Prop :=
  ∀ (pins : List (Addr × Obj)) (s : Shared) (σ : St) (H : Hp) (x : V) (xs : List V) (v : Value) (us : List Value) (Q : VK), Inv X pins σ H s → RelV x v → Vals xs us → r x xs H Q →
    wpAny (model X.prog X.w) X.A (call (.builtin id) (v :: us)) (EP X pins σ Q) X.xe s
/-! ### lists of values -/
theorem Vals.one : ∀ {x : V} {us : List Value}, Vals [x] us → ∃ u, us = [u] ∧ RelV x u
  | _, _, .cons r .nil => ⟨_, rfl, r⟩
section
variable {X : Cx} {pins : List (Addr × Obj)} {σ : St} {H : Hp} {s : Shared} {l b : Addr} {xs ys zs : List V}
/-! ### the two steps: a tracked list is rewritten, a new list is laid -/
theorem Inv.lset {its its' : List Value} {n : Nat} {f : Array Value → Array Value} {t' : Nat} (I : Inv X pins σ H s) (hH : H l = some (.lst xs))
    (e : s.heap.get? l = some { cls := .type "list", data := .seq its.toArray n }) (hf : f its.toArray = its'.toArray) (hv : Vals ys its') (hz : ys.length ≤ sizeLine) :
    Inv X pins σ (upd H l (.lst ys)) { s with heap := s.heap.update l (Obj.mapSeq f), toks := t' } := by
  have q := PySem.IsL.update e f
  rw [hf] at q
  refine I.write (x := l) (e := l) (by rw [hH]; exact trivial) (.inl rfl) (fun b' u hb hu => (Heap.get?_update_other s.heap (Obj.mapSeq f) (Ne.symm hb)).trans hu) ⟨_, q⟩ ?_
  exact ⟨hz, its', _, hv, q⟩
theorem Inv.lnew {its : List Value} {t' : Nat} (I : Inv X pins σ H s) (hv : Vals ys its) (hz : ys.length ≤ sizeLine) :
    Inv X pins σ (upd H s.heap.objs.size (.lst ys)) { s with heap := s.heap.push { cls := .type "list", data := .seq its.toArray }, toks := t' } :=
  I.laid (fun _ _ q => Heap.get?_push_of_some _ q) (Nat.le_refl _) ⟨hz, its, 0, hv, Heap.get?_push_size _ rfl⟩
theorem Inv.fresh (I : Inv X pins σ H s) : H s.heap.objs.size = none := I.hok.fresh (Nat.le_refl _)
theorem Inv.lstM (I : Inv X pins σ H s) (hH : H l = some (.lst xs)) : xs.length ≤ sizeLine ∧ ∃ (its : List Value) (n : Nat), Vals xs its ∧ xs.length = its.length ∧ s.heap.get? l = some { cls := .type "list", data := .seq its.toArray n } := by
  obtain ⟨z, its, n, r, e⟩ := I.hok l _ hH
  exact ⟨z, its, n, r, r.length, e⟩
end
section
variable {X : Cx}
/-! ### methods -/
def rAppend : V → List V → Hp → VK → Prop := fun x vs H Q => ∃ l xs y, x = .ref l ∧ vs = [y] ∧ H l = some (.lst xs) ∧ xs.length < sizeLine ∧ Q .non (upd H l (.lst (xs ++ [y])))
theorem mt_append : MtM X "list.append" rAppend := by
  intro pins s σ H x vs v us Q I rx rv h
  obtain ⟨l, xs, y, rfl, rfl, hH, hz, q⟩ := h
  cases rx
  obtain ⟨u, rfl, ru⟩ := rv.one
  obtain ⟨z, its, n, r, hl, e⟩ := I.lstM hH
  refine call_meets F.slot_list_append ⟨_, e, rfl⟩ F.entry_list_append (F.args_list_append_2 _ _) (PySem.list_append l its.toArray n u (by rw [List.size_toArray]; omega)) ⟨e, ?_⟩
  refine ⟨.non, _, I.lset (its' := its ++ [u]) hH e (by simp) (r.append (.cons ru .nil)) ?_, rfl, q⟩
  rw [List.length_append, List.length_singleton]
  omega
/-! ### list + list, list += list, list * int -/
def rCat : R2 := fun x y H Q => ∃ l b xs zs, x = .ref l ∧ y = .ref b ∧ H l = some (.lst xs) ∧ H b = some (.lst zs) ∧ xs.length + zs.length ≤ sizeLine ∧ ∀ p, H p = none → Q (.ref p) (upd H p (.lst (xs ++ zs)))
theorem op_cat : OpR X (binaryOp .Add) rCat := by
  intro pins s σ H x y v u Q I rx ry h
  obtain ⟨l, b, xs, zs, rfl, rfl, hH, hB, hz, q⟩ := h
  cases rx
  cases ry
  obtain ⟨z, its, n, r, hl, e⟩ := I.lstM hH
  obtain ⟨z2, its2, n2, r2, hl2, e2⟩ := I.lstM hB
  refine PySem.P.add_list e e2 ?_ (by rw [List.size_toArray, List.size_toArray]; omega)
  have ea : its.toArray ++ its2.toArray = (its ++ its2).toArray := by simp
  rw [ea]
  exact ⟨.ref _, _, I.lnew (t' := s.toks) (r.append r2) (by rw [List.length_append]; omega), rfl, q _ I.fresh⟩
/-! ### del xs[i] -/
end
/-! ### xs[a:b] = ys -/
section
variable {prog : Program} {w : World} {A : Around} {E : Value → Shared → Prop} {s : Shared}
set_option maxRecDepth 100000 in
end
section
variable {X : Cx}
end
end L2
namespace Att
open PySem PySem.W PySem.Calls PyProof.Rows
/-! ### the script -/
theorem ints_of_wellAll {P : Params} {h : Heap} : ∀ (ns : List Int) (vs : List Value), WellAll P h vs (ns.map WData.int) → IntsAre vs ns := by
  intro ns
  induction ns with
  | nil =>
    intro vs w
    rw [List.map_nil] at w
    cases w
    exact .nil
  | cons n ns ih =>
    intro vs w
    rw [List.map_cons] at w
    cases w with
    | cons a b =>
      cases a
      exact .cons _ _ (ih _ b)
theorem script_of {l : OpenLaw} {n : Nat} (hn : l.most = some n) {P : Params} {h : Heap} {args : List WData} {vals : List Value}
    (hpre : l.row.toRowW.claim.pre args = true) (hwl : WellAll P h vals args) :
    ∃ a vs ns, vals = [Value.ref a] ∧ args = [WData.list (ns.map WData.int)] ∧ h.get? a = some { cls := .type "list", data := .seq vs.toArray } ∧ IntsAre vs ns ∧ ns.length ≤ n := by
  have hsh : WShape.hasAll [] args [.list .int] = true := (pre_splitW hpre).1
  have hc : l.pre.holds [] { args := args } = true := (pre_splitW hpre).2
  obtain ⟨d, r, rfl, h1, h2⟩ := hasAllW_cons hsh
  obtain rfl := hasAllW_nil h2
  obtain ⟨xs, rfl, h3⟩ := hasW_list h1
  obtain ⟨ns, rfl⟩ := items_int h3
  have hlen : ns.length ≤ n := by
    unfold OpenLaw.pre at hc
    have h4 : (WTm.not (.lt (.lit (.int (n : Int))) (.len (.arg 0)))).holds [] { args := [.list (ns.map .int)] } = true := by
      have h4 := (holds_andW hc).1
      rw [hn] at h4
      exact h4
    have h5 := condW_of h4 (w_not (w_lt w_lit (w_len_list (w_arg rfl))))
    rw [List.length_map] at h5
    refine Nat.le_of_not_lt fun q => ?_
    have q' : (n : Int) < ((ns.length : Nat) : Int) := by omega
    first
      | (rw [decide_eq_true q'] at h5; exact absurd h5 (by decide))
      | (simp at h5; omega)
  cases hwl with
  | cons w1 w2 =>
    cases w2
    cases w1 with
    | list ho hall => exact ⟨_, _, ns, rfl, rfl, ho, ints_of_wellAll ns _ hall, hlen⟩
theorem post_true (l : OpenLaw) (args : List WData) : l.row.toRowW.claim.post args (.bool true) args = true :=
  postW_of (r := l.row.toRowW) (X := (true == true))
    (show WShape.has [] (.bool true) .bool = true by first | rfl | decide | simp [WShape.has, WShape.arms, WShape.armsAll])
    (show (WTm.eq .res (.lit (.bool true))).value [] { args := args, res := some (.bool true), after := args } = some (.bool (true == true)) from w_eq_bool (w_res rfl) w_lit) rfl
/-! ### the attachment: holds_open's last premise (the goal 'hc' behind k_head) from a wpAny of the law's body -/
/-- the same from a codeAny of the CALL (for a layer whose function contracts speak of calls) -/
theorem attach_call {l : OpenLaw} {n : Nat} {q : Program} {loose : List Str} {XP : (Str → Option Value) → Heap → Prop} {YP : World → Heap → Prop} {d : DefRec}
    (hn : l.most = some n) (hdf : d.params.defaults = [])
    (call : ∀ (w : World) (s₀ s₁ : Shared) (mg mb : Str → Option Value) (fa : Addr) (o : Obj) (pm cd doc : Value) (a : Addr) (vs : List Value) (ns : List Int),
      Ground q loose [] XP w s₀ mg mb s₁.heap → YP w s₁.heap →
      s₁.heap.get? fa = some o → o.data = .func (docDef d.name d.params d.body d.scope pm cd doc) → s₁.heap.CodeRec cd d.name → mg d.name = some (.ref fa) →
      s₁.heap.get? a = some { cls := .type "list", data := .seq vs.toArray } → IntsAre vs ns → ns.length ≤ n → s₁.gens = #[] →
      codeAny (model l.prog w) callerA (.call (.ref fa) ⟨[.ref a], []⟩) (fun r s' => r = .ok (.ret (.bool true)) ∧ OldK s₁.heap s'.heap ∧ s'.os = s₁.os ∧ AllBare s'.gens) s₁) :
    WalkO q loose XP YP l.row.toRowW d [] (fun f vs => PySem.call f vs) := by
  intro w s₀ s₁ mg mb G Y fa o pm cd doc dV kV ho hd hcd hD hmg hg args vals as hpre hlay hrd hwl hlo
  obtain rfl : dV = .none := Dflts.none hD hdf
  obtain rfl : kV = .none := Dflts.noKw hD
  obtain ⟨a, vs, ns, rfl, rfl, hobj, hints, hlen⟩ := script_of hn hpre hwl
  refine enter_call (codeAny_mono (call w s₀ s₁ mg mb fa o pm cd doc a vs ns G Y ho (fd_plain hd) hcd hmg hobj hints hlen hg) fun r s' hq => ?_)
  obtain ⟨rfl, h2, h3, h4⟩ := hq
  exact ⟨.inl ⟨.bool true, .bool true, [], rfl, fun _ => rfl, .bool true, post_true l _, fun _ => ⟨List.Pairwise.nil, fun _ hm => (nomatch hm)⟩⟩, h2, h3, h4⟩
/-! ### rules over ANY heap (no ledger) from facts about the written part K: the library's own take a ledger (News) for what they write -/
section
variable {prog : Program} {w : World} {A : Around} {E : Value → Shared → Prop} {s : Shared} {K : Frag}
/-! the whole heap as the ledger: makes every rule that writes through a ledger a rule over any heap -/
end
end Att
namespace L2
open PySem PySem.Spec PyProof.Rows
theorem vals_ints : ∀ {vs : List Value} {ns : List Int}, IntsAre vs ns → Vals (ns.map V.int) vs
  | _, _, .nil => .nil
  | _, _, .cons n t h => .cons ⟨t, rfl⟩ (vals_ints h)
/-- nothing is tracked but the script, known to the object (or it is an object of the module) -/
def Only (H : Hp) : Prop := ∀ b, H b = none ∨ ∃ o xs, H b = some (.frz o (.lst xs))
/-- THE HEAD: the law's promise, at the heap behind the top. F, the promise of the law's def, may use that base is part of the heap (so K.In base, base.Ns mainGlobals mg stand in Mod) -/
theorem law_call {P : Program} {w : World} {K : PySem.W.Frag} {mg mb : Str → Option Value} {CX : CXT} {k : Nat} {fa a : Addr} {fd : FuncData} {x : Str} {sp : Sp} {s₁ : Shared} {vs : List Value} {ns : List Int}
    (KX : K.In s₁.heap) (hns : s₁.heap.Ns mainGlobals mg) (hb : s₁.heap.Ns builtinsNs mb) (hbb : ∀ x : Str, x ≠ "__name__" → mb x = bootBuiltins x) (hlim : s₁.heap.NoLimit) (hg : s₁.gens = #[])
    (ha : s₁.heap.get? a = some { cls := .type "list", data := .seq vs.toArray }) (hi : IntsAre vs ns) (hl : ns.length ≤ sizeLine) (hr : Room k callerA)
    (F : ∀ base : Heap, K.In base → base.Ns mainGlobals mg → FnOk P w K mg base CX k fa fd [x] sp) (hbind : ∀ (s : Shared) (u : Value), BindsTo s fd ⟨[u], []⟩ [(x, u)])
    (hsp : ∀ H : Hp, Only H → SqL K H a (ns.map V.int) → sp [.ref a] H (fun v _ => v = .bl true) fun _ _ _ => False)
    (hCX : ∀ H e s', CX [] H s₁ (fun _ _ _ => False) e s' → False) :
    codeAny (model P w) callerA (.call (.ref fa) ⟨[.ref a], []⟩) (fun r s' => r = .ok (.ret (.bool true)) ∧ OldK s₁.heap s'.heap ∧ s'.os = s₁.os ∧ AllBare s'.gens) s₁ := by
  have rv := vals_ints hi
  have lenV := hi.length
  -- from an abstract heap in which nothing but the script may be tracked
  have core : ∀ H : Hp, Only H → SqL K H a (ns.map V.int) → HOk P w H s₁.heap → (∀ b, H b ≠ none → b = a) → (H a ≠ none → K.lookup a = none) →
      codeAny (model P w) callerA (.call (.ref fa) ⟨[.ref a], []⟩) (fun r s' => r = .ok (.ret (.bool true)) ∧ OldK s₁.heap s'.heap ∧ s'.os = s₁.os ∧ AllBare s'.gens) s₁ := by
    intro H hO hS hok hA hK
    have base_of : ∀ {b : Addr} {o : Obj}, s₁.heap.get? b = some o → H b = none → (hidT s₁.heap H).get? b = some o := fun e n => hidT_get e n
    have noA : ∀ {b : Addr} {o : Obj} {es : Array DictEntry} {ep : Nat}, s₁.heap.get? b = some o → o.data = .dict es ep → H b = none := fun {b o es ep} e d => by
      cases q : H b with
      | none => rfl
      | some u =>
        have e' : b = a := hA b (by rw [q]; simp)
        subst e'
        rw [ha] at e; cases e
        have d' : Data.seq vs.toArray _ = Data.dict es ep := d
        cases d'
    have nsK : ∀ {b : Addr} {m : Str → Option Value}, s₁.heap.Ns b m → (hidT s₁.heap H).Ns b m := fun {b m} ⟨o, es, ep, e, d, r⟩ => ⟨o, es, ep, base_of e (noA e d), d, r⟩
    have hKb : K.In (hidT s₁.heap H) := fun b o e => base_of (KX b o e) (by
      cases q : H b with
      | none => rfl
      | some u =>
        have e' : b = a := hA b (by rw [q]; simp)
        subst e'
        rw [hK (by rw [q]; simp)] at e; cases e)
    have hM : Mod K mg (hidT s₁.heap H) := ⟨hKb, nsK hns, ⟨mb, nsK hb, hbb⟩, let ⟨mc, h1, h2⟩ := hlim; ⟨mc, nsK h1, h2⟩⟩
    have e0 : Env0 P w K mg (hidT s₁.heap H) callerA [] s₁ H := ⟨rfl, hM, fun b o e => of_hidT e, Nat.le_of_eq (hidT_size _ _), trivial, fun b hb => absurd (show b ∈ ([] : List Addr) from hb) (by simp), hok, .of_eq hg⟩
    refine codeAny_mono ((F _ hKb (nsK hns)).run callerA [] s₁ H ⟨[.ref a], []⟩ [.ref a] [.ref a] _ _ hr e0 (hbind s₁ (.ref a)) (.cons rfl .nil) (hsp H hO hS)) fun r s' h => ?_
    cases r with
    | error e => exact (hCX H e s' h).elim
    | ok fl =>
      cases fl with
      | next => exact False.elim h
      | brk => exact False.elim h
      | cont => exact False.elim h
      | ret u =>
        obtain ⟨v, H', os, bare, un, hok', r', q⟩ := h
        have q' : v = .bl true := q
        subst q'
        obtain rfl : u = Value.bool true := r'
        refine ⟨rfl, OldK.of_keep fun b o e => ?_, os, bare⟩
        cases q : H b with
        | none => exact un.keep b o e q (by intro z; exact absurd (show b ∈ ([] : List Addr) from z) (by simp)) (by simp)
        | some u =>
          rcases hO b with z | ⟨ob, xs, z⟩
          · rw [q] at z; cases z
          · have z2 := un.frzs b ob _ z
            obtain ⟨e1, _⟩ := hok b _ z
            obtain ⟨e2, _⟩ := hok' b _ z2
            rw [e] at e1; cases e1
            exact e2
  cases hk : K.lookup a with
  | some o =>
    -- the script is one of the module's own objects
    have e := KX a o hk
    rw [ha] at e
    cases e
    refine core (fun _ => none) (fun _ => .inl rfl) (.inr ⟨_, vs.toArray, _, hk, rfl, rfl, rfl, by rw [List.size_toArray, lenV]; exact hl, by simpa using rv⟩) (fun b u z => by have z' : (none : Option HO) = some u := z; cases z') (fun b z => absurd rfl z) fun z => absurd rfl z
  | none =>
    refine core (fun b => if b = a then some (.frz { cls := .type "list", data := .seq vs.toArray } (.lst (ns.map V.int))) else none) (fun b => ?_) (.inl (.inr ⟨{ cls := .type "list", data := .seq vs.toArray }, if_pos rfl⟩)) (fun b u z => ?_) (fun b z => ?_) fun _ => hk
    · by_cases hb : b = a
      · exact .inr ⟨_, _, if_pos hb⟩
      · exact .inl (if_neg hb)
    · by_cases hb : b = a
      · have z' := (if_pos hb).symm.trans z
        cases z'
        subst hb
        exact ⟨ha, by rw [List.length_map]; exact hl, vs, _, rv, ha⟩
      · have z' := (if_neg hb).symm.trans z
        cases z'
    · by_cases hb : b = a
      · exact hb
      · exact absurd (if_neg hb) z
end L2
namespace L2
open PySem PySem.Spec PyProof.Rows
end L2
/- THE LAST THEOREM (shape; LID, My.* are yours):
   My.Adr: a structure of the addresses that your layer names (classes, functions); My.Txt K t: a structure (Prop) of the equations over K;
   My.txt_mk : {K} {implicit addresses ..} (e1 : nsIn K mainGlobals "law" = some (some (.ref f))) (e2 : K.lookup f = some ⟨oc, od, .func (fnOf "law" "law" params body scope dV kV doc pm an cdv ct), sl⟩) (e3 : codeIn K cdv "law" = true) .. : ∃ t, My.Txt K t
set_option maxRecDepth 100000 in
set_option maxHeartbeats 0 in
theorem PySem.Challenge.cw_LID_holds : PySem.Challenge.rw_LID.Holds := by
  w_on; o_law; k_head; (case hw => w_witness2)
  k_fill
  refine L2.walk_of (l := PySem.Challenge.rw_LID) (n := 63) (k := 40) (x := "script") (CX := fun w => ..) (sp := fun _ => My.sp_law) rfl (by decide) rfl ⟨rfl, by decide, by decide⟩ (fun w h Y => PySem.W.kIn_of Y) ?F ?S ?C
  case F =>
    intro w mg fa h KX G hmg
    have T : ∃ t, My.Txt (L2.KOf KX) t := by
      dsimp only [L2.KOf]                          -- K must stand as «<heap const> w.params» for k_is
      refine' My.txt_mk ?e1 ?e2 ?e3 ..
      (case e1 => PySem.W.k_is)                    -- in the order: a name -> its address -> its object -> its parts
      (case e2 => PySem.W.k_is)
      ..
    obtain ⟨t, T⟩ := T
    have e0 := hmg.symm.trans (PySem.W.mg_of KX G T.law)
    cases e0                                       -- fa is the law's own address
    exact ⟨_, fun s u => .of_eq rfl, fun base kb nb => My.law_fn T kb nb⟩     -- if «.of_eq rfl» comes too early: refine' ⟨_, ?b, fun base kb nb => My.law_fn T kb nb⟩; exact fun s u => .of_eq rfl
  case S => exact fun w H a ns hl hO hS => ..
  case C => exact ..
(the tactic k_is has no namespace: write k_is) -/
/-! SHORT WORDS over the layer: a def of the text, its body, what a loop and a test want. -/
namespace L2
open PySem PySem.Spec PyProof.Rows
/-! ### the text by places -/
def defArgs (s : Stmt) : Arguments := match s with
  | .FunctionDef _ a _ _ _ _ _ _ _ _ => a
  | _ => { posonlyargs := [], args := [], vararg := none, kwonlyargs := [], kw_defaults := [], kwarg := none, defaults := [] }
def defBody (s : Stmt) : List Stmt := match s with
  | .FunctionDef _ _ b _ _ _ _ _ _ _ => b
  | _ => []
def defScope (s : Stmt) : Scope := match s with
  | .FunctionDef _ _ _ _ _ _ sc _ _ _ => sc
  | _ => { kind := .function, names := [], isGenerator := false, isCoroutine := false }
/-! ### no exception leaves a def -/
abbrev CX0 : CXT := fun _ _ _ _ _ _ => False
abbrev E0 : XK := fun _ _ _ => False
theorem pass0 {X : Cx} : Passes CX0 X E0 := fun _ _ _ _ _ _ _ h => h.elim
/-! ### a def (or method) of the text as it stands behind the top -/
structure Fun (K : PySem.W.Frag) (x qual : Str) (st : Stmt) (f : Addr) (fd : FuncData) : Prop where
  ex : ∃ (oc : Value) (od : Option Addr) (kV doc pm : Value) (an : Option Addr) (cdv ct : Value) (osl : Array (Option Value)),
    fd = PySem.W.fnOf x qual (defArgs st) (defBody st) (defScope st) .none kV doc pm an cdv ct ∧ K.lookup f = some ⟨oc, od, .func fd, osl⟩ ∧ PySem.W.codeIn K cdv qual = true
  kp : PySem.W.keepIn K (.ref f) = true
section
variable {P : Program} {w : World} {K : PySem.W.Frag} {mg : Str → Option Value} {base : Heap}
/-- THE RULE for a def: its body as a term of rules, and the reading of that term -/
theorem Fun.ok {x qual : Str} {st : Stmt} {f : Addr} {fd : FuncData} {N ps : List Str} {k : Nat} {sp : Sp} (F : Fun K x qual st f fd) (S : FnScope N ps (defScope st)) (len : ∀ vs H Q E, sp vs H Q E → vs.length = ps.length)
    (hbody : ∀ (cdv : Value) (A : Around) (outer : List Env) (s : Shared) (H : Hp) (vs : List V) (Q : VK) (E : XK), Room k (A.deeper (envOfC qual (defScope st) s.heap.objs.size f cdv)) → sp vs H Q E →
      ∃ t, PSs (cxOf CX0 P w K mg base N qual (defScope st) f cdv A outer s H E).nox (defBody st) t ∧ t { nx := fun _ H' => Q .non H', rt := Q } (start N vs) H) : FnOk P w K mg base CX0 (k + 1) f fd ps sp := by
  obtain ⟨oc, od, kV, doc, pm, an, cdv, ct, osl, rfl, lk, hcd⟩ := F.ex
  refine fn_of lk hcd S len fun A outer s H vs Q E hr hsp => ?_
  obtain ⟨t, h, q⟩ := hbody cdv A outer s H vs Q E hr hsp
  exact ⟨t, h.nox, q⟩
/-- how its arguments bind (no defaults): h is «fun _ _ _ _ _ _ us hl => match us, hl with | [_, _], _ => rfl», one _ a parameter -/
theorem Fun.binds {x qual : Str} {st : Stmt} {f : Addr} {fd : FuncData} {ps : List Str} (F : Fun K x qual st f fd)
    (h : ∀ (kV doc pm : Value) (an : Option Addr) (cdv ct : Value) (us : List Value), us.length = ps.length → bindArgs (PySem.W.fnOf x qual (defArgs st) (defBody st) (defScope st) .none kV doc pm an cdv ct) ⟨us, []⟩ = pure (ps.zip us)) : Binds K fd ps [] := by
  obtain ⟨oc, od, kV, doc, pm, an, cdv, ct, osl, rfl, lk, hcd⟩ := F.ex
  exact .all (h kV doc pm an cdv ct)
theorem fun_mk {x qual : Str} {st : Stmt} {f : Addr} {oc : Value} {od an : Option Addr} {osl : Array (Option Value)} {kV doc pm cdv ct : Value} (l : K.lookup f = some ⟨oc, od, .func (PySem.W.fnOf x qual (defArgs st) (defBody st) (defScope st) .none kV doc pm an cdv ct), osl⟩)
    (c : PySem.W.codeIn K cdv qual = true) (k : PySem.W.keepIn K (.ref f) = true) : Fun K x qual st f (PySem.W.fnOf x qual (defArgs st) (defBody st) (defScope st) .none kV doc pm an cdv ct) := ⟨⟨oc, od, kV, doc, pm, an, cdv, ct, osl, rfl, l, c⟩, k⟩
end
theorem small1000 {n : Nat} (h : n ≤ 1000) : n < sizeLine := Nat.lt_of_le_of_lt h (by decide)
/-! ### expressions in short: the name that stands in the i-th slot -/
section
variable {X : Cx}
theorem pv (i : Nat) {x : Str} {pos : Pos} (hN : X.N[i]? = some x := by rfl) (hv : Vis X.env.scope x := by first | exact Or.inl rfl | exact Or.inr (Or.inl rfl) | exact Or.inr (Or.inr rfl)) (hd : (x == ("__debug__" : Str)) = false := by decide)
    (hcd : (x == ("__classdict__" : Str)) = false := by decide) : PE X (.Name x pos) (tVar i) := pe_var hN hv hd hcd
end
/-! ### tests -/
theorem iteF {A B : Prop} (h : B) : if false = true then A else B := by
  rw [if_neg Bool.false_ne_true]
  exact h
theorem iteT {A B : Prop} (h : A) : if true = true then A else B := by
  rw [if_pos rfl]
  exact h
theorem ite2 {c A B : Prop} [Decidable c] (h1 : c → A) (h2 : ¬ c → B) : if c then A else B := by
  by_cases h : c
  · rw [if_pos h]
    exact h1 h
  · rw [if_neg h]
    exact h2 h
theorem iteNS {c A B : Prop} [Decidable c] (hc : c) (h : B) : if (!decide c) = true then A else B := by
  rw [decide_eq_true hc]
  exact iteF h
/-! ### heaps -/
/-- all that was tracked is as it was -/
def Same (H H' : Hp) : Prop := ∀ b o, H b = some o → H' b = some o
theorem Same.refl (H : Hp) : Same H H := fun _ _ h => h
theorem Same.trans {H H1 H2 : Hp} (a : Same H H1) (b : Same H1 H2) : Same H H2 := fun c o h => b c o (a c o h)
theorem Same.seq {K : PySem.W.Frag} {H H' : Hp} {a : Addr} {xs : List V} (e : Same H H') (h : SqL K H a xs) : SqL K H' a xs := by
  rcases h with (h | ⟨o, h⟩) | h
  · exact .inl (.inl (e _ _ h))
  · exact .inl (.inr ⟨o, e _ _ h⟩)
  · exact .inr h
end L2
set_option Elab.async false
set_option linter.all false
set_option maxRecDepth 100000
namespace LN
/-- a size: below 2 to the power n, without the sign -/
def Bd (n : Nat) (i : Int) : Prop := i.natAbs < 2 ^ n
theorem Bd.mono {m n : Nat} {i : Int} (h : Bd m i) (hmn : m ≤ n) : Bd n i :=
  Nat.lt_of_lt_of_le h (Nat.pow_le_pow_right (by decide) hmn)
theorem Bd.mul {m n : Nat} {i j : Int} (hi : Bd m i) (hj : Bd n j) : Bd (m + n) (i * j) := by
  unfold Bd at *
  rw [Int.natAbs_mul, Nat.pow_add]
  exact Nat.mul_lt_mul_of_lt_of_le hi (Nat.le_of_lt hj) (Nat.two_pow_pos n)
theorem Bd.one : Bd 1 1 := by unfold Bd; decide
theorem Bd.pow {m : Nat} {i : Int} (h : Bd m i) : ∀ k : Nat, Bd (m * k + 1) (i ^ k)
  | 0 => by rw [Int.pow_zero]; exact Bd.one
  | k + 1 => by
    rw [Int.pow_succ]
    exact ((Bd.pow h k).mul h).mono (by rw [Nat.mul_succ]; omega)
theorem Bd.add {n : Nat} {i j : Int} (hi : Bd n i) (hj : Bd n j) : Bd (n + 1) (i + j) := by
  unfold Bd at *
  rw [Nat.pow_succ]
  omega
theorem Bd.sub {n : Nat} {i j : Int} (hi : Bd n i) (hj : Bd n j) : Bd (n + 1) (i - j) := by
  unfold Bd at *
  rw [Nat.pow_succ]
  omega
theorem Bd.neg {n : Nat} {i : Int} (hi : Bd n i) : Bd n (-i) := by
  unfold Bd at *
  omega
theorem Bd.of_le {n : Nat} {i j : Int} (hj : Bd n j) (h : i.natAbs ≤ j.natAbs) : Bd n i := Nat.lt_of_le_of_lt h hj
theorem Bd.dvd {n : Nat} {i j : Int} (hj : Bd n j) (h : i ∣ j) (h0 : j ≠ 0) : Bd n i :=
  hj.of_le (Nat.le_of_dvd (Int.natAbs_pos.mpr h0) (Int.natAbs_dvd_natAbs.mpr h))
theorem Bd.log2 {n : Nat} {i : Int} (h : Bd n i) (hn : 0 < n) : i.natAbs.log2 < n := by
  by_cases h0 : i.natAbs = 0
  · rw [h0]
    exact Nat.lt_of_le_of_lt (by decide : Nat.log2 0 ≤ 0) hn
  · exact (Nat.log2_lt h0).mpr h
theorem Bd.of_abs {n : Nat} {i : Int} {b : Nat} (h1 : -(b : Int) ≤ i) (h2 : i ≤ (b : Int)) (hb : b < 2 ^ n) : Bd n i := by
  unfold Bd
  omega
/-! ### powers by squares -/
theorem half_step (t b : Nat) : t / 2 ^ b = 2 * (t / 2 ^ (b + 1)) + t / 2 ^ b % 2 := by
  rw [Nat.pow_succ, ← Nat.div_div_eq_div_mul]
  omega
theorem pow_even (p : Int) (t b : Nat) (h : ¬ t / 2 ^ b % 2 = 1) : p ^ (t / 2 ^ (b + 1)) * p ^ (t / 2 ^ (b + 1)) = p ^ (t / 2 ^ b) := by
  rw [← Int.pow_add]
  have := half_step t b
  have e : t / 2 ^ b = t / 2 ^ (b + 1) + t / 2 ^ (b + 1) := by omega
  rw [← e]
theorem pow_odd (p : Int) (t b : Nat) (h : t / 2 ^ b % 2 = 1) : p ^ (t / 2 ^ (b + 1)) * p ^ (t / 2 ^ (b + 1)) * p = p ^ (t / 2 ^ b) := by
  rw [← Int.pow_add, ← Int.pow_succ]
  have := half_step t b
  have e : t / 2 ^ b = t / 2 ^ (b + 1) + t / 2 ^ (b + 1) + 1 := by omega
  exact congrArg (p ^ ·) e.symm
/-! ### how often p divides -/
/-- the first j squares of squares -/
def sq (p : Int) (k : Nat) : List Int := (List.range k).map fun j => p ^ (2 ^ j)
theorem sq_len (p : Int) (k : Nat) : (sq p k).length = k := by unfold sq; simp
theorem sq_succ (p : Int) (k : Nat) : sq p (k + 1) = sq p k ++ [p ^ (2 ^ k)] := by unfold sq; rw [List.range_succ]; simp
theorem sq_get (p : Int) {k j : Nat} (h : j < k) : (sq p k)[j]? = some (p ^ (2 ^ j)) := by
  unfold sq
  rw [List.getElem?_map, List.getElem?_range h]
  rfl
theorem sq_mul (p : Int) (k : Nat) : p ^ (2 ^ k) * p ^ (2 ^ k) = p ^ (2 ^ (k + 1)) := by
  rw [← Int.pow_add, Nat.pow_succ, Nat.mul_two]
theorem pow_pos {p : Int} (hp : 2 ≤ p) (k : Nat) : 0 < p ^ k := Int.pow_pos (by omega)
theorem two_le_pow {p : Int} (hp : 2 ≤ p) : ∀ k : Nat, 2 ≤ p ^ (k + 1)
  | 0 => by rw [Int.pow_succ, Int.pow_zero, Int.one_mul]; exact hp
  | k + 1 => by
    rw [Int.pow_succ]
    have h1 := two_le_pow hp k
    have h2 := Int.mul_le_mul_of_nonneg_left hp (show 0 ≤ p ^ (k + 1) by omega)
    omega
theorem sq_two {p : Int} (hp : 2 ≤ p) (k : Nat) : 2 ≤ p ^ (2 ^ k) := by
  have h : 2 ^ k = (2 ^ k - 1) + 1 := by have := Nat.two_pow_pos k; omega
  rw [h]
  exact two_le_pow hp _
theorem sq_grow {p : Int} (hp : 2 ≤ p) (k : Nat) : p ^ (2 ^ k) < p ^ (2 ^ k) * p ^ (2 ^ k) := by
  have h := sq_two hp k
  have h2 := Int.mul_le_mul_of_nonneg_left h (show 0 ≤ p ^ (2 ^ k) by omega)
  omega
theorem two_pow_le {p : Int} (hp : 2 ≤ p) (k : Nat) : (2 : Int) ^ k ≤ p ^ k := by
  induction k with
  | zero => rw [Int.pow_zero, Int.pow_zero]; omega
  | succ k ih =>
    rw [Int.pow_succ, Int.pow_succ]
    exact Int.mul_le_mul ih hp (by omega) (Int.le_of_lt (pow_pos hp k))
theorem le_of_dvd {a n : Int} (h : a ∣ n) (h0 : n ≠ 0) : a.natAbs ≤ n.natAbs := Nat.le_of_dvd (Int.natAbs_pos.mpr h0) (Int.natAbs_dvd_natAbs.mpr h)
/-- the list stays short -/
theorem sq_short {p n : Int} {N k : Nat} (hp : 2 ≤ p) (h0 : n ≠ 0) (hb : Bd N n) (h : p ^ (2 ^ k) ∣ n) : k < N := by
  have h1 := le_of_dvd h h0
  have h2 := two_pow_le hp (2 ^ k)
  have h3 : (2 : Nat) ^ (2 ^ k) ≤ (p ^ (2 ^ k)).natAbs := by
    have e : (((2 : Nat) ^ (2 ^ k) : Nat) : Int) = (2 : Int) ^ (2 ^ k) := by exact Int.natCast_pow 2 _
    have h4 := pow_pos hp (2 ^ k)
    omega
  have h5 : (2 : Nat) ^ (2 ^ k) < 2 ^ N := Nat.lt_of_le_of_lt (Nat.le_trans h3 h1) hb
  have h6 : 2 ^ k < N := (Nat.pow_lt_pow_iff_right (by decide)).mp h5
  exact Nat.lt_trans Nat.lt_two_pow_self h6
/-- what holds between two turns of the second walk: r squares are left -/
structure Ex (p n : Int) (r t : Nat) (m : Int) : Prop where
  eq : n = m * p ^ (t * 2 ^ r)
  no : ¬ p ^ (2 ^ r) ∣ m
theorem Ex.start {p n : Int} {k : Nat} (h : ¬ p ^ (2 ^ k) ∣ n) : Ex p n k 0 n := ⟨by rw [Nat.zero_mul, Int.pow_zero, Int.mul_one], h⟩
theorem Ex.yes {p n m : Int} {r t : Nat} (h : Ex p n (r + 1) t m) (hp : 2 ≤ p) (hd : p ^ (2 ^ r) ∣ m) : Ex p n r (t * 2 + 1) (m / p ^ (2 ^ r)) := by
  obtain ⟨c, rfl⟩ := hd
  have hpos := pow_pos hp (2 ^ r)
  have e : p ^ (2 ^ r) * c / p ^ (2 ^ r) = c := Int.mul_ediv_cancel_left c (by omega)
  rw [e]
  refine ⟨?_, fun hc => h.no ?_⟩
  · rw [h.eq, Int.mul_comm (p ^ (2 ^ r)) c, Int.mul_assoc, ← Int.pow_add]
    congr 2
    rw [Nat.pow_succ, Nat.add_mul, Nat.one_mul, Nat.mul_assoc t 2, Nat.mul_comm 2 (2 ^ r)]
    omega
  · rw [← sq_mul]
    exact Int.mul_dvd_mul_left _ hc
theorem Ex.nay {p n m : Int} {r t : Nat} (h : Ex p n (r + 1) t m) (hd : ¬ p ^ (2 ^ r) ∣ m) : Ex p n r (t * 2) m := by
  refine ⟨?_, hd⟩
  rw [h.eq]
  congr 2
  rw [Nat.pow_succ, Nat.mul_assoc t 2, Nat.mul_comm 2 (2 ^ r)]
theorem Ex.fin {p n m : Int} {t : Nat} (h : Ex p n 0 t m) : n = m * p ^ t ∧ ¬ p ∣ m := by
  obtain ⟨h1, h2⟩ := h
  rw [Nat.pow_zero, Nat.mul_one] at h1
  rw [Nat.pow_zero, Int.pow_succ, Int.pow_zero, Int.one_mul] at h2
  exact ⟨h1, h2⟩
/-- the exponent is one -/
theorem ex_le {p m m' : Int} {t t' : Nat} (hp : 2 ≤ p) (h : m * p ^ t = m' * p ^ t') (h1 : ¬ p ∣ m) : t' ≤ t := by
  rcases Nat.lt_or_ge t t' with hlt | hge
  · exfalso
    refine h1 ?_
    have e : t' = t + (t' - t - 1) + 1 := by omega
    rw [e, Int.pow_succ, Int.pow_add] at h
    have hpos := pow_pos hp t
    have h2 : m = m' * p ^ (t' - t - 1) * p := by
      apply Int.eq_of_mul_eq_mul_right (show p ^ t ≠ 0 by omega)
      rw [h]
      rw [Int.mul_assoc, Int.mul_assoc, Int.mul_assoc, Int.mul_left_comm (p ^ t), Int.mul_comm (p ^ t) p]
    exact ⟨m' * p ^ (t' - t - 1), by rw [h2, Int.mul_comm]⟩
  · exact hge
theorem ex_one {p m m' : Int} {t t' : Nat} (hp : 2 ≤ p) (h : m * p ^ t = m' * p ^ t') (h1 : ¬ p ∣ m) (h2 : ¬ p ∣ m') : t = t' :=
  Nat.le_antisymm (ex_le hp h.symm h2) (ex_le hp h h1)
end LN
set_option Elab.async false
set_option linter.all false
set_option maxRecDepth 100000
namespace LN
/-! ### the greatest common divisor -/
theorem gcd_turn {a b : Nat} : Nat.gcd b (a % b) = Nat.gcd a b := by
  rw [Nat.gcd_comm b, ← Nat.gcd_rec, Nat.gcd_comm]
theorem abs_nat (i : Int) : (if i < 0 then -i else i) = ((i.natAbs : Nat) : Int) := by
  split <;> omega
/-- (x, y) is t by b in lowest terms -/
structure Low (t b x y : Int) : Prop where
  pos : 0 < y
  cop : Nat.gcd x.natAbs y.natAbs = 1
  eq : x * b = t * y
  xd : x ∣ t
  yd : y ∣ b
theorem Low.of {t b c : Int} {g : Nat} (hg : Nat.gcd t.natAbs b.natAbs = g) (hb : b ≠ 0) (hc : c.natAbs = g) (hs : 0 < b → 0 < c) (hs' : b < 0 → c < 0) : Low t b (t.fdiv c) (b.fdiv c) := by
  have hg0 : 0 < g := by rw [← hg]; exact Nat.gcd_pos_of_pos_right _ (Int.natAbs_pos.mpr hb)
  have hc0 : c ≠ 0 := by omega
  have d1 : c ∣ t := Int.natAbs_dvd_natAbs.mp (by rw [hc, ← hg]; exact Nat.gcd_dvd_left _ _)
  have d2 : c ∣ b := Int.natAbs_dvd_natAbs.mp (by rw [hc, ← hg]; exact Nat.gcd_dvd_right _ _)
  obtain ⟨x, rfl⟩ := d1
  obtain ⟨y, rfl⟩ := d2
  rw [Int.mul_fdiv_cancel_left x hc0, Int.mul_fdiv_cancel_left y hc0]
  have hy : 0 < y := by
    rcases Int.lt_trichotomy c 0 with h | h | h
    · rcases Int.lt_or_le 0 y with z | z
      · exact z
      · exfalso
        have := Int.mul_nonneg_of_nonpos_of_nonpos (Int.le_of_lt h) z
        rcases Int.lt_or_le 0 (c * y) with q | q
        · have := hs q; omega
        · exact hb (by omega)
    · exact absurd h hc0
    · rcases Int.lt_or_le 0 y with z | z
      · exact z
      · exfalso
        have := Int.mul_nonpos_of_nonneg_of_nonpos (Int.le_of_lt h) z
        rcases Int.lt_or_le (c * y) 0 with q | q
        · have := hs' q; omega
        · exact hb (by omega)
  refine ⟨hy, ?_, ?_, ⟨c, Int.mul_comm c x⟩, ⟨c, Int.mul_comm c y⟩⟩
  · rw [Int.natAbs_mul, Int.natAbs_mul, Nat.gcd_mul_left, hc] at hg
    have : g * Nat.gcd x.natAbs y.natAbs = g * 1 := by omega
    exact Nat.eq_of_mul_eq_mul_left hg0 this
  · rw [Int.mul_left_comm, Int.mul_assoc]
theorem dvd_of_cross {x y x' y' : Int} (h : x * y' = x' * y) (c : Nat.gcd x.natAbs y.natAbs = 1) : y ∣ y' := by
  have h1 : y ∣ x * y' := ⟨x', by rw [h, Int.mul_comm]⟩
  refine Int.natAbs_dvd_natAbs.mp ?_
  have h2 : y.natAbs ∣ x.natAbs * y'.natAbs := by rw [← Int.natAbs_mul]; exact Int.natAbs_dvd_natAbs.mpr h1
  exact Nat.Coprime.dvd_of_dvd_mul_left (Nat.Coprime.symm c) h2
theorem Low.cross {t b x y x' y' : Int} (hb : b ≠ 0) (h : Low t b x y) (h' : Low t b x' y') : x * y' = x' * y := by
  refine Int.eq_of_mul_eq_mul_right hb ?_
  rw [Int.mul_right_comm, h.eq, Int.mul_right_comm x', h'.eq, Int.mul_right_comm]
theorem cross_one {x y x' y' : Int} (p : 0 < y) (p' : 0 < y') (c : Nat.gcd x.natAbs y.natAbs = 1) (c' : Nat.gcd x'.natAbs y'.natAbs = 1) (h : x * y' = x' * y) : x = x' ∧ y = y' := by
  have h1 := Int.le_of_dvd p' (dvd_of_cross h c)
  have h2 := Int.le_of_dvd p (dvd_of_cross h.symm c')
  have e : y = y' := by omega
  subst e
  exact ⟨Int.eq_of_mul_eq_mul_right (by omega) h, rfl⟩
theorem Low.one {t b x y x' y' : Int} (hb : b ≠ 0) (h : Low t b x y) (h' : Low t b x' y') : x = x' ∧ y = y' := cross_one h.pos h'.pos h.cop h'.cop (h.cross hb h')
theorem Low.self {x y : Int} (p : 0 < y) (c : Nat.gcd x.natAbs y.natAbs = 1) : Low x y x y := ⟨p, c, rfl, Int.dvd_refl _, Int.dvd_refl _⟩
end LN
set_option Elab.async false
set_option linter.all false
set_option maxRecDepth 100000
/-! WHAT ALL MY LAWS USE: the built-ins' names, kinds of things, cells of the script. -/
namespace L2
open PySem PySem.Spec PyProof.Rows
theorem bt_int : bootBuiltins "int" = some (.type "int") := by decide +kernel
theorem bt_bool : bootBuiltins "bool" = some (.type "bool") := by decide +kernel
theorem bt_tuple : bootBuiltins "tuple" = some (.type "tuple") := by decide +kernel
theorem bt_isinstance : bootBuiltins "isinstance" = some (.builtin "isinstance") := by decide +kernel
theorem bt_len : bootBuiltins "len" = some (.builtin "len") := by decide +kernel
theorem bt_abs : bootBuiltins "abs" = some (.builtin "abs") := by decide +kernel
section
variable {es : List Expr} {env : Env} {pos : Pos}
theorem star_Constant {c : Const} {k : Nat} : starEach (.Constant c k pos :: es) env = (false, eval (.Constant c k pos) env) :: starEach es env := by rw [starEach]; intro e p z; cases z
theorem star_Name {x : Str} : starEach (.Name x pos :: es) env = (false, eval (.Name x pos) env) :: starEach es env := by rw [starEach]; intro e p z; cases z
theorem star_List {l : List Expr} : starEach (.List l pos :: es) env = (false, eval (.List l pos) env) :: starEach es env := by rw [starEach]; intro e p z; cases z
theorem star_Tuple {l : List Expr} {k : Nat} : starEach (.Tuple l k pos :: es) env = (false, eval (.Tuple l k pos) env) :: starEach es env := by rw [starEach]; intro e p z; cases z
theorem star_BinOp {a b : Expr} {o : Operator} : starEach (.BinOp a o b pos :: es) env = (false, eval (.BinOp a o b pos) env) :: starEach es env := by rw [starEach]; intro e p z; cases z
theorem star_UnaryOp {a : Expr} {o : UnaryOp} : starEach (.UnaryOp o a pos :: es) env = (false, eval (.UnaryOp o a pos) env) :: starEach es env := by rw [starEach]; intro e p z; cases z
theorem star_Call {f : Expr} {a : List Expr} {k : List Keyword} : starEach (.Call f a k pos :: es) env = (false, eval (.Call f a k pos) env) :: starEach es env := by rw [starEach]; intro e p z; cases z
theorem star_Subscript {a b : Expr} : starEach (.Subscript a b pos :: es) env = (false, eval (.Subscript a b pos) env) :: starEach es env := by rw [starEach]; intro e p z; cases z
end
theorem same_new {H : Hp} {p : Addr} (h : H p = none) (o : HO) : Same H (upd H p o) := fun b u q => by rw [upd_ne (ne_of_none q h)]; exact q
theorem Same.seqT {K : PySem.W.Frag} {H H' : Hp} {a : Addr} {xs : List V} (e : Same H H') (h : SqT K H a xs) : SqT K H' a xs := by
  rcases h with (h | ⟨o, h⟩) | h
  · exact .inl (.inl (e _ _ h))
  · exact .inl (.inr ⟨o, e _ _ h⟩)
  · exact .inr h
theorem TyOf.same {K : PySem.W.Frag} {H H' : Hp} {v : V} {t : Value} (ty : TyOf K H v t) (e : Same H H') : TyOf K H' v t := by
  cases ty with
  | non => exact .non
  | bl x => exact .bl x
  | int i => exact .int i
  | str x => exact .str x
  | flt x => exact .flt x
  | lst h => exact .lst (e _ _ h)
  | frz h => exact .frz (e _ _ h)
  | tup h => exact .tup (e _ _ h)
  | dK h => exact .dK (e _ _ h)
  | dT h => exact .dT (e _ _ h)
  | ins h cl ha hn htk hm => exact .ins (e _ _ h) cl ha hn htk hm
/-- the kinds of things that are drawn -/
inductive Kind : String → Bool → Bool → Bool → Prop where
  | non : Kind "NoneType" false false false
  | bl : Kind "bool" true true false
  | int : Kind "int" true false false
  | str : Kind "str" false false false
  | lst : Kind "list" false false false
  | tup : Kind "tuple" false false true
  | dct : Kind "dict" false false false
theorem Kind.kit_int {K : PySem.W.Frag} {t : String} {i b u : Bool} (k : Kind t i b u) : PySem.W.kitOne K (.type t) (.type "int") = some i := by
  cases k <;> kernel_rfl
theorem Kind.kit_bool {K : PySem.W.Frag} {t : String} {i b u : Bool} (k : Kind t i b u) : PySem.W.kitOne K (.type t) (.type "bool") = some b := by
  cases k <;> kernel_rfl
theorem Kind.kit_tuple {K : PySem.W.Frag} {t : String} {i b u : Bool} (k : Kind t i b u) : PySem.W.kitOne K (.type t) (.type "tuple") = some u := by
  cases k <;> kernel_rfl
def isI : V → Bool
  | .int _ => true
  | _ => false
/-- a thing: of one of these kinds -/
def Thing (K : PySem.W.Frag) (H : Hp) (v : V) : Prop := ∃ t i b u, Kind t i b u ∧ TyOf K H v (.type t) ∧ (i && !b) = isI v
theorem Thing.same {K : PySem.W.Frag} {H H' : Hp} {v : V} (h : Thing K H v) (e : Same H H') : Thing K H' v := by
  obtain ⟨t, i, b, u, k, ty, q⟩ := h
  exact ⟨t, i, b, u, k, ty.same e, q⟩
section
variable {K : PySem.W.Frag} {H : Hp}
theorem Thing.int (i : Int) : Thing K H (.int i) := ⟨_, _, _, _, .int, .int i, rfl⟩
end
/-- is_whole, _law_number: of any thing -/
def spWhole (K : PySem.W.Frag) : Sp := fun vs H Q _ => ∃ v, vs = [v] ∧ Thing K H v ∧ Q (.bl (isI v)) H
/-- a cell of the script -/
def spCell (K : PySem.W.Frag) : Sp := fun vs H Q _ => ∃ (a : Addr) (ns : List Int) (k : Nat), vs = [.ref a, .int (k : Int)] ∧ SqL K H a (ns.map V.int) ∧ Q (.int (ns.getD k 0)) H
theorem small {n : Nat} (h : n ≤ 1000) : n ≤ sizeLine := Nat.le_of_lt (small1000 h)
theorem small9 {n : Nat} (h : n ≤ 8000) : n < sizeLine := Nat.lt_of_le_of_lt h (by decide)
theorem cell_there {ns : List Int} {k : Nat} (h : k < ns.length) : atI (ns.map V.int) (k : Int) = some (.int (ns.getD k 0)) := by
  refine atI_nat ?_
  rw [List.getElem?_map, List.getElem?_eq_getElem h, List.getD_eq_getElem?_getD, List.getElem?_eq_getElem h]
  rfl
theorem cell_none {ns : List Int} {k : Nat} (h : ¬ k < ns.length) : ns.getD k 0 = 0 := by
  rw [List.getD_eq_getElem?_getD, List.getElem?_eq_none (by omega)]
  rfl
/-- the item of a written list at a rest -/
theorem at_rest {xs : List V} {i : Int} {P : V → Prop} (h0 : 0 ≤ i) (h1 : i < (xs.length : Int)) (h : ∀ v ∈ xs, P v) : ∃ v, atI xs i = some v ∧ P v := by
  have hk : i.toNat < xs.length := by omega
  have ek : i = ((i.toNat : Nat) : Int) := by omega
  refine ⟨xs[i.toNat], ?_, h _ (List.getElem_mem hk)⟩
  have q : atI xs ((i.toNat : Nat) : Int) = some xs[i.toNat] := atI_nat (List.getElem?_eq_getElem hk)
  rw [← ek] at q
  exact q
/-- a test upon ints that is known -/
theorem iteI {a b : Int} {A B : Prop} (h1 : a = b → A) (h2 : a ≠ b → B) : if decide (V.int a = V.int b) = true then A else B := by
  rw [dec_int]
  by_cases h : a = b
  · rw [h, beq_self_eq_true]
    exact iteT (h1 h)
  · rw [beq_eq_false_iff_ne.mpr h]
    exact iteF (h2 h)
theorem iteL {a b : Int} {A B : Prop} (h1 : a < b → A) (h2 : ¬ a < b → B) : if decide (a < b) = true then A else B :=
  ite2 (fun h => h1 (of_decide_eq_true h)) fun h => h2 fun z => h (decide_eq_true z)
/-- the loops with their ends as letters -/
theorem for_rangeN {lo : Int} {n : Nat} {g : TG} {tb : TS} {nx : St → Hp → Prop} {rt : VK} {σ : St} {H : Hp} (Pv : Nat → St → Hp → Prop) (h0 : Pv 0 σ H)
    (hs : ∀ i σ H, i < n → Pv i σ H → g (.int (lo + i)) σ H fun σ2 H2 => tb { nx := Pv (i + 1), rt := rt, bk := nx, ct := Pv (i + 1) } σ2 H2) (hd : ∀ σ H, Pv n σ H → nx σ H) :
    ∃ W : Nat → Nat → St → Hp → Prop, (∃ m, W 0 m σ H) ∧ ∀ i m σ H, W i m σ H →
      ((Itr lo n).stop i H ∧ nx σ H) ∨ ((Itr lo n).go i H ∧ ∃ N : St → Hp → Prop, (∀ σ' H', N σ' H' → ∃ m', m' < m ∧ W (i + 1) m' σ' H') ∧ ∀ x H', (Itr lo n).yld i H x H' → g x σ H' fun σ2 H2 => tb { nx := N, rt := rt, bk := nx, ct := N } σ2 H2) :=
  for_range (D := { nx := nx, rt := rt }) Pv h0 hs hd
end L2
set_option Elab.async false
set_option linter.all false
set_option maxRecDepth 100000
/-! RULES OF MY OWN over the layer: isinstance, bit_length, a range downwards, reversed, great products and quotients, an empty dict. -/
namespace L2
open PySem PySem.Spec PyProof.Rows
section
variable {X : Cx}
/-- isinstance(x, c), c a built-in type -/
def rInst (K : PySem.W.Frag) : List V → Hp → VK → Prop := fun xs H Q => ∃ (x : V) (n : String) (t : Value) (b : Bool), xs = [x, .ty n] ∧ TyOf K H x t ∧ PySem.W.kitOne K t (.type n) = some b ∧ Q (.bl b) H
theorem call_inst : CallR X (.builtin "isinstance") (rInst X.K) := by
  intro pins s σ H xs us Q I r h
  obtain ⟨x, n, t, b, rfl, ty, e, q⟩ := h
  obtain ⟨u, c, rfl, ru, rc⟩ := vals2 r
  cases (show c = Value.type n from rc)
  exact isinst_ok I ru ty e fun tk => ⟨.bl b, H, I.tok _, rfl, q⟩
/-- n.bit_length() -/
def rBitLen : V → List V → Hp → VK → Prop := fun x vs H Q => ∃ i : Int, x = .int i ∧ vs = [] ∧ Q (.int ((Builtin.Int.intBits i : Nat) : Int)) H
theorem mt_bitlen : MtR X "int.bit_length" rBitLen := by
  intro pins s σ H x xs v us Q I rx rs h
  obtain ⟨i, rfl, rfl, q⟩ := h
  cases rs
  obtain ⟨t, rfl⟩ := rx
  exact call_int_bit_length ⟨.int _, H, I.tok _, ⟨_, rfl⟩, q⟩
/-- products and quotients of great numbers -/
def CMulB (i j : Int) : Prop := LN.Bd 1000000 i ∧ LN.Bd 1000000 j
theorem CMulB.ok {i j : Int} (h : CMulB i j) : IntMulOk i j :=
  IntMulOk.of_bits (Nat.le_trans (intBits_le_iff.mpr h.1) (by decide)) (Nat.le_trans (intBits_le_iff.mpr h.2) (by decide))
theorem op_mulB : OpR X (binaryOp .Mult) (rI CMulB fun i j => .int (i * j)) := opI fun _ _ _ _ _ _ _ hc q => mul_int q hc.ok
def CDivB (_i j : Int) : Prop := 0 < j ∧ LN.Bd 8000 j
theorem op_fdivB : OpR X (binaryOp .FloorDiv) (rI CDivB fun i j => .int (i / j)) := opI fun i j _ _ _ _ _ hc q => by
  have h1 : (0 : Int) < j := hc.1
  exact floordiv_int (by omega) (by rw [Int.fdiv_eq_ediv_of_nonneg i (by omega)]; exact q) (.inl (PyProof.noPylong_of_log2 (Nat.lt_of_lt_of_le (hc.2.log2 (by decide)) (by decide))))
def CDivN2 (_i j : Int) : Prop := j ≠ 0 ∧ LN.Bd 8000 j
theorem op_fdivN2 : OpR X (binaryOp .FloorDiv) (rI CDivN2 fun i j => .int (i.fdiv j)) := opI fun i j _ _ _ _ _ hc q =>
  floordiv_int hc.1 q (.inl (PyProof.noPylong_of_log2 (Nat.lt_of_lt_of_le (hc.2.log2 (by decide)) (by decide))))
end
/-! ### a range downwards -/
/-- hi, hi - 1, .. (n of them) -/
def Itd (hi : Int) (n : Nat) : It := ⟨fun i _ => i < n, fun i H x H' => H' = H ∧ x = .int (hi - i), fun i _ => n ≤ i⟩
theorem turn_down {P : Program} {w : World} {K : PySem.W.Frag} {tg : Expr} (it : Addr) (hi : Int) (n : Nat) : Turn P w K tg (Itd hi n) [it] it (fun i h => IsRangeIter h it (hi + (i : Nat) * (-1)) ((n : Int) - (i : Nat)) (-1)) where
  mem := by simp
  obj := fun i h st b hb => by
    have e : b = it := by simpa using hb
    subst e
    exact ⟨_, st, fun v z => by
      have z' : Data.fields _ = Data.cell v := z
      cases z'⟩
  keep := fun i h h' st k => k it (by simp) _ st
  item := by
    intro X hP hw hK hc i pins s σ H E I hf st hg
    subst hP hw hK
    obtain ⟨f0, f1, f2, f3, f4, f5⟩ := hf it (by simp)
    have W := Walks.range (prog := X.prog) (w := X.w) (I.ok.hd hc) it hi (-1) n
    refine W.item i s _ _ hg st fun v h' tk hv st' kk => ?_
    obtain ⟨t, rfl⟩ := hv
    have I1 : Inv X pins σ H { s with heap := h', toks := tk } := I.turned (fun b o hb e => kk b o (by simpa using hb) e) f0 f1 f3 f4 f5
    refine ⟨_, rfl, go_of (s := { s with heap := h', toks := tk }) (n := "range_iterator") st' rfl rfl (by decide) ⟨.int (hi - i), H, I1, ⟨t, ?_⟩, ⟨rfl, rfl⟩, st', fun b hb => (hf b hb).1⟩⟩
    have e : hi + (i : Int) * (-1) = hi - i := by omega
    rw [e]
  done := by
    intro X hP hw hK hc i pins s σ H E I hf st hg
    subst hP hw hK
    obtain ⟨f0, f1, f2, f3, f4, f5⟩ := hf it (by simp)
    exact wpAny_pyNext_range_end (I.ok.hd hc) st (by have : n ≤ i := hg; omega) fun h' eb => ⟨rfl, I.turned (t' := s.toks) (fun b o hb e => eb b o hb e) f0 f1 f3 f4 f5⟩
  self := fun _ _ _ _ _ st h => wpAny_pyIter_rangeiter st h
section
variable {X : Cx} {tg : Expr}
theorem down_it {pins : List (Addr × Obj)} {σ : St} {H : Hp} {s : Shared} {R : It → Hp → Prop} {E : Value → Shared → Prop} {hi lo : Int} {t u v : Tok} {tk : Nat} (I : Inv X pins σ H s) (h1 : -(2 ^ 62) ≤ hi) (h2 : hi < 2 ^ 62) (h3 : -(2 ^ 62) ≤ lo) (h4 : lo < 2 ^ 62)
    (q : R (Itd hi (hi - lo).toNat) H) : wpAny (model X.prog X.w) X.A (pyIter (.ref s.heap.objs.size)) (PIE X pins σ tg R) E { s with heap := s.heap.push { cls := .type "range", data := .fields #[.int hi t, .int lo u, .int (-1) v] }, toks := tk } := by
  refine wpAny_pyIter_range (IsRange.new ..) (PySem.W.small_down h1 h2 h3 h4) ?_
  have I1 : Inv X pins σ H { s with heap := s.heap.push { cls := .type "range", data := .fields #[.int hi t, .int lo u, .int (-1) v] }, toks := tk } := I.kept fun b o e => Heap.get?_push_of_some _ e
  refine ⟨(s.heap.push { cls := .type "range", data := .fields #[.int hi t, .int lo u, .int (-1) v] }).objs.size, [(s.heap.push { cls := .type "range", data := .fields #[.int hi t, .int lo u, .int (-1) v] }).objs.size], _, _, H, rfl,
    I1.kept (t' := tk) fun b o e => Heap.get?_push_of_some _ e, turn_down _ hi (hi - lo).toNat, ?_, fun b hb => ?_, q⟩
  · have e1 : hi + ((0 : Nat) : Int) * (-1) = hi := by simp
    have e2 : (((hi - lo).toNat : Nat) : Int) - ((0 : Nat) : Int) = Builtin.Range.rangeSize hi lo (-1) := by rw [PySem.W.rangeSize_downNat]; omega
    show IsRangeIter _ _ (hi + ((0 : Nat) : Int) * (-1)) ((((hi - lo).toNat : Nat) : Int) - ((0 : Nat) : Int)) (-1)
    rw [e1, e2]
    exact Heap.get?_push_size _ rfl
  · have e : b = (s.heap.push { cls := .type "range", data := .fields #[.int hi t, .int lo u, .int (-1) v] }).objs.size := by simpa using hb
    subst e
    exact I1.fpOk (Nat.le_refl _) (I1.hok.fresh (Nat.le_refl _))
def iRngD (ta : TA) : TI := fun σ H R => ta σ H fun vs H1 => ∃ i j : Int, vs = [.int i, .int j, .int (-1)] ∧ (-(2 ^ 62) ≤ i ∧ i < 2 ^ 62 ∧ -(2 ^ 62) ≤ j ∧ j < 2 ^ 62) ∧ R (Itd i (i - j).toNat) H1
theorem pi_rangeD {a b c : Expr} {ta : TA} {p pos : Pos} (hg : Gl X "range") (hm : X.mg "range" = none) (ha : PA X [a, b, c] ta)
    (hs : starEach [a, b, c] X.env = (false, eval a X.env) :: starEach [b, c] X.env := by rfl) (hs2 : (backTo pos (starEach [b, c] X.env)).any (·.1) = false := by rfl) :
    PI X tg (.Call (.Name "range" p) [a, b, c] [] pos) (iRngD ta) := by
  intro pins s σ H R I h
  refine Call_ (ld_blt I hg hm boot_range (PyProof.Rows.callWith_type1 (thn (ha pos pins s σ H _ I h) fun us s1 ⟨vs, H1, I1, r1, q1⟩ => ?_) hs hs2))
  obtain ⟨i, j, e, ⟨q1, q2, q3, q4⟩, q⟩ := q1
  subst e
  cases r1 with
  | cons r rr =>
    cases rr with
    | cons r' rr =>
      cases rr with
      | cons r'' rr =>
        cases rr
        obtain ⟨t, rfl⟩ := r
        obtain ⟨t', rfl⟩ := r'
        obtain ⟨t'', rfl⟩ := r''
        exact call_range_3 (by decide) (down_it I1 q1 q2 q3 q4 q) (.inl (PyProof.noPylong_small (by decide)))
theorem for_down {hi : Int} {n : Nat} {g : TG} {tb : TS} {D : Ends} {σ : St} {H : Hp} (Pv : Nat → St → Hp → Prop) (h0 : Pv 0 σ H)
    (hs : ∀ i σ H, i < n → Pv i σ H → g (.int (hi - i)) σ H fun σ2 H2 => tb { D with nx := Pv (i + 1), ct := Pv (i + 1), bk := D.nx } σ2 H2) (hd : ∀ σ H, Pv n σ H → D.nx σ H) :
    ∃ W : Nat → Nat → St → Hp → Prop, (∃ m, W 0 m σ H) ∧ ∀ i m σ H, W i m σ H →
      ((Itd hi n).stop i H ∧ D.nx σ H) ∨ ((Itd hi n).go i H ∧ ∃ N : St → Hp → Prop, (∀ σ' H', N σ' H' → ∃ m', m' < m ∧ W (i + 1) m' σ' H') ∧ ∀ x H', (Itd hi n).yld i H x H' → g x σ H' fun σ2 H2 => tb { D with nx := N, ct := N, bk := D.nx } σ2 H2) := by
  refine ⟨fun i m σ H => m = n - i ∧ i ≤ n ∧ Pv i σ H, ⟨n, by simp, Nat.zero_le _, h0⟩, ?_⟩
  rintro i m σ H ⟨rfl, hi, p⟩
  by_cases hlt : i < n
  · refine .inr ⟨hlt, Pv (i + 1), fun σ' H' p' => ⟨n - (i + 1), by omega, rfl, hlt, p'⟩, fun x H' y => ?_⟩
    obtain ⟨e, y⟩ := y
    subst e y
    exact hs i σ _ hlt p
  · have e : i = n := by omega
    subst e
    exact .inl ⟨Nat.le_refl _, hd σ H p⟩
end
/-! ### reversed(a list) -/
/-- the list at a, xs of it, from behind -/
def Itv (K : PySem.W.Frag) (a : Addr) (xs : List V) : It :=
  ⟨fun i H => SqL K H a xs ∧ i < xs.length, fun i H x H' => H' = H ∧ xs[xs.length - 1 - i]? = some x, fun i H => SqL K H a xs ∧ xs.length = i⟩
theorem turn_rev {P : Program} {w : World} {K : PySem.W.Frag} {tg : Expr} (a it : Addr) (xs : List V) : Turn P w K tg (Itv K a xs) [it] it (fun i h => i ≤ xs.length ∧ h.IsRevIter it a ((xs.length : Int) - 1 - (i : Int))) where
  mem := by simp
  obj := fun i h st b hb => by
    have e : b = it := by simpa using hb
    subst e
    obtain ⟨_, o, e, c, d⟩ := st
    exact ⟨o, e, fun v z => by rw [d] at z; cases z⟩
  keep := fun i h h' st k => ⟨st.1, st.2.at fun o e => k it (by simp) o e⟩
  item := by
    intro X hP hw hK hc i pins s σ H E I hf st hg
    subst hP hw hK
    obtain ⟨hq, hi⟩ := hg
    obtain ⟨its, rv, p, hz⟩ := I.list hq
    have hx : xs[xs.length - 1 - i]? = some (xs[xs.length - 1 - i]'(by omega)) := List.getElem?_eq_getElem (by omega)
    obtain ⟨u, hu, ru⟩ := rv.get hx
    obtain ⟨f0, f1, f2, f3, f4, f5⟩ := hf it (by simp)
    obtain ⟨_, st⟩ := st
    have e : (xs.length : Int) - 1 - (i : Int) = ((xs.length - 1 - i : Nat) : Int) := by omega
    rw [e] at st
    refine wpAny_pyNext_rev_item st p.isList (x := u) (by simpa using hu) fun h' st' sb => ?_
    have e2 : ((xs.length - 1 - i : Nat) : Int) - 1 = (xs.length : Int) - 1 - ((i + 1 : Nat) : Int) := by omega
    rw [e2] at st'
    have I1 : Inv X pins σ H { s with heap := h' } := I.turned (t' := s.toks) (fun b o hb e => (sb.2 b hb).trans e) f0 f1 f3 f4 f5
    obtain ⟨o, e, c, d⟩ := id st'
    exact ⟨u, rfl, go_of (s := { s with heap := h' }) e c d (by decide) ⟨_, H, I1, ru, ⟨rfl, hx⟩, ⟨hi, st'⟩, fun b hb => (hf b hb).1⟩⟩
  done := by
    intro X hP hw hK hc i pins s σ H E I hf st hg
    subst hP hw hK
    obtain ⟨hq, hi⟩ := hg
    obtain ⟨f0, f1, f2, f3, f4, f5⟩ := hf it (by simp)
    obtain ⟨_, st⟩ := st
    have e : (xs.length : Int) - 1 - (i : Int) = -1 := by omega
    rw [e] at st
    exact wpAny_pyNext_rev_end (I.ok.hd hc) st fun h' eb => ⟨rfl, I.turned (t' := s.toks) (fun b o hb e => eb b o hb e) f0 f1 f3 f4 f5⟩
  self := fun _ _ _ _ _ st h => wpAny_pyIter_revIter st.2 h
section
variable {X : Cx} {tg : Expr}
def iRev (K : PySem.W.Frag) (ta : TA) : TI := fun σ H R => ta σ H fun vs H1 => ∃ a xs, vs = [.ref a] ∧ SqL K H1 a xs ∧ R (Itv K a xs) H1
theorem pi_rev {a : Expr} {ta : TA} {p pos : Pos} (hg : Gl X "reversed") (hm : X.mg "reversed" = none) (ha : PA X [a] ta) (hs : starEach [a] X.env = [(false, eval a X.env)] := by rfl) : PI X tg (.Call (.Name "reversed" p) [a] [] pos) (iRev X.K ta) := by
  intro pins s σ H R I h
  refine Call_ (ld_blt I hg hm boot_reversed (PyProof.Rows.callWith_type1 (thn (ha pos pins s σ H _ I h) fun us s1 ⟨vs, H1, I1, r1, q1⟩ => ?_) hs rfl))
  obtain ⟨l, xs, e, hq, q⟩ := q1
  subst e
  cases r1 with
  | cons r rr =>
    cases rr
    cases (show _ = Value.ref l from r)
    obtain ⟨its, rv, pl, hz⟩ := I1.list hq
    refine call_reversed_list pl.isList ?_
    have hl := rv.length
    have ho : (s1.heap.push (revObj l ((its.toArray.size : Int) - 1))).IsRevIter s1.heap.objs.size l ((its.toArray.size : Int) - 1) := ⟨_, Heap.get?_push_size _ rfl, rfl, rfl⟩
    refine wpAny_pyIter_revIter (s := { s1 with heap := s1.heap.push (revObj l ((its.toArray.size : Int) - 1)) }) ho ?_
    refine ⟨s1.heap.objs.size, [s1.heap.objs.size], _, _, H1, rfl, I1.kept (t' := s1.toks) fun b o e => Heap.get?_push_of_some _ e, turn_rev l _ xs, ⟨Nat.zero_le _, ?_⟩, fun b hb => ?_, q⟩
    · have e : (xs.length : Int) - 1 - ((0 : Nat) : Int) = (its.toArray.size : Int) - 1 := by rw [hl]; simp
      rw [e]
      exact ho
    · have e : b = s1.heap.objs.size := by simpa using hb
      subst e
      exact I1.fpOk (Nat.le_refl _) (I1.hok.fresh (Nat.le_refl _))
theorem for_rev {K : PySem.W.Frag} {a : Addr} {xs : List V} {g : TG} {tb : TS} {D : Ends} {σ : St} {H : Hp} (Pv : Nat → St → Hp → Prop) (h0 : Pv 0 σ H) (hl : ∀ i σ H, i ≤ xs.length → Pv i σ H → SqL K H a xs)
    (hs : ∀ i x σ H, xs[xs.length - 1 - i]? = some x → i < xs.length → Pv i σ H → g x σ H fun σ2 H2 => tb { D with nx := Pv (i + 1), ct := Pv (i + 1), bk := D.nx } σ2 H2) (hd : ∀ σ H, Pv xs.length σ H → D.nx σ H) :
    ∃ W : Nat → Nat → St → Hp → Prop, (∃ m, W 0 m σ H) ∧ ∀ i m σ H, W i m σ H →
      ((Itv K a xs).stop i H ∧ D.nx σ H) ∨ ((Itv K a xs).go i H ∧ ∃ N : St → Hp → Prop, (∀ σ' H', N σ' H' → ∃ m', m' < m ∧ W (i + 1) m' σ' H') ∧ ∀ x H', (Itv K a xs).yld i H x H' → g x σ H' fun σ2 H2 => tb { D with nx := N, ct := N, bk := D.nx } σ2 H2) := by
  refine ⟨fun i m σ H => m = xs.length - i ∧ i ≤ xs.length ∧ Pv i σ H, ⟨xs.length, by simp, Nat.zero_le _, h0⟩, ?_⟩
  rintro i m σ H ⟨rfl, hi, p⟩
  have q := hl i σ H hi p
  by_cases hlt : i < xs.length
  · refine .inr ⟨⟨q, hlt⟩, Pv (i + 1), fun σ' H' p' => ⟨xs.length - (i + 1), by omega, rfl, hlt, p'⟩, fun x H' y => ?_⟩
    obtain ⟨e, y⟩ := y
    subst e
    exact hs i x σ _ y hlt p
  · have e : i = xs.length := by omega
    subst e
    exact .inl ⟨⟨q, rfl⟩, hd σ H p⟩
end
end L2
set_option Elab.async false
set_option linter.all false
set_option maxRecDepth 100000
/-! The layer's judgements, wrapped: a structure is not unfolded when a long body is matched. -/
namespace L2
open PySem PySem.Spec PyProof.Rows
structure QE (X : Cx) (e : Expr) (t : TE) : Prop where
  ok : PE X e t
structure QT (X : Cx) (e : Expr) (t : TT) : Prop where
  ok : PT X e t
structure QW (X : Cx) (e : Expr) (t : TT) : Prop where
  ok : PW X e t
structure QA (X : Cx) (es : List Expr) (t : TA) : Prop where
  ok : PA X es t
structure QS (X : Cx) (st : Stmt) (t : TS) : Prop where
  ok : PS X st t
structure QSs (X : Cx) (st : List Stmt) (t : TS) : Prop where
  ok : PSs X st t
structure QI (X : Cx) (tg iter : Expr) (wi : TI) : Prop where
  ok : PI X tg iter wi
structure QG (X : Cx) (tg : Expr) (t : TG) : Prop where
  ok : PG X tg t
section
variable {X : Cx} {a b e o : Expr} {es rest : List Expr} {ta tb te : TE} {tA tB' : TT} {t : TA} {pos p cpos apos : Pos} {st : Stmt} {sts : List Stmt} {u v : TS}
theorem qpe_int {i j pos} : QE X (.Constant (.int i) j pos) (tC (.int i)) := ⟨pe_int⟩
theorem qpe_bl {b j pos} : QE X (.Constant (.bool b) j pos) (tC (.bl b)) := ⟨pe_bl⟩
theorem qpe_str {x j pos} : QE X (.Constant (.str x) j pos) (tC (.str x)) := ⟨pe_str⟩
theorem qpv (i : Nat) {x : Str} {pos : Pos} (hN : X.N[i]? = some x := by rfl) (hv : Vis X.env.scope x := by first | exact Or.inl rfl | exact Or.inr (Or.inl rfl) | exact Or.inr (Or.inr rfl)) (hd : (x == ("__debug__" : Str)) = false := by decide)
    (hcd : (x == ("__classdict__" : Str)) = false := by decide) : QE X (.Name x pos) (tVar i) := ⟨pe_var hN hv hd hcd⟩
theorem qpe_glob {x : Str} {v : V} {u : Value} {pos : Pos} (hg : Gl X x) (hm : X.mg x = some u) (r : RelV v u) (hd : (x == ("__debug__" : Str)) = false := by decide) : QE X (.Name x pos) (tC v) := ⟨pe_glob hg hm r hd⟩
theorem qpe_bltn {x : Str} {v : V} {u : Value} {pos : Pos} (hg : Gl X x) (hm : X.mg x = none) (hv : bootBuiltins x = some u) (r : RelV v u) (hn : x ≠ "__name__" := by decide) (hd : (x == ("__debug__" : Str)) = false := by decide) : QE X (.Name x pos) (tC v) := ⟨pe_bltn hg hm hv r hn hd⟩
theorem qpe_op {op : Operator} {r : R2} (ho : OpR X (binaryOp op) r) (ha : QE X a ta) (hb : QE X b tb) : QE X (.BinOp a op b pos) (tOp r ta tb) := ⟨pe_op ho ha.ok hb.ok⟩
theorem qpe_un {op : UnaryOp} {r : V → Hp → VK → Prop} (ho : UnR X (unaryOp op) r) (ha : QE X a ta) : QE X (.UnaryOp op a pos) (tUn r ta) := ⟨pe_un ho ha.ok⟩
theorem qpe_not (ha : QE X a ta) : QE X (.UnaryOp .Not a pos) (tNotV ta) := ⟨pe_not ha.ok⟩
theorem qpe_one {op} (h : QE X a ta) : QE X (.BoolOp op [a] pos) ta := ⟨pe_one h.ok⟩
theorem qpe_and (ha : QE X a ta) (hb : QE X (.BoolOp .And (b :: rest) pos) tb) : QE X (.BoolOp .And (a :: b :: rest) pos) (tAndV ta tb) := ⟨pe_and ha.ok hb.ok⟩
theorem qpe_cmpR {op : CmpOp} {r : R2} (ho : OpR X (compareOp op) r) (ha : QE X a ta) (hb : QE X b tb) (hm : behindInMarks op b = false) : QE X (.Compare a [op] [b] pos) (tOp r ta tb) := ⟨pe_cmpR ho ha.ok hb.ok hm⟩
theorem qpt_cmpR {op : CmpOp} {r : R2} (ho : OpR X (compareOp op) r) (ha : QE X a ta) (hb : QE X b tb) (hm : behindInMarks op b = false) : QT X (.Compare a [op] [b] pos) (tTest (tOp r ta tb)) := ⟨pt_cmpR ho ha.ok hb.ok hm⟩
theorem qpt_val (h : QE X e te) (he : ∀ whole, isTrue e X.env whole = (do let v ← whole; standAt e.pos; holding [v] (truthy v)) := by intro _; rfl) : QT X e (tB te) := ⟨pt_val h.ok he⟩
theorem qpt_not (ha : QT X a tA) : QT X (.UnaryOp .Not a pos) (tNot tA) := ⟨pt_not ha.ok⟩
theorem qpw_and1 (ha : QT X a tA) : QW X (.BoolOp .And [a] pos) tA := ⟨pw_and1 ha.ok⟩
theorem qpw_or1 (ha : QT X a tA) : QW X (.BoolOp .Or [a] pos) tA := ⟨pw_or1 ha.ok⟩
theorem qpw_and (ha : QT X a tA) (hb : QW X (.BoolOp .And (b :: rest) pos) tB') : QW X (.BoolOp .And (a :: b :: rest) pos) (tAnd tA tB') := ⟨pw_and ha.ok hb.ok⟩
theorem qpw_or (ha : QT X a tA) (hb : QW X (.BoolOp .Or (b :: rest) pos) tB') : QW X (.BoolOp .Or (a :: b :: rest) pos) (tOr tA tB') := ⟨pw_or ha.ok hb.ok⟩
theorem QW.pt (h : QW X e tA) : QT X e tA := ⟨PW.pt h.ok⟩
theorem qpa_nil : QA X [] tNil := ⟨pa_nil⟩
theorem qpa_cons (ha : QE X e te) (hr : QA X es t) (hs : starEach (e :: es) X.env = (false, eval e X.env) :: starEach es X.env := by rfl) : QA X (e :: es) (tCons te t) := ⟨pa_cons ha.ok hr.ok hs⟩
theorem qpe_tup {x1} (h : QA X es t) : QE X (.Tuple es x1 pos) (tTup t) := ⟨pe_tup h.ok⟩
theorem qpe_lst (h : QA X es t) : QE X (.List es pos) (tLst t) := ⟨pe_lst h.ok⟩
theorem qpe_ix {r : R2} (hr : IxR X r) (ha : QE X a ta) (hb : QE X b tb) (hs : PlainIx b) : QE X (.Subscript a b pos) (tOp r ta tb) := ⟨pe_ix hr ha.ok hb.ok hs⟩
theorem qpe_call {CX : CXT} {k : Nat} {f : Addr} {fd : FuncData} {ps : List Str} {sp : Sp} {dvs : List V} {ds : List Value} {E : XK} {x : Str} (F : FnOk X.prog X.w X.K X.mg X.base CX k f fd ps sp) (hr : Room k X.A) (hg : Gl X x) (hm : X.mg x = some (.ref f)) (hk : PySem.W.keepIn X.K (.ref f) = true) (hb : Binds X.K fd ps ds) (hd : Vals dvs ds) (hx : Passes CX X E)
    (ha : QA X (e :: es) t) (hdb : (x == ("__debug__" : Str)) = false := by decide) (he : starEach (e :: es) X.env = (false, eval e X.env) :: starEach es X.env := by rfl) (hpl : (backTo pos (starEach es X.env)).any (·.1) = false := by rfl) :
    QE X (.Call (.Name x p) (e :: es) [] pos) (tCall sp dvs E t) := ⟨pe_call F hr hg hm hk hb hd hx ha.ok hdb he hpl⟩
theorem qpe_callB {id : String} {x : Str} {r : List V → Hp → VK → Prop} (hc : CallR X (.builtin id) r) (hg : Gl X x) (hm : X.mg x = none) (hv : bootBuiltins x = some (.builtin id)) (ha : QA X (e :: es) t) (hn : x ≠ "__name__" := by decide) (hdb : (x == ("__debug__" : Str)) = false := by decide)
    (he : starEach (e :: es) X.env = (false, eval e X.env) :: starEach es X.env := by rfl) (hpl : (backTo pos (starEach es X.env)).any (·.1) = false := by rfl) : QE X (.Call (.Name x p) (e :: es) [] pos) (tCB r t) := ⟨pe_callB hc hg hm hv ha.ok hn hdb he hpl⟩
theorem qpe_bm0 {T id : String} {name : Str} {to : TE} {r : V → List V → Hp → VK → Prop} (pa : PlainAttrs T) (slot : Slot T name id) (hty : typeOf (.builtin id) = pure (.type "method_descriptor")) (hm : MtR X id r) (ho : QE X o to)
    (hbase : attributeBase o name X.env (eval o X.env) = eval o X.env := by rfl) (hline : (apos.endLine == cpos.line) = true := by rfl) : QE X (.Call (.Attribute o name apos) [] [] cpos) (tBM0 X.K T r to) := ⟨pe_bm0 pa slot hty hm ho.ok hbase hline⟩
theorem qpe_bm {T id : String} {name : Str} {to : TE} {r : V → List V → Hp → VK → Prop} (pa : PlainAttrs T) (slot : Slot T name id) (hty : typeOf (.builtin id) = pure (.type "method_descriptor")) (hm : MtR X id r) (ho : QE X o to) (ha : QA X (e :: es) t)
    (hbase : attributeBase o name X.env (eval o X.env) = eval o X.env := by rfl)
    (hfew : ((backTo cpos (starEach (e :: es) X.env)).all (fun x => !x.1) && (backToKw cpos (keywordEach [] X.env)).all (fun x => x.1.isSome)
      && decide ((e :: es).length + ([] : List Keyword).length + (if ([] : List Keyword).isEmpty then 0 else 1) < 30)) = true := by rfl)
    (hline : (apos.endLine == cpos.line) = true := by rfl) (hs : starEach (e :: es) X.env = (false, eval e X.env) :: starEach es X.env := by rfl) (hplain : (backTo cpos (starEach es X.env)).any (·.1) = false := by rfl) :
    QE X (.Call (.Attribute o name apos) (e :: es) [] cpos) (tBM X.K T r to t) := ⟨pe_bm pa slot hty hm ho.ok ha.ok hbase hfew hline hs hplain⟩
theorem qpss_nil : QSs X [] tNext := ⟨pss_nil⟩
theorem qpss_cons (h1 : QS X st u) (h2 : QSs X sts v) : QSs X (st :: sts) (tSeq u v) := ⟨pss_cons h1.ok h2.ok⟩
theorem qpss_one (h1 : QS X st u) : QSs X [st] u := ⟨pss_one h1.ok⟩
theorem qps_never : QS X st tNever := ⟨ps_never⟩
theorem qps_expr (he : QE X e te) (hs : swapsWith e none pos.line X.env = pure false := by rfl) : QS X (.Expr e pos) (tDrop te) := ⟨ps_expr he.ok hs⟩
theorem qps_ret (he : QE X e te) : QS X (.Return (some e) pos) (tRet te) := ⟨ps_ret he.ok⟩
theorem qps_if {c : Expr} {a b : List Stmt} {tc : TT} (hc : QT X c tc) (ha : QSs X a u) (hb : QSs X b v) : QS X (.If c a b pos) (tIfS tc u v) := ⟨ps_if hc.ok ha.ok hb.ok⟩
theorem qps_set {i : Nat} {x : Str} {pos' : Pos} (hN : X.N.Nodup) (hi : X.N[i]? = some x) (hx : Loc X.env.scope x) (he : QE X e te) (hs : swapsWith e (some (.Name x pos')) pos.line X.env = pure false := by rfl) (hf : X.fn x = true ∨ X.env.scope.names.lookup x = some .local := by first | exact .inl rfl | exact .inr rfl | assumption) :
    QS X (.Assign [.Name x pos'] e pos) (tAsg te (gName i)) := ⟨ps_set hN hi hx he.ok hs hf⟩
theorem qps_par {i j : Nat} {x y : Str} {ta : TA} {px py pt : Pos} {kt k2 pt2} (hc : X.calm = true) (hN : X.N.Nodup) (hi : X.N[i]? = some x) (hj : X.N[j]? = some y) (hij : i ≠ j)
    (hx : X.env.scope.names.lookup x = some .local) (hy : X.env.scope.names.lookup y = some .local) (ha : QA X [a, b] ta)
    (hw : swappedStores [.Tuple [.Name x px, .Name y py] kt pt] (.Tuple [a, b] k2 pt2) X.env = pure (some [x, y]))
    (hs : swapsWithSole [.Tuple [.Name x px, .Name y py] kt pt] (.Tuple [a, b] k2 pt2) pos.line X.env = pure false := by rfl) :
    QS X (.Assign [.Tuple [.Name x px, .Name y py] kt pt] (.Tuple [a, b] k2 pt2) pos) (tPar i j ta) := ⟨ps_par hc hN hi hj hij hx hy ha.ok hw hs⟩
theorem qpg_name {i : Nat} {x : Str} (hN : X.N.Nodup) (hi : X.N[i]? = some x) (hx : Loc X.env.scope x) (hf : X.fn x = true ∨ X.env.scope.names.lookup x = some .local := by first | exact .inl rfl | exact .inr rfl | assumption) : QG X (.Name x pos) (gName i) := ⟨pg_name hN hi hx hf⟩
theorem qps_while {c : Expr} {body : List Stmt} {tc : TT} (hp : PassesOwn (model X.prog X.w) X.A X.env X.xe) (hc : QT X c tc) (hb : QSs X body u) : QS X (.While c body [] pos) (tWhile tc u) := ⟨ps_while hp hc.ok hb.ok⟩
theorem qps_for {tg iter : Expr} {body : List Stmt} {wi : TI} {g : TG} (hp : PassesOwn (model X.prog X.w) X.A X.env X.xe) (hc : X.calm = true) (hi : QI X tg iter wi) (hg : QG X tg g) (hb : QSs X body u)
    (hs : ∀ x, foldedSetIterable iter X.env x = pure x := by intro _; rfl) : QS X (.For tg iter body [] pos) (tFor wi g u) := ⟨ps_for hp hc hi.ok hg.ok hb.ok hs⟩
theorem qpi_list {tg l : Expr} {tl : TE} (hl : QE X l tl) : QI X tg l (iList X.K tl) := ⟨pi_list hl.ok⟩
theorem qpi_range1 {tg : Expr} (hg : Gl X "range") (hm : X.mg "range" = none) (ha : QA X [a] t) (hs : starEach [a] X.env = [(false, eval a X.env)] := by rfl) : QI X tg (.Call (.Name "range" p) [a] [] pos) (iRng1 t) := ⟨pi_range1 hg hm ha.ok hs⟩
theorem qpi_rangeD {tg c : Expr} (hg : Gl X "range") (hm : X.mg "range" = none) (ha : QA X [a, b, c] t)
    (hs : starEach [a, b, c] X.env = (false, eval a X.env) :: starEach [b, c] X.env := by rfl) (hs2 : (backTo pos (starEach [b, c] X.env)).any (·.1) = false := by rfl) :
    QI X tg (.Call (.Name "range" p) [a, b, c] [] pos) (iRngD t) := ⟨pi_rangeD hg hm ha.ok hs hs2⟩
theorem qpi_rev {tg : Expr} (hg : Gl X "reversed") (hm : X.mg "reversed" = none) (ha : QA X [a] t) (hs : starEach [a] X.env = [(false, eval a X.env)] := by rfl) : QI X tg (.Call (.Name "reversed" p) [a] [] pos) (iRev X.K t) := ⟨pi_rev hg hm ha.ok hs⟩
end
section
variable {P : Program} {w : World} {K : PySem.W.Frag} {mg : Str → Option Value} {base : Heap}
theorem Fun.okq {x qual : Str} {st : Stmt} {f : Addr} {fd : FuncData} {N ps : List Str} {k : Nat} {sp : Sp} (F : Fun K x qual st f fd) (S : FnScope N ps (defScope st)) (len : ∀ vs H Q E, sp vs H Q E → vs.length = ps.length)
    (hbody : ∀ (cdv : Value) (A : Around) (outer : List Env) (s : Shared) (H : Hp) (vs : List V) (Q : VK) (E : XK), Room k (A.deeper (envOfC qual (defScope st) s.heap.objs.size f cdv)) → sp vs H Q E →
      ∃ t, QSs (cxOf CX0 P w K mg base N qual (defScope st) f cdv A outer s H E).nox (defBody st) t ∧ t { nx := fun _ H' => Q .non H', rt := Q } (start N vs) H) : FnOk P w K mg base CX0 (k + 1) f fd ps sp :=
  F.ok S len fun cdv A outer s H vs Q E hr h => by
    obtain ⟨t, h1, h2⟩ := hbody cdv A outer s H vs Q E hr h
    exact ⟨t, h1.ok, h2⟩
end
end L2
set_option Elab.async false
set_option linter.all false
set_option maxRecDepth 100000
/-! EXCEPTIONS OF ONE'S OWN over the layer: raised, passing a frame, caught by their very class. -/
namespace L2
open PySem PySem.Spec PyProof.Rows
section
variable {P : Program} {w : World} {H : Hp} {h h' : Heap} {a e T : Addr} {o : HO} {l : List Env}
theorem ObjOk.got (x : ObjOk P w H h a o) : ∃ ob, h.get? a = some ob := by
  induction o with
  | lst xs => obtain ⟨_, its, n, _, q⟩ := x; exact ⟨_, q⟩
  | tup xs => obtain ⟨_, its, _, ob, q, _⟩ := x; exact ⟨_, q⟩
  | dK kvs => obtain ⟨_, _, vs, _, ob, es, ep, q, _⟩ := x; exact ⟨_, q⟩
  | dT kvs => obtain ⟨_, _, xs, _, ob, es, ep, q, _⟩ := x; exact ⟨_, q⟩
  | set S n => obtain ⟨ob, es, ep, t, q, _⟩ := x; exact ⟨_, q⟩
  | ins C dx fs => obtain ⟨_, _, _, q, _⟩ := x; exact ⟨_, q⟩
  | own y => exact x
  | xd fs => obtain ⟨mA, ⟨od, es, ep, q, _⟩, _⟩ := x; exact ⟨_, q⟩
  | rng lo hi => obtain ⟨t, u, v, q⟩ := x; exact ⟨_, q⟩
  | frz ob u ih => obtain ⟨q, _⟩ := x; exact ⟨_, q⟩
  | tbl ps => exact ⟨_, (show h.get? a = some _ from x)⟩
  | met f y => exact ⟨_, (show h.get? a = some _ from x)⟩
  | ext p => obtain ⟨_, q, _⟩ := x; exact q
theorem HOk.none_of (x : HOk P w H h) (q : h.get? a = none) : H a = none := by
  cases z : H a with
  | none => rfl
  | some o =>
    obtain ⟨ob, r⟩ := (x a o z).got
    rw [q] at r
    cases r
/-- frames are untracked and hold no record -/
def FrOk (H : Hp) (h : Heap) (l : List Env) : Prop := ∀ b ∈ frs l, H b = none ∧ ∃ o, h.get? b = some o ∧ ∀ vs, o.data ≠ .fields vs
/-- all but frames, the exception and its trace are as they were; the frames up to their slots -/
structure Lands (as : List Addr) (l : List Env) (h h' : Heap) : Prop where
  st : (PySem.W.hideAll h (as ++ frs l)).StaysIn h'
  up : h.UpToSlots h'
theorem Lands.keep {as : List Addr} (L : Lands as l h h') {b : Addr} {o : Obj} (q : h.get? b = some o) (h1 : b ∉ as) (h2 : b ∉ frs l) : h'.get? b = some o :=
  L.st b o (PySem.W.hideAll_get _ q fun z => (List.mem_append.mp z).elim h1 h2)
theorem Lands.slot {as : List Addr} (L : Lands as l h h') (F : FrOk H h l) {b : Addr} {o : Obj} (q : h.get? b = some o) (h2 : b ∈ frs l) : ∃ sl, h'.get? b = some { o with slots := sl } := by
  obtain ⟨_, o', q', d⟩ := F b h2
  rw [q] at q'
  cases q'
  exact L.up b o q d
theorem Lands.hok {as : List Addr} (L : Lands as l h h') (F : FrOk H h l) (has : ∀ b ∈ as, H b = none) (x : HOk P w H h) : HOk P w H h' := fun a o ea =>
  (x a o ea).stay (fun b u hb q => by
    have hn : H b ≠ none := by
      rcases hb with z | z
      · rw [z, ea]; intro y; cases y
      · rw [z]; intro y; cases y
    exact L.keep q (fun z => hn (has b z)) fun z => hn (F b z).1) (fun _ q => q) fun _ _ q => q
/-- an exception in flight -/
structure Fly (H : Hp) (hs : Heap) (e : Addr) (cls : Value) (T : Addr) (h : Heap) : Prop where
  ob : ∃ oe vs oT ts a0, h.get? e = some oe ∧ (oe.cls = cls ∧ vs[0]? = some a0) ∧ oe.data = .fields vs ∧ vs[1]? = some (.ref T) ∧ h.get? T = some oT ∧ oT.data = .fields ts ∧ ts[3]? = some .none
  ne : T ≠ e
  e0 : hs.get? e = none
  t0 : hs.get? T = none
  eH : H e = none
  tH : H T = none
theorem Fly.flying {hs : Heap} {cls : Value} (F : Fly H hs e cls T h) {l : List Env} {base : Heap} (fr : h.FunFrames base l) :
    ∃ a0, Heap.FlyingW (PySem.W.hideAll h ([e, T] ++ frs l)) l e cls a0 h := by
  obtain ⟨oe, vs, oT, ts, a0, q1, q2, q3, q4, q5, q6, q7⟩ := F.ob
  refine ⟨a0, fun b o q => PySem.W.of_hideAll _ q, PySem.W.hideAll_none _ (by simp), ?_, oe, vs, T, oT, ts, q1, q2, q3, q4, PySem.W.hideAll_none _ (by simp), F.ne, q5, q6, q7⟩
  exact PySem.W.funFrames_hide fr fun env he a ha => List.mem_append_right _ (List.mem_filterMap.mpr ⟨env, he, ha⟩)
end
/-- how an exception lies behind a call -/
def CX1 (P : Program) (w : World) : CXT := fun outer H s E ev s' =>
  ∃ (e T : Addr) (cls : Value) (H' : Hp), ev = .ref e ∧ s'.os = s.os ∧ AllBare s'.gens ∧ Un (frs outer) [] H H' s.heap s'.heap ∧ HOk P w H' s'.heap ∧ Fly H' s.heap e cls T s'.heap ∧ E cls none H'
section
variable {X : Cx} {pins : List (Addr × Obj)} {σ : St} {H H' : Hp} {s s' : Shared} {h' : Heap}
theorem Inv.frOk (I : Inv X pins σ H s) : FrOk H s.heap X.stack := fun b hb => ⟨I.stkFree b hb, (I.stack.mem hb).2⟩
theorem un_lands {fs : List Env} {as : List Addr} {hs h h' : Heap} {H0 H : Hp} (u : Un (frs fs) [] H0 H hs h) (L : Lands as fs h h') (F : FrOk H h fs) (has : ∀ b ∈ as, hs.get? b = none) : Un (frs fs) [] H0 H hs h' where
  keep := fun b o q n hb hx => L.keep (u.keep b o q n hb hx) (fun z => by rw [has b z] at q; cases q) hb
  slot := fun b o q n hb hx => by
    obtain ⟨sl, q1⟩ := u.slot b o q n hb hx
    obtain ⟨sl', q2⟩ := L.slot F q1 hb
    exact ⟨sl', q2⟩
  free := u.free
  there := fun b o q hx => by
    obtain ⟨o', q1⟩ := u.there b o q hx
    by_cases hb : b ∈ frs fs
    · obtain ⟨sl', q2⟩ := L.slot F q1 hb
      exact ⟨_, q2⟩
    · exact ⟨o', L.keep q1 (fun z => by rw [has b z] at q; cases q) hb⟩
  tups := u.tups
  frzs := u.frzs
  tbls := u.tbls
end
/-! ### leaving a def's body -/
section
variable {P : Program} {w : World} {K : PySem.W.Frag} {mg : Str → Option Value} {base : Heap} {N : List Str} {qual : Str} {scope : Scope} {f : Addr} {cd : Value} {A : Around} {outer : List Env} {s0 : Shared} {H0 : Hp} {E : XK}
  {pins : List (Addr × Obj)} {σ : St} {H H' : Hp} {s s' : Shared} {h' : Heap} {e T : Addr} {cls : Value}
end
end L2
set_option Elab.async false
set_option linter.all false
set_option maxRecDepth 100000
/-! raise, try -/
namespace L2
open PySem PySem.Spec PyProof.Rows
/-- the bases of ValueError, itself first -/
abbrev bmVE : List Value := [.type "ValueError", .type "Exception", .type "BaseException", .type "object"]
theorem own_cls {K : PySem.W.Frag} {h : Heap} {mg : Str → Option Value} {x : Str} {C : Addr} {bmB : List Value} {newId : String} (X : K.In h) (hm : mg x = some (.ref C)) (q : PySem.W.excIn K C bmB newId = true) : OwnCls x C bmB newId mg h := by
  refine ⟨hm, ?_⟩
  unfold PySem.W.excIn at q
  split at q
  · rename_i dd cd sl ho
    split at q
    · rename_i C' bm k0 k1 k2 k3 n k5 hm hs
      simp only [Bool.and_eq_true, beq_iff_eq, Bool.not_eq_true'] at q
      obtain ⟨⟨⟨⟨⟨rfl, rfl⟩, hdel⟩, ht⟩, hok⟩, hni⟩ := q
      obtain ⟨nm, bs, mro, ns, qn, hd, sn, sub, ab, col, del⟩ := cd
      dsimp only at hm hdel hok hni
      subst hm hdel
      have hsl : sl = #[k0, k1, k2, k3, some (.builtin n), k5] := by
        obtain ⟨l⟩ := sl
        simp only at hs
        rw [hs]
      subst hsl
      exact ⟨bm, ns, nm, qn, bs, hd, sn, sub, ab, col, dd, k0, k1, k2, k3, k5, _, X _ _ ho, .of_isNs (PySem.W.isNs_of_in X hok), PySem.W.nsMap_none_of_in X hok hni, PySem.W.tail_of_in X ht⟩
    · cases q
  · cases q
def tRaise (E : XK) (C : Addr) (ta : TA) : TS := fun _ σ H => ta σ H fun vs H1 => vs.length ≤ sizeLine ∧ E (.ref C) none H1
/-- what a made exception does to the body that raises it -/
def Throws (X : Cx) (E : XK) (C : Addr) : Prop := ∀ (pins : List (Addr × Obj)) (σ : St) (H : Hp) (s : Shared) (h' : Heap) (e : Addr) (vs : List Value), Inv X pins σ H s → Heap.MadeExcOf s.heap h' e (.ref C) vs → E (.ref C) none H → X.xe (.ref e) { s with heap := h' }
section
variable {X : Cx} {x y : Str} {C : Addr} {a : Expr} {es : List Expr} {ta : TA} {np cpos pos epos hpos p : Pos} {E : XK}
theorem qps_raise (hx : Throws X E C) (hg : Gl X x) (hm : X.mg x = some (.ref C)) (q : PySem.W.excIn X.K C bmVE "ValueError.__new__" = true) (hc : X.calm = true) (ha : QA X (a :: es) ta)
    (he : starEach (a :: es) X.env = (false, eval a X.env) :: starEach es X.env := by rfl) (hpl : (backTo cpos (starEach es X.env)).any (·.1) = false := by rfl) (hd : (x == ("__debug__" : Str)) = false := by decide) :
    QS X (.Raise (some (.Call (.Name x np) (a :: es) [] cpos)) none pos) (tRaise E C ta) := ⟨by
  intro pins s σ H D I h
  obtain ⟨tl, N, nm, qn, bs, hdct, sn, sub, ab, col, dd, k0, k1, k2, k3, k5, mN, hC, hN, hni, T⟩ := (own_cls (h := X.base) I.ok.mod.kin hm q).obj
  refine wpAny_Raise_call_subT (C := C) (nm := nm) (q := qn) (N := N) (bs := bs) (bm := tl) (hdct := hdct) (sn := sn) (sub := sub) (ab := ab) (col := col) (dd := dd) (k0 := k0) (k1 := k1) (k2 := k2) (k3 := k3) (k5 := k5)
    PySem.F.excBase_ValueError (mN := mN) (T.hasType PySem.F.excBase_ValueError.hasBase) (I.ok.hd hc) (by rw [he]; show (false || (backTo cpos (starEach es X.env)).any (·.1)) = false; rw [hpl]; rfl) hni (ld_glob I hg hm ⟨rfl, ?_⟩ hd)
  have hA := ha.ok cpos pins s σ H _ I h
  rw [he] at hA ⊢
  refine Calls.evalArgs_plain (thn hA fun us s2 ⟨vs, H1, I1, r, z, qE⟩ => ?_)
  refine ⟨rfl, by rw [← r.length]; exact z, I1.bk _ _ hC, hN.keeps I1.bk, T.keeps I1.bk, fun h' e hx' => hx pins σ H1 s2 h' e _ I1 hx' qE⟩⟩
end
/-- within an except suite -/
abbrev Cx.marked (X : Cx) (ev : Value) : Cx := { X with A := X.A.mark (some ev), calm := false }
section
variable {X : Cx} {pins : List (Addr × Obj)} {σ : St} {H : Hp} {s : Shared} {ev : Value}
theorem Cx.Ok.marked (ok : X.Ok) : (X.marked ev).Ok :=
  ⟨ok.mod, ok.kind, ok.glob, ok.blt, ok.above, ok.inj, ok.has, ok.cab, fun z => (nomatch z), ok.frames, ok.stk, ok.exf, ok.bs, ok.bsz, ok.noex, ok.exfs, ok.funs, ok.frf⟩
theorem Inv.marked (I : Inv X pins σ H s) : Inv (X.marked ev) pins σ H s := ⟨I.ok.marked, I.os, I.bare, I.base, I.loc, I.cell, I.free, I.freeC, I.pin, I.hok, I.len⟩
theorem Inv.unmarked (I : Inv (X.marked ev) pins σ H s) (ok : X.Ok) : Inv X pins σ H s := ⟨ok, I.os, I.bare, I.base, I.loc, I.cell, I.free, I.freeC, I.pin, I.hok, I.len⟩
theorem SP.unmarked {D : Ends} {f : Flow} {s' : Shared} (ok : X.Ok) (h : SP (X.marked ev) pins D f s') : SP X pins D f s' := by
  cases f with
  | next => obtain ⟨σ', H', I, q⟩ := h; exact ⟨σ', H', I.unmarked ok, q⟩
  | brk => obtain ⟨σ', H', I, q⟩ := h; exact ⟨σ', H', I.unmarked ok, q⟩
  | cont => obtain ⟨σ', H', I, q⟩ := h; exact ⟨σ', H', I.unmarked ok, q⟩
  | ret u => obtain ⟨v, σ', H', I, r, q⟩ := h; exact ⟨v, σ', H', I.unmarked ok, r, q⟩
end
def tTry (sp : Sp) (dvs : List V) (C : Addr) (t : TA) (ts : TS) : TS := fun D σ H => t σ H fun vs H1 => sp (vs ++ dvs) H1 (fun _ H2 => D.nx σ H2) (fun cls _ H2 => cls = .ref C ∧ ts D σ H2)
section
variable {X : Cx} {k : Nat} {f C : Addr} {fd : FuncData} {ps : List Str} {sp : Sp} {dvs : List V} {ds : List Value} {x y : Str} {p pos cpos epos hpos np : Pos} {e : Expr} {es : List Expr} {t : TA} {b0 : Stmt} {suite : List Stmt} {ts : TS}
/-- try: f(..) / except C: suite, where f raises nothing but C itself -/
theorem qps_try (F : FnOk X.prog X.w X.K X.mg X.base (CX1 X.prog X.w) k f fd ps sp) (hr : Room k X.A) (hg : Gl X x) (hm : X.mg x = some (.ref f)) (hk : PySem.W.keepIn X.K (.ref f) = true) (hb : Binds X.K fd ps ds) (hd : Vals dvs ds)
    (ha : ∀ Eb, QA (X.wish Eb) (e :: es) t) (hst : X.stack = X.env :: X.outer) (hfr : X.env.frame = some X.env.locals) (hE : ∀ ev, PassesOwnAt (model X.prog X.w) (X.A.mark (some ev)) X.A X.env X.xe)
    (hgy : Gl X y) (hmy : X.mg y = some (.ref C)) (qy : PySem.W.excIn X.K C bmVE "ValueError.__new__" = true) (hs : ∀ ev, QSs (X.marked ev) (b0 :: suite) ts)
    (he : starEach (e :: es) X.env = (false, eval e X.env) :: starEach es X.env := by rfl) (hpl : (backTo cpos (starEach es X.env)).any (·.1) = false := by rfl) (hdb : (x == ("__debug__" : Str)) = false := by decide) (hdy : (y == ("__debug__" : Str)) = false := by decide)
    (hsw : swapsWith (.Call (.Name x p) (e :: es) [] cpos) none epos.line X.env = pure false := by rfl) :
    QS X (.Try [.Expr (.Call (.Name x p) (e :: es) [] cpos) epos] [.ExceptHandler (some (.Name y np)) none (b0 :: suite) hpos] [] [] pos) (tTry sp dvs C t ts) := ⟨by
  intro pins s σ H D I h
  refine wpAny_Try_except ?_
  refine wpAny_execs_cons (wpAny_mono (Q := SP X pins D) ?_ (fun fl s1 q => ?_) fun _ _ z => z)
  · -- the call
    generalize hEb : (fun (e : Value) (s₁ : Shared) => wpAny (model X.prog X.w) X.A (noteFrame e X.env) (fun _ s₂ => wpAny (model X.prog X.w) X.A (setFlight e none) (fun _ s₃ => wpAny (model X.prog X.w) X.A (handleBy e X.env [.ExceptHandler (some (.Name y np)) none (b0 :: suite) hpos]) (SP X pins D) X.xe s₃) X.xe s₂) X.xe s₁) = Eb
    have I0 := I.wish Eb
    refine wpAny_Expr_any (Q := SP X pins D) ?_ I.quiet hsw
    refine wpAny_Call_Name_kw (ld_glob I hg hm ?_ hdb)
    refine PySem.W.callWith_K (h₀ := X.base) I.ok.mod.kin hk (thn ((ha Eb).ok cpos pins s σ H _ I0 h) fun us s1 ⟨vs, H1, I1, r, q⟩ => ⟨I1.kIn, ?_⟩) he hpl
    have r2 : Vals (vs ++ dvs) (us ++ ds) := r.append hd
    have hl : (us ++ ds).length = ps.length := by rw [← r2.length]; exact F.len _ _ _ _ q
    have J1 : Inv X pins σ H1 s1 := I1.unwish
    refine wpAny_call (codeAny_mono (F.run X.A X.stack s1 H1 ⟨us, []⟩ (us ++ ds) (vs ++ dvs) _ _ hr J1.env0 (hb s1 us J1.kIn hl) r2 q) fun r s' hq => ?_)
    cases r with
    | ok fl =>
      cases fl with
      | ret u =>
        obtain ⟨v, H2, I2, _, q2⟩ := J1.after hq
        exact ⟨σ, H2, I2, q2⟩
      | next => exact False.elim hq
      | brk => exact False.elim hq
      | cont => exact False.elim hq
    | error ev =>
      show Eb ev s'
      rw [← hEb]
      obtain ⟨ea, T, cls, H', rfl, os, bare, un, hok, fl, rfl, q⟩ := hq
      obtain ⟨hh, g, d, tk, os'⟩ := s'
      obtain rfl : os' = s1.os := os
      have I2 : Inv X pins σ H' { s1 with heap := hh, gens := g, drawn := d, toks := tk } := J1.call (h' := hh) (g' := g) (d' := d) (t' := tk) (ch := []) un hok bare (fun b z => nomatch z)
      have F2 := I2.frOk
      have noneS : ∀ b ∈ [ea, T], s1.heap.get? b = none := fun b hb => by
        rcases List.mem_cons.mp hb with r | r
        · rw [r]; exact fl.e0
        · rw [List.mem_singleton.mp r]; exact fl.t0
      have noneH : ∀ b ∈ [ea, T], H' b = none := fun b hb => by
        rcases List.mem_cons.mp hb with r | r
        · rw [r]; exact fl.eH
        · rw [List.mem_singleton.mp r]; exact fl.tH
      have go : ∀ h5, Lands [ea, T] X.stack hh h5 → Inv X pins σ H' { s1 with heap := h5, gens := g, drawn := d, toks := tk } := fun h5 L =>
        J1.call (h' := h5) (g' := g) (d' := d) (t' := tk) (ch := []) (un_lands un L F2 noneS) (L.hok F2 noneH hok) bare (fun b z => nomatch z)
      obtain ⟨a0, fw⟩ := fl.flying I2.stack
      have fw' := fw
      rw [hst] at fw'
      refine wpAny_looks_onW (L := X.env.locals) (env := X.env) (outer := X.outer) (by rw [← hst]; exact I.ok.frames) hfr fw' fun h4 held4 up4 => ?_
      refine wpAny_landsW held4 fun h5 fl5 up5 => ?_
      have up45 := up4.trans up5
      have st5 := fl5.1
      rw [← hst] at st5
      have I5 := go h5 ⟨st5, up45⟩
      obtain ⟨ob, hob, hobc⟩ := fl5.there
      refine wpAny_handleBy_cons (codeAny_handlers_test (ld_glob (X := X.marked (.ref ea)) I5.marked hgy hmy ?_ hdy)) (by intro q; cases q)
      obtain ⟨tl, N, nm, qn, bs, hdct, sn, sub, ab, col, dd, k0, k1, k2, k3, k5, mN, hC, hN, hni, TL⟩ := (own_cls (h := X.base) I.ok.mod.kin hmy qy).obj
      refine wpAny_excMatches_sub_self (I5.bk _ _ hC) hob hobc (TL.hasType (by decide +kernel)) (codeAny_handlers_suite ?_)
      refine lands_againW fl5 fun h6 fl6 up6 => ?_
      have st6 := fl6.1
      rw [← hst] at st6
      have I6 := go h6 ⟨st6, up45.trans up6⟩
      refine wpAny_passesOwnAt (hE _) (thn ((hs (.ref ea)).ok pins _ σ H' D I6.marked q) fun fl7 s7 q7 => ?_)
      exact SP.unmarked I.ok q7
  · cases fl with
    | next => exact wpAny_execs_nil (wpAny_execs_nil q)
    | ret v => exact q
    | brk => exact q
    | cont => exact q⟩
end
end L2
set_option Elab.async false
set_option linter.all false
set_option maxRecDepth 100000
/-! defs that may raise, defs with defaults -/
namespace L2
open PySem PySem.Spec PyProof.Rows
structure FunD (K : PySem.W.Frag) (x qual : Str) (st : Stmt) (f : Addr) (fd : FuncData) : Prop where
  ex : ∃ (oc : Value) (od : Option Addr) (dV kV doc pm : Value) (an : Option Addr) (cdv ct : Value) (osl : Array (Option Value)),
    fd = PySem.W.fnOf x qual (defArgs st) (defBody st) (defScope st) dV kV doc pm an cdv ct ∧ K.lookup f = some ⟨oc, od, .func fd, osl⟩ ∧ PySem.W.codeIn K cdv qual = true
  kp : PySem.W.keepIn K (.ref f) = true
section
variable {P : Program} {w : World} {K : PySem.W.Frag} {mg : Str → Option Value} {base : Heap} {x qual : Str} {st : Stmt} {f : Addr} {fd : FuncData} {N ps : List Str} {k : Nat} {sp : Sp}
theorem Fun.toD (F : Fun K x qual st f fd) : FunD K x qual st f fd := by
  obtain ⟨oc, od, kV, doc, pm, an, cdv, ct, osl, e1, lk, hcd⟩ := F.ex
  exact ⟨⟨oc, od, .none, kV, doc, pm, an, cdv, ct, osl, e1, lk, hcd⟩, F.kp⟩
theorem funD_mk {oc : Value} {od an : Option Addr} {osl : Array (Option Value)} {dV kV doc pm cdv ct : Value} (l : K.lookup f = some ⟨oc, od, .func (PySem.W.fnOf x qual (defArgs st) (defBody st) (defScope st) dV kV doc pm an cdv ct), osl⟩)
    (c : PySem.W.codeIn K cdv qual = true) (k : PySem.W.keepIn K (.ref f) = true) : FunD K x qual st f (PySem.W.fnOf x qual (defArgs st) (defBody st) (defScope st) dV kV doc pm an cdv ct) := ⟨⟨oc, od, dV, kV, doc, pm, an, cdv, ct, osl, rfl, l, c⟩, k⟩
end
theorem iteN {a b : Int} {A B : Prop} (h1 : a ≠ b → A) (h2 : a = b → B) : if (!decide (V.int a = V.int b)) = true then A else B := by
  rw [dec_int]
  by_cases h : a = b
  · rw [h, beq_self_eq_true]
    exact iteF (h2 h)
  · rw [beq_eq_false_iff_ne.mpr h]
    exact iteT (h1 h)
theorem iteG {a b : Int} {A B : Prop} (h1 : a ≤ b → A) (h2 : ¬ a ≤ b → B) : if decide (a ≤ b) = true then A else B :=
  ite2 (fun h => h1 (of_decide_eq_true h)) fun h => h2 fun z => h (decide_eq_true z)
/-- a fraction at a -/
abbrev FrAt (H : Hp) (a : Addr) (x y : Int) : Prop := H a = some (.tup [.int x, .int y])
end L2
set_option Elab.async false
set_option linter.all false
set_option maxRecDepth 100000
namespace LN
/-! ### fractions: sizes, exponents -/
theorem abs_nn (i : Int) : 0 ≤ (if i < 0 then -i else i) := by split <;> omega
theorem abs_abs (i : Int) : (if i < 0 then -i else i).natAbs = i.natAbs := by split <;> omega
theorem gcd_turnI {x y : Int} (hx : 0 ≤ x) (hy : 0 < y) : Nat.gcd y.natAbs (x % y).natAbs = Nat.gcd x.natAbs y.natAbs := by
  have e : (x % y).natAbs = x.natAbs % y.natAbs := by
    have h1 : x = ((x.natAbs : Nat) : Int) := by omega
    have h2 : y = ((y.natAbs : Nat) : Int) := by omega
    have h3 : x % y = ((x.natAbs % y.natAbs : Nat) : Int) := by rw [Int.natCast_emod, ← h1, ← h2]
    rw [h3]
    rfl
  rw [e]
  exact gcd_turn
theorem mod_lt {x y : Int} (hy : 0 < y) : (x % y).natAbs < y.natAbs := by
  have h1 := Int.emod_nonneg x (show y ≠ 0 by omega)
  have h2 := Int.emod_lt_of_pos x hy
  omega
theorem gcd_zero {x : Int} (hx : 0 ≤ x) : ((Nat.gcd x.natAbs (0 : Int).natAbs : Nat) : Int) = x := by
  rw [show (0 : Int).natAbs = 0 from rfl, Nat.gcd_zero_right]
  omega
theorem gcd_bd {n : Nat} {t b : Int} (hb : b ≠ 0) (h : Bd n b) : Bd n ((Nat.gcd t.natAbs b.natAbs : Nat) : Int) := by
  refine h.of_le ?_
  rw [Int.natAbs_natCast]
  exact Nat.gcd_le_right _ (Int.natAbs_pos.mpr hb)
theorem gcd_ne {t b : Int} (hb : b ≠ 0) : ((Nat.gcd t.natAbs b.natAbs : Nat) : Int) ≠ 0 := by
  have := Nat.gcd_pos_of_pos_right t.natAbs (Int.natAbs_pos.mpr hb)
  omega
/-- p divides n just t times -/
def Exq (p n : Int) (t : Nat) : Prop := ∃ m, n = m * p ^ t ∧ ¬ p ∣ m
theorem Exq.one {p n : Int} {t t' : Nat} (hp : 2 ≤ p) (h : Exq p n t) (h' : Exq p n t') : t = t' := by
  obtain ⟨m, e, nd⟩ := h
  obtain ⟨m', e', nd'⟩ := h'
  exact ex_one hp (e.symm.trans e') nd nd'
end LN
namespace L2
open PySem
/-- two ways that meet behind a statement -/
theorem seq_of {t u : TS} {D : Ends} {σ : St} {H : Hp} (Pv : St → Hp → Prop) (tail : ∀ σ' H', Pv σ' H' → u D σ' H') (h : ∀ nx : St → Hp → Prop, (∀ σ' H', Pv σ' H' → nx σ' H') → t { D with nx := nx } σ H) : tSeq t u D σ H := h _ tail
theorem at0 {x y : V} : atI [x, y] 0 = some x := rfl
theorem at1 {x y : V} : atI [x, y] 1 = some y := rfl
theorem isI_int {v : V} (h : isI v = true) : ∃ i, v = .int i := by
  cases v with
  | int i => exact ⟨i, rfl⟩
  | _ => cases h
/-! ### the promises about fractions -/
def spGcd : Sp := fun vs H Q _ => ∃ x y : Int, vs = [.int x, .int y] ∧ 0 ≤ x ∧ 0 ≤ y ∧ Q (.int ((Nat.gcd x.natAbs y.natAbs : Nat) : Int)) H
/-- fraction(top, bottom), of any things -/
def spFrac (K : PySem.W.Frag) (C : Addr) : Sp := fun vs H Q E => ∃ v1 v2 : V, vs = [v1, v2] ∧ Thing K H v1 ∧ Thing K H v2 ∧
  (∀ t b : Int, v1 = .int t → v2 = .int b → b ≠ 0 → LN.Bd 4000 t ∧ LN.Bd 4000 b ∧ ∀ (a : Addr) (x y : Int) (H' : Hp), Same H H' → FrAt H' a x y → LN.Low t b x y → Q (.ref a) H') ∧
  (isI v1 = false ∨ isI v2 = false ∨ v2 = .int 0 → E (.ref C) none H)
theorem spFrac_ints {K : PySem.W.Frag} {C : Addr} {t b : Int} {H : Hp} {Q : VK} {E : XK} (h1 : LN.Bd 4000 t) (h2 : LN.Bd 4000 b) (hb : b ≠ 0) (q : ∀ (a : Addr) (x y : Int) (H' : Hp), Same H H' → FrAt H' a x y → LN.Low t b x y → Q (.ref a) H') : spFrac K C [.int t, .int b] H Q E :=
  ⟨_, _, rfl, Thing.int _, Thing.int _, fun t' b' e1 e2 _ => by cases e1; cases e2; exact ⟨h1, h2, q⟩, fun z => by
    rcases z with z | z | z
    · cases z
    · cases z
    · cases z; exact absurd rfl hb⟩
end L2
set_option Elab.async false
set_option linter.all false
set_option maxRecDepth 100000
/-! EXCEPTIONS OF ONE'S OWN, by name: an exception in the air, its context known to be none; caught by a class above its own, bound to a name, asked by isinstance, while it is handled. -/
namespace L2
open PySem PySem.W PySem.Spec PyProof.Rows
/-- the exception at e, its trace at T, fl: the frame in which it stands -/
structure Air (e : Addr) (cls fl : Value) (T : Addr) (h : Heap) : Prop where
  ob : ∃ oe vs oT ts, h.get? e = some oe ∧ oe.cls = cls ∧ oe.data = .fields vs ∧ vs[1]? = some (.ref T) ∧ vs[2]? = some .none ∧ h.get? T = some oT ∧ oT.data = .fields ts ∧ ts[3]? = some fl
  ne : T ≠ e
/-- all but these are kept, the frames up to slots -/
structure Wind (as fr : List Addr) (h h' : Heap) : Prop where
  keep : ∀ b o, h.get? b = some o → b ∉ as → b ∉ fr → h'.get? b = some o
  slot : ∀ b o, h.get? b = some o → b ∉ as → ∃ sl, h'.get? b = some { o with slots := sl }
theorem Wind.trans {as bs cs fr : List Addr} {h1 h2 h3 : Heap} (x : Wind as fr h1 h2) (y : Wind bs fr h2 h3) (ha : ∀ b ∈ as, b ∈ cs) (hb : ∀ b o, h1.get? b = some o → b ∈ bs → b ∈ cs) : Wind cs fr h1 h3 where
  keep := fun b o q n1 n2 => y.keep b o (x.keep b o q (fun z => n1 (ha b z)) n2) (fun z => n1 (hb b o q z)) n2
  slot := fun b o q n1 => by
    obtain ⟨s1, e1⟩ := x.slot b o q fun z => n1 (ha b z)
    obtain ⟨s2, e2⟩ := y.slot b _ e1 fun z => n1 (hb b o q z)
    exact ⟨s2, e2⟩
theorem Wind.of_keeps {fr : List Addr} {h h' : Heap} (k : ∀ b o, h.get? b = some o → h'.get? b = some o) : Wind [] fr h h' := ⟨fun b o q _ _ => k b o q, fun b o q _ => ⟨o.slots, k b o q⟩⟩
theorem Wind.frames {as : List Addr} {h h' base : Heap} {l : List Env} (x : Wind as (frs l) h h') (hl : h.FunFrames base l) (has : ∀ b ∈ as, ∀ o, h.get? b = some o → ∃ vs, o.data = .fields vs) : h'.FunFrames base l :=
  hl.of_keeps fun b o q nf => by
    obtain ⟨sl, e⟩ := x.slot b o q fun z => by
      obtain ⟨vs, d⟩ := has b z o q
      exact nf vs d
    exact ⟨_, e, rfl⟩
/-- a trace is laid, the exception told of it -/
theorem air_laid {h h1 : Heap} {fr : List Addr} {e : Addr} {oe ob : Obj} {vs ts : Array Value} {fl : Value} (k : Heap.SlotsOnly fr h h1) (he : h.get? e = some oe) (hfr : e ∉ fr) (hd : oe.data = .fields vs) (hsz : 1 < vs.size) (h2 : vs[2]? = some .none)
    (hob : ob.data = .fields ts) (h3 : ts[3]? = some fl) :
    h.get? h1.objs.size = none ∧ Air e oe.cls fl h1.objs.size ((h1.push ob).update e (Obj.mapFields (·.setIfInBounds 1 (Value.ref h1.objs.size)))) ∧ Wind [e] fr h ((h1.push ob).update e (Obj.mapFields (·.setIfInBounds 1 (Value.ref h1.objs.size)))) := by
  have e1 : h1.get? e = some oe := (k.2.1 e hfr).trans he
  have e2 : (h1.push ob).get? e = some oe := Heap.get?_push_of_some _ e1
  have ne : h1.objs.size ≠ e := Nat.ne_of_gt (Heap.lt_size e1)
  have d3 := Obj.data_mapFields hd (·.setIfInBounds 1 (Value.ref h1.objs.size))
  have e3 := Heap.get?_update_self (Obj.mapFields (·.setIfInBounds 1 (Value.ref h1.objs.size))) e2 (Obj.isFreed_of_fields d3)
  have tt : (h1.push ob).get? h1.objs.size = some ob := Heap.get?_push_size h1 (Obj.isFreed_of_fields hob)
  have t3 := (Heap.get?_update_other (h1.push ob) (Obj.mapFields (·.setIfInBounds 1 (Value.ref h1.objs.size))) (Ne.symm ne)).trans tt
  have stay : ∀ b o, b ≠ e → h1.get? b = some o → ((h1.push ob).update e (Obj.mapFields (·.setIfInBounds 1 (Value.ref h1.objs.size)))).get? b = some o := fun b o nb q =>
    (Heap.get?_update_other _ _ (Ne.symm nb)).trans (Heap.get?_push_of_some _ q)
  refine ⟨Heap.get?_none_of_le (by rw [k.1]; exact Nat.le_refl _), ⟨⟨_, _, ob, ts, e3, Obj.cls_mapFields _ _, d3, by simp [hsz], by rw [Array.getElem?_setIfInBounds_ne (by decide)]; exact h2, t3, hob, h3⟩, ne⟩, fun b o q n1 n2 => stay b o (by simpa using n1) ((k.2.1 b n2).trans q), fun b o q n1 => ?_⟩
  obtain ⟨sl, q2⟩ := k.2.2 b o q
  exact ⟨sl, stay b _ (by simpa using n1) q2⟩
section
variable {M : Model} {A : Around} {E : Value → Shared → Prop} {s : Shared} {base : Heap} {env : Env} {outer : List Env} {L e T : Addr} {cls fl : Value} {Q : Unit → Shared → Prop}
theorem entry2 {oe : Obj} {vs : Array Value} {hd0 : Value} {hn : Bool} (hfr : A.frames = some (env :: outer)) (hl : s.heap.FunFrames base (env :: outer)) (hf : env.frame = some L) (he : s.heap.get? e = some oe) (hd : oe.data = .fields vs) (hsz : 1 < vs.size) (h2 : vs[2]? = some .none)
    (h : ∀ h' T', s.heap.get? T' = none → Air e oe.cls (rawInt L) T' h' → Wind [e] (frs (env :: outer)) s.heap h' → Q () { s with heap := h' }) :
    wpAny M A (do let a ← frameOf env; let pl ← entryPlaceOf L hn; let b ← EntryCells.newEntry hd0 a .none (rawInt L) .none pl; setField (.ref e) 1 b) Q E s := by
  have nfr : e ∉ frs (env :: outer) := fun z => by
    obtain ⟨_, o, qo, nf⟩ := hl.mem z
    rw [he] at qo
    cases qo
    exact nf vs hd
  refine wpAny_bind (wpAny_frameOf_fun hfr hl hf fun h1 k1 => wpAny_bind (wpAny_entryPlaceOf fun pp hpp => ?_))
  unfold EntryCells.newEntry newFields
  refine wpAny_bind (wpAny_newObj_type ?_ (hpp.sizeOk5 _ _ _ _ _))
  obtain ⟨z1, z2, z3⟩ := air_laid (fl := rawInt L) (ob := { cls := .type "traceback", dict := none, data := .fields ([hd0, .ref L, .none, rawInt L, .none] ++ (if pp.isEmpty then List.replicate 6 Value.none else pp)).toArray }) k1 he nfr hd hsz h2 rfl (by simp)
  exact wpAny_setField (Heap.get?_push_of_some _ ((k1.2.1 e nfr).trans he)) hd hsz (h _ _ z1 z2 z3)
theorem note_first {oe : Obj} {vs : Array Value} (hfr : A.frames = some (env :: outer)) (hl : s.heap.FunFrames base (env :: outer)) (hf : env.frame = some L) (he : s.heap.get? e = some oe) (hd : oe.data = .fields vs) (h1 : vs[1]? = some .none) (h2 : vs[2]? = some .none)
    (h : ∀ h' T', s.heap.get? T' = none → Air e oe.cls (rawInt L) T' h' → Wind [e] (frs (env :: outer)) s.heap h' → Q () { s with heap := h' }) : wpAny M A (noteFrame (.ref e) env) Q E s := by
  unfold noteFrame
  simp only [hf]
  refine wpAny_bind (wpAny_field he hd h1 ?_)
  rw [if_neg (by decide)]
  exact entry2 hfr hl hf he hd (Array.getElem?_eq_some_iff.mp h1).1 h2 h
/-- the trace's mark is taken away -/
theorem set_none2 (a : Air e cls fl T s.heap) (h : ∀ h', Air e cls .none T h' → Wind [T] [] s.heap h' → Q () { s with heap := h' }) : wpAny M A (setFlight (.ref e) none) Q E s := by
  obtain ⟨⟨oe, vs, oT, ts, he, hc, hd, h1, h2, hT, hdT, h3⟩, ne⟩ := a
  have z3 : 3 < ts.size := (Array.getElem?_eq_some_iff.mp h3).1
  have oth : ∀ b, b ≠ T → (s.heap.update T (Obj.mapFields (·.setIfInBounds 3 Value.none))).get? b = s.heap.get? b := fun b nb => Heap.get?_update_other _ _ (Ne.symm nb)
  have dT := Obj.data_mapFields hdT (·.setIfInBounds 3 Value.none)
  have tt := Heap.get?_update_self (Obj.mapFields (·.setIfInBounds 3 Value.none)) hT (Obj.isFreed_of_fields dT)
  unfold setFlight
  refine wpAny_bind (wpAny_field he hd h1 ?_)
  rw [if_pos (by simp : (Value.ref T != Value.none) = true)]
  refine wpAny_setField hT hdT z3 (h _ ⟨⟨oe, vs, _, _, (oth e (Ne.symm ne)).trans he, hc, hd, h1, h2, tt, dT, by simp [z3]⟩, ne⟩ ⟨fun b o q n1 _ => (oth b (by simpa using n1)).trans q, fun b o q n1 => ⟨o.slots, (oth b (by simpa using n1)).trans q⟩⟩)
theorem note_next (hfr : A.frames = some (env :: outer)) (hl : s.heap.FunFrames base (env :: outer)) (hf : env.frame = some L) (a : Air e cls .none T s.heap)
    (h : ∀ h' T', s.heap.get? T' = none → Air e cls (rawInt L) T' h' → Wind [e, T] (frs (env :: outer)) s.heap h' → Q () { s with heap := h' }) : wpAny M A (noteFrame (.ref e) env) Q E s := by
  obtain ⟨⟨oe, vs, oT, ts, he, hc, hd, h1, h2, hT, hdT, h3⟩, ne⟩ := a
  subst hc
  have z3 : 3 < ts.size := (Array.getElem?_eq_some_iff.mp h3).1
  have oth : ∀ b, b ≠ T → (s.heap.update T (Obj.mapFields (·.setIfInBounds 3 Value.none))).get? b = s.heap.get? b := fun b nb => Heap.get?_update_other _ _ (Ne.symm nb)
  have wd : Wind [T] (frs (env :: outer)) s.heap (s.heap.update T (Obj.mapFields (·.setIfInBounds 3 Value.none))) := ⟨fun b o q n1 _ => (oth b (by simpa using n1)).trans q, fun b o q n1 => ⟨o.slots, (oth b (by simpa using n1)).trans q⟩⟩
  unfold noteFrame
  simp only [hf]
  refine wpAny_bind (wpAny_field he hd h1 ?_)
  rw [if_pos (by simp : (Value.ref T != Value.none) = true)]
  refine wpAny_bind (wpAny_field hT hdT h3 ?_)
  rw [if_neg (by simp [rawInt] : ¬ ((Value.none == rawInt L) = true))]
  refine wpAny_bind (wpAny_setField hT hdT z3 ?_)
  refine entry2 (s := { s with heap := s.heap.update T (Obj.mapFields (·.setIfInBounds 3 Value.none)) }) hfr (wd.frames hl fun b hb o q => ?_) hf ((oth e (Ne.symm ne)).trans he) hd (Array.getElem?_eq_some_iff.mp h1).1 h2 fun h' T' z1 z2 z4 => h h' T' ?_ z2 (wd.trans z4 (by simp) (fun b o _ z => by simp at z; simp [z]))
  · obtain rfl : b = T := by simpa using hb
    rw [hT] at q
    cases q
    exact ⟨ts, hdT⟩
  · by_cases hb : T' = T
    · subst hb
      have tt := Heap.get?_update_self (Obj.mapFields (·.setIfInBounds 3 Value.none)) hT (Obj.isFreed_of_fields (Obj.data_mapFields hdT _))
      rw [tt] at z1
      cases z1
    · exact (oth T' hb).symm.trans z1
end
end L2
set_option Elab.async false
set_option linter.all false
set_option maxRecDepth 100000
/-! an exception of one's own, by its class: isinstance -/
namespace L2
open PySem PySem.W PySem.Spec PyProof.Rows
section
variable {prog : Program} {w : World} {A : Around} {E : Value → Shared → Prop} {h : Heap} {g : Array GenState} {d : Drawn} {t : Nat} {os : OsState} {a C : Addr} {o : Obj} {K : PySem.W.Frag}
end
section
variable {X : Cx}
end
end L2
set_option Elab.async false
set_option linter.all false
set_option maxRecDepth 100000
/-! an exception leaves a def; it is caught -/
namespace L2
open PySem PySem.W PySem.Spec PyProof.Rows
structure Fly2 (H : Hp) (hs : Heap) (e : Addr) (cls : Value) (T : Addr) (h : Heap) : Prop where
  air : Air e cls .none T h
  e0 : hs.get? e = none
  t0 : hs.get? T = none
  eH : H e = none
  tH : H T = none
/-- how an exception lies behind a call -/
def CX2 (P : Program) (w : World) : CXT := fun outer H s E ev s' =>
  ∃ (e T : Addr) (cls : Value) (H' : Hp), ev = .ref e ∧ s'.os = s.os ∧ AllBare s'.gens ∧ Un (frs outer) [] H H' s.heap s'.heap ∧ HOk P w H' s'.heap ∧ Fly2 H' s.heap e cls T s'.heap ∧ E cls none H'
theorem pass2 {X : Cx} : Passes (CX2 X.prog X.w) X E0 := fun _ _ _ _ _ _ _ h => by
  obtain ⟨_, _, _, _, _, _, _, _, _, _, z⟩ := h
  exact z.elim
theorem Wind.hok {P : Program} {w : World} {H : Hp} {as fr : List Addr} {h h' : Heap} (x : Wind as fr h h') (hfr : ∀ b ∈ fr, H b = none) (has : ∀ b ∈ as, H b = none) (k : HOk P w H h) : HOk P w H h' := fun a o ea =>
  (k a o ea).stay (fun b u hb q => by
    have hn : H b ≠ none := by
      rcases hb with z | z
      · rw [z, ea]; intro y; cases y
      · rw [z]; intro y; cases y
    exact x.keep b u q (fun z => hn (has b z)) fun z => hn (hfr b z)) (fun _ q => q) fun _ _ q => q
section
variable {P : Program} {w : World} {K : PySem.W.Frag} {mg : Str → Option Value} {base : Heap} {N : List Str} {qual : Str} {scope : Scope} {f : Addr} {cd : Value} {A : Around} {outer : List Env} {s0 : Shared} {H0 : Hp} {E : XK}
  {pins : List (Addr × Obj)} {σ : St} {H H' : Hp} {s s' : Shared} {h' : Heap} {e T : Addr} {cls : Value}
/-- what is true behind the frame that was left -/
theorem left_cx2 (I : Inv (cxOf (CX2 P w) P w K mg base N qual scope f cd A outer s0 H0 E) pins σ H s) {as : List Addr} (L : Wind as (frs (envOfC qual scope s0.heap.objs.size f cd :: outer)) s.heap h')
    (u1 : ∀ b ∈ as, s0.heap.get? b = none) (has : ∀ b ∈ as, H b = none) (air : Air e cls .none T h') (en : s0.heap.get? e = none) (tn : s0.heap.get? T = none) (eH : H e = none) (tH : H T = none) (q : E cls none H) : CX2 P w outer H0 s0 E (.ref e) { s with heap := h' } := by
  have B : Un (frs outer) [] H0 H s0.heap s.heap := I.base
  have own : ∀ b o, s0.heap.get? b = some o → b ∉ frs outer → b ∉ frs (envOfC qual scope s0.heap.objs.size f cd :: outer) := fun b o qb hb z => by
    obtain ⟨ev, hev, hf⟩ := List.mem_filterMap.mp z
    rcases List.mem_cons.mp hev with r | r
    · subst r
      have e1 : s0.heap.objs.size = b := Option.some.inj hf
      have lt := Heap.lt_size qb
      rw [e1] at lt
      exact Nat.lt_irrefl _ lt
    · exact hb (List.mem_filterMap.mpr ⟨ev, r, hf⟩)
  have out : ∀ b o, s0.heap.get? b = some o → b ∉ as := fun b o qb z => by rw [u1 b z] at qb; cases qb
  refine ⟨e, T, cls, H, rfl, I.os, I.bare, ?_, L.hok (fun b hb => (I.frOk b hb).1) has I.hok, ⟨air, en, tn, eH, tH⟩, q⟩
  refine ⟨fun b o qb n hb hx => L.keep b o (B.keep b o qb n hb hx) (out b o qb) (own b o qb hb), fun b o qb n hb hx => ?_, B.free, fun b o qb hx => ?_, B.tups, B.frzs, B.tbls⟩
  · obtain ⟨sl, q1⟩ := B.slot b o qb n hb hx
    obtain ⟨sl', q2⟩ := L.slot b _ q1 (out b o qb)
    exact ⟨sl', q2⟩
  · obtain ⟨o', q1⟩ := B.there b o qb hx
    obtain ⟨sl', q2⟩ := L.slot b o' q1 (out b o qb)
    exact ⟨_, q2⟩
/-- an exception that was just made leaves the def -/
theorem leave_new2 (I : Inv (cxOf (CX2 P w) P w K mg base N qual scope f cd A outer s0 H0 E) pins σ H s) {vs : List Value} (hx : Heap.MadeExcOf s.heap h' e cls vs) (q : E cls none H) :
    (cxOf (CX2 P w) P w K mg base N qual scope f cd A outer s0 H0 E).xe (.ref e) { s with heap := h' } := by
  have sub : ∀ b o, s0.heap.get? b = some o → ∃ o', s.heap.get? b = some o' := fun b o z => I.base.there b o z (by simp [cxOf])
  have none0 : ∀ b, s.heap.get? b = none → s0.heap.get? b = none := fun b z => by
    cases y : s0.heap.get? b with
    | none => rfl
    | some o =>
      obtain ⟨o', y'⟩ := sub b o y
      rw [z] at y'
      cases y'
  have noneS : ∀ b, h'.get? b = none → s.heap.get? b = none := fun b z => by
    cases y : s.heap.get? b with
    | none => rfl
    | some o =>
      have y' := hx.keeps b o y
      rw [z] at y'
      cases y'
  obtain ⟨t, he, _, _⟩ := hx.there
  have w0 : Wind [] (frs (envOfC qual scope s0.heap.objs.size f cd :: outer)) s.heap h' := .of_keeps hx.keeps
  refine wpAny_bind (note_first (s := { s with heap := h' }) (env := envOfC qual scope s0.heap.objs.size f cd) (outer := outer) (L := s0.heap.objs.size) (base := base) I.ok.frames (w0.frames I.stack (fun b z => nomatch z)) rfl he rfl rfl rfl fun h1 T1 f1 a1 w1 => ?_)
  refine set_none2 (s := { s with heap := h1 }) a1 fun h2 a2 w2 => ?_
  have w01 := w0.trans (cs := [e]) w1 (by simp) (fun b o _ z => z)
  have w12 : Wind [T1] (frs (envOfC qual scope s0.heap.objs.size f cd :: outer)) h1 h2 := ⟨fun b o q n _ => w2.keep b o q n (by simp), w2.slot⟩
  have w02 := w01.trans (cs := [e, T1]) w12 (by simp) (fun b o _ z => by simp at z; simp [z])
  have eS := hx.new
  have tS := noneS T1 f1
  refine left_cx2 (s := s) (h' := h2) I w02 (fun b hb => ?_) (fun b hb => ?_) a2 (none0 e eS) (none0 T1 tS) (I.hok.none_of eS) (I.hok.none_of tS) q
  · rcases List.mem_cons.mp hb with r | r
    · rw [r]; exact none0 e eS
    · rw [List.mem_singleton.mp r]; exact none0 T1 tS
  · rcases List.mem_cons.mp hb with r | r
    · rw [r]; exact I.hok.none_of eS
    · rw [List.mem_singleton.mp r]; exact I.hok.none_of tS
theorem throws_new2 {C : Addr} : Throws (cxOf (CX2 P w) P w K mg base N qual scope f cd A outer s0 H0 E) E C := fun _ _ _ _ _ _ _ I hx q => leave_new2 I hx q
/-- an exception of a callee passes the def -/
theorem leave_on2 : Passes (CX2 P w) (cxOf (CX2 P w) P w K mg base N qual scope f cd A outer s0 H0 E) E := by
  intro pins σ H s ev s' I hc
  obtain ⟨e, T, cls, H', rfl, os, bare, un, hok, fl, q⟩ := hc
  obtain ⟨hh, g, d, t, os'⟩ := s'
  obtain rfl : os' = s.os := os
  have I1 : Inv (cxOf (CX2 P w) P w K mg base N qual scope f cd A outer s0 H0 E) pins σ H' { s with heap := hh, gens := g, drawn := d, toks := t } := I.call (h' := hh) (g' := g) (d' := d) (t' := t) (ch := []) un hok bare (fun b z => nomatch z)
  have sub : ∀ b o, s0.heap.get? b = some o → ∃ o', s.heap.get? b = some o' := fun b o z => I.base.there b o z (by simp [cxOf])
  have none0 : ∀ b, s.heap.get? b = none → s0.heap.get? b = none := fun b z => by
    cases y : s0.heap.get? b with
    | none => rfl
    | some o =>
      obtain ⟨o', y'⟩ := sub b o y
      rw [z] at y'
      cases y'
  refine wpAny_bind (note_next (s := { s with heap := hh, gens := g, drawn := d, toks := t }) (L := s0.heap.objs.size) (base := base) I.ok.frames I1.stack rfl fl.air fun h1 T1 f1 a1 w1 => ?_)
  refine set_none2 (s := { s with heap := h1, gens := g, drawn := d, toks := t }) a1 fun h2 a2 w2 => ?_
  have w12 : Wind [T1] (frs (envOfC qual scope s0.heap.objs.size f cd :: outer)) h1 h2 := ⟨fun b o q n _ => w2.keep b o q n (by simp), w2.slot⟩
  have w02 := w1.trans (cs := [e, T]) w12 (by simp) (fun b o y z => by
    obtain rfl := List.mem_singleton.mp z
    rw [f1] at y
    cases y)
  have t1n : s0.heap.get? T1 = none := by
    cases y : s0.heap.get? T1 with
    | none => rfl
    | some o =>
      obtain ⟨o', y'⟩ := I1.base.there T1 o y (by simp [cxOf])
      rw [f1] at y'
      cases y'
  refine left_cx2 (s := { s with heap := hh, gens := g, drawn := d, toks := t }) (h' := h2) I1 w02 (fun b hb => ?_) (fun b hb => ?_) a2 (none0 e fl.e0) t1n fl.eH (I1.hok.none_of f1) q
  · rcases List.mem_cons.mp hb with r | r
    · rw [r]; exact none0 e fl.e0
    · rw [List.mem_singleton.mp r]; exact none0 T fl.t0
  · rcases List.mem_cons.mp hb with r | r
    · rw [r]; exact fl.eH
    · rw [List.mem_singleton.mp r]; exact fl.tH
end
section
variable {P : Program} {w : World} {K : PySem.W.Frag} {mg : Str → Option Value} {base : Heap} {x qual : Str} {st : Stmt} {f : Addr} {fd : FuncData} {N ps : List Str} {k : Nat} {sp : Sp}
/-- a def that may raise -/
theorem FunD.ok2 (F : FunD K x qual st f fd) (S : FnScope N ps (defScope st)) (len : ∀ vs H Q E, sp vs H Q E → vs.length = ps.length)
    (hbody : ∀ (cdv : Value) (A : Around) (outer : List Env) (s : Shared) (H : Hp) (vs : List V) (Q : VK) (E : XK), Room k (A.deeper (envOfC qual (defScope st) s.heap.objs.size f cdv)) → sp vs H Q E →
      ∃ t, QSs (cxOf (CX2 P w) P w K mg base N qual (defScope st) f cdv A outer s H E) (defBody st) t ∧ t { nx := fun _ H' => Q .non H', rt := Q } (start N vs) H) : FnOk P w K mg base (CX2 P w) (k + 1) f fd ps sp := by
  obtain ⟨oc, od, dV, kV, doc, pm, an, cdv, ct, osl, rfl, lk, hcd⟩ := F.ex
  refine fn_of lk hcd S len fun A outer s H vs Q E hr hsp => ?_
  obtain ⟨t, h, q⟩ := hbody cdv A outer s H vs Q E hr hsp
  exact ⟨t, h.ok, q⟩
end
end L2
set_option Elab.async false
set_option linter.all false
set_option maxRecDepth 100000
/-! the suite behind `except C as e`: the exception is handled while it runs -/
namespace L2
open PySem PySem.W PySem.Spec PyProof.Rows
/-! ### a walk over a list ends while an exception is handled -/
section
variable {prog : Program} {w : World} {A : Around} {E : Value → Shared → Prop} {s : Shared}
end
section
variable {X : Cx}
end
end L2
set_option Elab.async false
set_option linter.all false
set_option maxRecDepth 100000
/-! a def that is called while an exception is handled; try .. except C as e -/
namespace L2
open PySem PySem.W PySem.Spec PyProof.Rows
section
variable {X : Cx} {pins : List (Addr × Obj)} {σ : St} {H : Hp} {s : Shared}
end
section
variable {P : Program} {w : World} {K : PySem.W.Frag} {mg : Str → Option Value} {base : Heap}
end
section
variable {X : Cx} {k : Nat} {f : Addr} {fd : FuncData} {ps : List Str} {sp : Addr → Sp} {ds : List Value} {dvs : List V} {x : Str} {p pos : Pos} {e : Expr} {es : List Expr} {t : TA} {ea : Addr}
end
/-! ### caught by a class above its own -/
section
variable {X : Cx} {pins : List (Addr × Obj)} {σ : St} {H : Hp} {s : Shared}
end
section
variable {X : Cx} {k i : Nat} {f C Dc : Addr} {fd : FuncData} {ps : List Str} {sp : Sp} {dvs : List V} {ds : List Value} {x y n : Str} {p pos cpos epos hpos np : Pos} {e : Expr} {es : List Expr} {t : TA} {b0 : Stmt} {suite : List Stmt} {ts : Addr → TS}
end
end L2
set_option Elab.async false
set_option linter.all false
set_option maxRecDepth 100000
namespace L2
open PySem PySem.W PySem.Spec PyProof.Rows
/-! ### tuples of whole numbers, held against one another -/
theorem ints_same (ns ms : List Int) : ((List.range (min ns.length ms.length)).all (fun j => ns.getD j 0 == ms.getD j 0) && ns.length == ms.length) = decide (ns = ms) := by
  rw [Bool.eq_iff_iff, Bool.and_eq_true, List.all_eq_true, beq_iff_eq, decide_eq_true_iff]
  constructor
  · rintro ⟨h1, h2⟩
    refine List.ext_getElem h2 fun i a b => ?_
    have q := beq_iff_eq.mp (h1 i (List.mem_range.mpr (by omega)))
    rw [List.getD_eq_getElem?_getD, List.getD_eq_getElem?_getD, List.getElem?_eq_getElem a, List.getElem?_eq_getElem b] at q
    exact q
  · rintro rfl
    exact ⟨fun j _ => beq_self_eq_true _, rfl⟩
section
variable {X : Cx}
end
/-! ### what is a fraction -/
inductive FrT (K : PySem.W.Frag) (H : Hp) : V → Bool → Prop where
  | no {v : V} {t : String} {i b : Bool} (k : Kind t i b false) (ty : TyOf K H v (.type t)) : FrT K H v false
  | len {a : Addr} {xs : List V} (h : H a = some (.tup xs)) (n : xs.length ≠ 2) : FrT K H (.ref a) false
  | part {a : Addr} {x y : V} (h : H a = some (.tup [x, y])) (tx : Thing K H x) (ty : Thing K H y) (n : isI x = false ∨ isI y = false) : FrT K H (.ref a) false
  | two {a : Addr} {x y : Int} (h : FrAt H a x y) {b : Bool} (e : b = (decide (1 ≤ y) && decide (Nat.gcd x.natAbs y.natAbs = 1))) : FrT K H (.ref a) b
theorem FrT.low {K : PySem.W.Frag} {H : Hp} {a : Addr} {x y : Int} (h : FrAt H a x y) (p : 0 < y) (c : Nat.gcd x.natAbs y.natAbs = 1) : FrT K H (.ref a) true :=
  .two h (by rw [decide_eq_true (show 1 ≤ y by omega), decide_eq_true c]; rfl)
def spFrT (K : PySem.W.Frag) : Sp := fun vs H Q _ => ∃ (v : V) (b : Bool), vs = [v] ∧ FrT K H v b ∧ Q (.bl b) H
theorem iteP {a b : Int} {A B : Prop} (h1 : b < a → A) (h2 : ¬ b < a → B) : if decide (b < a) = true then A else B :=
  ite2 (fun h => h1 (of_decide_eq_true h)) fun h => h2 fun z => h (decide_eq_true z)
end L2
set_option Elab.async false
set_option linter.all false
set_option maxRecDepth 100000
/-! LIST COMPREHENSIONS over the layer: [elt for x in iter], [elt for x in iter if c]. -/
namespace L2
open PySem PySem.W PySem.Spec PyProof.Rows
/-- the slots that the comprehension sees -/
def pick (idx : List Nat) (σ : St) : St := idx.map fun k => (σ[k]?).getD none
def AllCap (X : Cx) (cl : List (Str × Addr)) : List Str → Prop
  | [] => True
  | n :: r => (cl.lookup n = X.env.cells.lookup n ∧ X.env.kindOf n = some .cell) ∧ AllCap X cl r
theorem AllCap.mem {X : Cx} {cl : List (Str × Addr)} : ∀ {caps : List Str}, AllCap X cl caps → ∀ n ∈ caps, cl.lookup n = X.env.cells.lookup n ∧ X.env.kindOf n = some .cell
  | _ :: _, h, n, hn => by
    rcases List.mem_cons.mp hn with e | e
    · subst e; exact h.1
    · exact AllCap.mem h.2 n e
/-- the block of a comprehension -/
abbrev Cx.comp (X : Cx) (sc : Scope) (cl : List (Str × Addr)) (x : Str) (caps : List Str) (s0 : Shared) (H0 : Hp) (C : Addr) (fp : List Addr) : Cx :=
  { prog := X.prog, w := X.w, K := X.K, mg := X.mg, base := X.base, A := X.A, N := x :: caps, s₀ := s0, H₀ := H0, env := compEnvC sc cl C X.env, outer := X.stack, stack := X.stack, ex := fp, fn := fun _ => false, calm := X.calm, pn := [], xe := fun _ _ => False }
/-- what is to be known of the scopes -/
structure CompOk (X : Cx) (sc : Scope) (cl : List (Str × Addr)) (x : Str) (caps : List Str) (idx : List Nat) : Prop where
  clos : closureFor sc X.env = pure cl
  nocell : ∀ y ∈ sc.names, y.2 ≠ .cell
  kind : sc.kind = .function
  names : ∀ y ∈ sc.names, y.2 = .local → sc.names.lookup y.1 = some .local
  xl : sc.names.lookup x = some .local
  free : ∀ y ∈ sc.names, y.2 = .free → y.1 ∈ caps
  cln : cl.map Prod.fst = caps
  cap : AllCap X cl caps
  nd : (x :: caps).Nodup
  ix : idx.map (fun k => X.N[k]?) = caps.map some
  notloc : ∀ y ∈ caps, sc.names.lookup y ≠ some .local
theorem mem_fst_of_lookup {cl : List (Str × Addr)} {y : Str} {c : Addr} (h : cl.lookup y = some c) : y ∈ cl.map Prod.fst := List.mem_map.mpr ⟨(y, c), PySem.mem_of_lookup h, rfl⟩
section
variable {X : Cx} {sc : Scope} {cl : List (Str × Addr)} {x : Str} {caps : List Str} {idx : List Nat} {pins : List (Addr × Obj)} {σ : St} {H : Hp} {s : Shared} {C : Addr} {fp : List Addr}
theorem CompOk.cell (Z : CompOk X sc cl x caps idx) {y : Str} {c : Addr} (h : cl.lookup y = some c) : X.env.cells.lookup y = some c := by
  have hm : y ∈ caps := by rw [← Z.cln]; exact mem_fst_of_lookup h
  rw [← (Z.cap.mem y hm).1]
  exact h
theorem relabel_mem {env : Env} {y : Str} {k : NameKind} (h : (relabel sc env).names.lookup y = some k) (hk : k = .cell ∨ k = .free) : ∃ k0, (y, k0) ∈ sc.names ∧ (k0 = .cell ∨ k0 = .free) := by
  have hm := PySem.mem_of_lookup h
  obtain ⟨⟨n, k0⟩, h1, h2⟩ := List.mem_map.mp hm
  dsimp only at h2
  by_cases hc : (k0 == NameKind.free && env.scope.kind == .function && env.kindOf n == some .cell) = true
  · rw [if_pos hc] at h2
    cases h2
    simp only [Bool.and_eq_true, beq_iff_eq] at hc
    exact ⟨k0, h1, .inr hc.1.1⟩
  · rw [if_neg hc] at h2
    cases h2
    exact ⟨k, h1, hk⟩
/-- the block begins -/
theorem Inv.comp (I : Inv X pins σ H s) (Z : CompOk X sc cl x caps idx) (hC : s.heap.objs.size ≤ C) {h' : Heap} {t' : Nat} (k : ∀ b o, s.heap.get? b = some o → h'.get? b = some o) {m : Str → Option Value} (hn : h'.Ns C m) (hf : ∀ b ∈ fp, FpOk X pins H b) (hfp : ∀ b ∈ fp, b < s.heap.objs.size) :
    Inv (X.comp sc cl x caps s H C fp) [] (none :: pick idx σ) H { s with heap := h', toks := t' } := by
  have nC : ∀ b o, s.heap.get? b = some o → b ≠ C := fun b o q => Nat.ne_of_lt (Nat.lt_of_lt_of_le (Heap.lt_size q) hC)
  have hHC : H C = none := I.hok.fresh hC
  refine ⟨⟨I.ok.mod, Z.kind, I.ok.glob, I.ok.blt, hC, fun y z c h1 h2 => I.ok.inj y z c (Z.cell h1) (Z.cell h2), fun y hy => ?_, fun y c z => (nomatch z), I.ok.hd, I.ok.frames, .inl rfl, fun b hb => ⟨Nat.ne_of_lt (Nat.lt_of_lt_of_le (hfp b hb) hC), fun y c q => (hf b hb).2.2.2.2.1 y c (Z.cell q)⟩, fun b o q => ?_, ?_, fun b o q z => ?_, fun b hb z => ?_, I.stack, fun b hb => I.stkFree b hb⟩,
    rfl, I.bare, Un.kept k, ⟨m, hn, fun i y v e1 e2 e3 => ?_⟩, fun y c q => ?_, hHC, fun y c q => I.freeC y c (Z.cell q), fun p hp => (nomatch hp), I.hok.kept k, ?_⟩
  · obtain ⟨k0, h1, h2⟩ := hy.elim (fun z => relabel_mem (sc := sc) (env := X.env) z (.inl rfl)) (fun z => relabel_mem (sc := sc) (env := X.env) z (.inr rfl))
    have hm : y ∈ caps := Z.free (y, k0) h1 (h2.resolve_left (Z.nocell (y, k0) h1))
    obtain ⟨q1, q2⟩ := Z.cap.mem y hm
    obtain ⟨c, q3⟩ := I.ok.has y (.inl q2)
    exact ⟨c, q1.trans q3⟩
  · exact ⟨I.bk b o q, I.base.free b o (I.ok.bs b o q).1 (I.ok.bs b o q).2 (I.ok.noex b o q)⟩
  · exact Nat.le_trans I.ok.bsz I.sz
  · obtain ⟨_, _, _, h1, _⟩ := hf b z
    rcases h1 with h1 | h1
    · exact I.ok.noex b o q h1
    · exact absurd (Nat.lt_of_lt_of_le (Heap.lt_size q) (Nat.le_trans I.ok.bsz h1)) (Nat.lt_irrefl _)
  · obtain ⟨_, h1, h2, _⟩ := hf b hb
    rcases List.mem_cons.mp (I.stkSub b z) with e | e
    · exact h1 e
    · exact h2 e
  · cases i with
    | zero => cases e2
    | succ j =>
      have e1 : caps[j]? = some y := e1
      have e2 : (pick idx σ)[j]? = some (some v) := e2
      have hix := congrArg (fun l => l[j]?) Z.ix
      simp only [List.getElem?_map, e1, Option.map_some] at hix
      unfold pick at e2
      rw [List.getElem?_map] at e2
      cases hk : idx[j]? with
      | none => rw [hk] at e2; cases e2
      | some kk =>
        rw [hk] at e2 hix
        simp only [Option.map_some, Option.some.injEq] at e2 hix
        have e4 : σ[kk]? = some (some v) := by
          cases hs : σ[kk]? with
          | none => rw [hs] at e2; cases e2
          | some o => rw [hs] at e2; exact congrArg some e2
        have hm : y ∈ caps := List.mem_of_getElem? e1
        obtain ⟨q1, q2⟩ := Z.cap.mem y hm
        obtain ⟨mX, _, hl⟩ := I.loc
        obtain ⟨u, r, lk⟩ := hl kk y v hix e4 (.inr (.inl q2))
        refine ⟨u, r, ?_⟩
        rcases lk with ⟨z, _⟩ | ⟨_, c, q3, q4⟩
        · rw [q2] at z; cases z
        · have vis : (compEnvC sc cl C X.env).kindOf y = some .cell ∨ (compEnvC sc cl C X.env).kindOf y = some .free := by
            rcases e3 with z | z | z
            · exfalso
              have hm2 := PySem.mem_of_lookup z
              obtain ⟨⟨n0, k0⟩, h1, h2⟩ := List.mem_map.mp hm2
              dsimp only at h2
              by_cases hc : (k0 == NameKind.free && X.env.scope.kind == .function && X.env.kindOf n0 == some .cell) = true
              · rw [if_pos hc] at h2; cases h2
              · rw [if_neg hc] at h2
                cases h2
                exact Z.notloc y hm (Z.names _ h1 rfl)
            · exact .inl z
            · exact .inr z
          exact .inr ⟨vis, c, q1.trans q3, q4.keeps k⟩
  · obtain ⟨v, q1⟩ := I.cell y c (Z.cell q)
    exact ⟨v, q1.keeps k⟩
  · show (none :: pick idx σ).length = (x :: caps).length
    have := congrArg List.length Z.ix
    simp only [List.length_map] at this
    simp [pick, this]
/-- behind the block -/
theorem Inv.uncomp {pins' : List (Addr × Obj)} {σ' : St} {H' : Hp} {s' : Shared} (I : Inv X pins σ H s) (J : Inv (X.comp sc cl x caps s H C fp) pins' σ' H' s') (hf : ∀ b ∈ fp, FpOk X pins H b) : Inv X pins σ H' s' :=
  I.call' J.os J.base J.hok J.bare fun b hb => ⟨(hf b hb).2.2.2.1, (hf b hb).2.1, (hf b hb).2.2.2.2.1, (hf b hb).2.2.2.2.2⟩
end
section
variable {prog : Program} {w : World} {A : Around} {R : Result → Shared → Prop} {s : Shared}
/-- the loop of a comprehension -/
theorem comp_loop {elt target iter : Expr} {ifs : List Expr} {scope : Scope} {pos : Pos} {it acc : Value} {env : Env} (I : Nat → Shared → Prop)
    (turn : ∀ n s, I n s → wpAny (model prog w) A (pyNext it) (fun r s1 => match r with
      | none => R (.ok .next) s1
      | some v => wpAny (model prog w) A (letOwnedTupleGo target it v) (fun _ s1' => wpAny (model prog w) A (assign target env v) (fun _ s2 =>
          wpAny (model prog w) A (forIn ifs true fun c r => if r = true then do let ok ← isTrue c env (eval c env); pure (ForInStep.yield ok) else pure (ForInStep.yield r)) (fun ok s3 =>
            if ok = true then wpAny (model prog w) A (eval elt env) (fun x s4 =>
              wpAny (model prog w) A (call (.builtin "list.append") [acc, x]) (fun _ s5 => ∃ m, m < n ∧ I m s5) (fun _ _ => False) s4) (fun _ _ => False) s3
            else ∃ m, m < n ∧ I m s3) (fun _ _ => False) s2) (fun _ _ => False) s1') (fun _ _ => False) s1) (fun _ _ => False) s)
    (n : Nat) (h : I n s) : codeAny (model prog w) A (.compLoop (.ListComp elt [⟨target, iter, ifs, 0⟩] scope pos) 0 it acc env) R s := by
  refine codeAny_loop rfl I (fun n s hI => ?_) n h
  show wpAny _ A ((compTurn (.ListComp elt [⟨target, iter, ifs, 0⟩] scope pos) 0 it acc env).onRaise (fun x => do noteFrame x env; theTreesLotGoes x)) _ _ s
  refine wpAny_noted ?_
  rw [compTurn_list]
  refine wpAny_bind (wpAny_standAt (wpAny_bind (wpAny_mono (turn n s hI) (fun r s1 h1 => ?_) fun _ _ z => z.elim)))
  cases r with
  | none => exact wpAny_pure h1
  | some v =>
    refine wpAny_bind (wpAny_mono h1 (fun _ s1' h1' => wpAny_bind (wpAny_mono h1' (fun _ s2 h2 => wpAny_bind (wpAny_mono h2 (fun ok s3 h3 => ?_) fun _ _ z => z.elim)) fun _ _ z => z.elim)) fun _ _ z => z.elim)
    cases ok with
    | false => exact wpAny_pure ⟨rfl, h3⟩
    | true =>
      exact wpAny_bind (wpAny_bind (wpAny_mono h3 (fun x s4 h4 => wpAny_bind (wpAny_mono h4 (fun _ s5 h5 => wpAny_pure (wpAny_pure ⟨rfl, h5⟩)) fun _ _ z => z.elim)) fun _ _ z => z.elim))
end
/-- the tests of a comprehension -/
structure QIf (X : Cx) (ifs : List Expr) (t : TT) : Prop where
  ok : ∀ (pins : List (Addr × Obj)) (s : Shared) (σ : St) (H : Hp) (Q : Bool → Hp → Prop), Inv X pins σ H s → t σ H Q →
    wpAny (model X.prog X.w) X.A (forIn ifs true fun c r => if r = true then do let ok ← isTrue c X.env (eval c X.env); pure (ForInStep.yield ok) else pure (ForInStep.yield r)) (TP X pins σ Q) X.xe s
def tAlways : TT := fun _ H Q => Q true H
theorem qif_none {X : Cx} : QIf X [] tAlways := ⟨fun _ _ _ H _ I h => by
  rw [List.forIn_nil]
  exact wpAny_pure ⟨H, I, h⟩⟩
/-- the list that comes, turn by turn: the turn, a measure, the list so far -/
def CompW (J : It) (D : Addr) (p : St) (tt : TT) (te : TE) (Q : V → Hp → Prop) (H1 : Hp) : Prop := ∃ W : Nat → Nat → List V → Hp → Prop, (∃ m, W 0 m [] (upd H1 D (.lst []))) ∧ ∀ i m ys H, W i m ys H →
  H D = some (.lst ys) ∧ ((J.stop i H ∧ Q (.ref D) H) ∨ (J.go i H ∧ ∀ x H', J.yld i H x H' → tt (some x :: p) H' fun c H2 =>
    if c = true then te (some x :: p) H2 fun v H3 => H3 D = some (.lst ys) ∧ ys.length < sizeLine ∧ ∃ m', m' < m ∧ W (i + 1) m' (ys ++ [v]) (upd H3 D (.lst (ys ++ [v]))) else ∃ m', m' < m ∧ W (i + 1) m' ys H2))
def tCompL (wi : TI) (idx : List Nat) (tt : TT) (te : TE) (Q : V → Hp → Prop) : St → Hp → Prop := fun σ H => wi σ H fun J H1 => ∀ D, H1 D = none → CompW J D (pick idx σ) tt te Q H1
def tComp (wi : TI) (idx : List Nat) (tt : TT) (te : TE) : TE := fun σ H Q => tCompL wi idx tt te Q σ H
section
variable {X : Cx} {sc : Scope} {cl : List (Str × Addr)} {x : Str} {caps : List Str} {idx : List Nat} {wi : TI} {tt : TT} {te : TE} {elt iter : Expr} {ifs : List Expr} {pos px : Pos}
/-- the block, ahead of the letting go of its names -/
theorem comp_run {use : Option (Value → Sem Unit)} {Q : V → Hp → Prop} {Q' : Value → Shared → Prop} (hc : X.calm = true) (Z : CompOk X sc cl x caps idx) (hi : QI X (.Name x px) iter wi)
    (ht : ∀ s0 H0 C fp, QIf (X.comp sc cl x caps s0 H0 C fp) ifs tt) (he : ∀ s0 H0 C fp, QE (X.comp sc cl x caps s0 H0 C fp) elt te) (hs : ∀ z, foldedSetIterable iter X.env z = pure z)
    {pins : List (Addr × Obj)} {s : Shared} {σ : St} {H : Hp} (I : Inv X pins σ H s) (h : tCompL wi idx tt te Q σ H)
    (fin : ∀ (D C : Addr) (H' : Hp) (s' : Shared) (m : Str → Option Value), Inv X pins σ H' s' → s'.heap.Ns C m → (∀ h2 : Heap, ∀ t2 σ2 s2, Inv X pins σ2 H' s2 → (∀ b o, b ≠ C → s2.heap.get? b = some o → h2.get? b = some o) → Inv X pins σ2 H' { s2 with heap := h2, toks := t2 }) → C ≠ X.env.locals → (∀ y c, X.env.cells.lookup y = some c → c ≠ C) → Q (.ref D) H' → compPost (model X.prog X.w) X.A X.xe use Q' (.ref D) C (.ok .next) s') :
    wpAny (model X.prog X.w) X.A (comprehension (.ListComp elt [⟨.Name x px, iter, ifs, 0⟩] sc pos) sc X.env (firstIterPos [⟨.Name x px, iter, ifs, 0⟩] pos) (newList []) false (eval iter X.env) use) Q' X.xe s := by
  refine wpAny_comprehension_free rfl hs Z.clos Z.kind Z.names (thn (hi.ok pins s σ H _ I h) fun v s1 h1 => thn h1 fun itv s2 h2 => ?_)
  obtain ⟨it, fp, tn, J, H2, e, I2, T, st2, f2, qD⟩ := h2
  subst e
  refine wpAny_newObj_type (wpAny_newFunctionEnv (fun y hy => Z.nocell y hy) (by intro y hy; simp at hy) (fun h4 ns4 sb4 => ?_) Z.kind)
  dsimp only at ns4 sb4 ⊢
  have fD := I2.hok.fresh (Nat.le_refl s2.heap.objs.size)
  obtain ⟨W, ⟨m0, w0⟩, turn⟩ := qD s2.heap.objs.size fD
  have hlt : ∀ b ∈ fp, b < s2.heap.objs.size := fun b hb => by
    obtain ⟨o, q, _⟩ := T.obj 0 s2.heap st2 b hb
    exact Heap.lt_size q
  have I3 : Inv X pins σ (upd H2 s2.heap.objs.size (.lst [])) { s2 with heap := s2.heap.push { cls := .type "list", dict := none, data := .seq ([] : List Value).toArray }, toks := s2.toks } :=
    I2.laid (a := s2.heap.objs.size) (o := .lst []) (t' := s2.toks) (fun _ _ q => Heap.get?_push_of_some _ q) (Nat.le_refl _) ⟨Nat.zero_le _, [], 0, .nil, Heap.get?_push_size _ rfl⟩
  generalize hs3 : ({ s2 with heap := s2.heap.push { cls := .type "list", dict := none, data := .seq ([] : List Value).toArray }, toks := s2.toks } : Shared) = s3 at I3
  have e3 : s2.heap.push { cls := .type "list", dict := none, data := .seq ([] : List Value).toArray } = s3.heap := by rw [← hs3]
  rw [e3] at ns4 sb4
  have sz3 : s3.heap.objs.size = s2.heap.objs.size + 1 := by rw [← e3, Heap.size_push]
  have k34 : ∀ b o, s3.heap.get? b = some o → h4.get? b = some o := fun b o q => sb4.extBut b o (Nat.ne_of_lt (Heap.lt_size q)) (Heap.get?_push_of_some _ q)
  have f3 : ∀ b ∈ fp, FpOk X pins (upd H2 s2.heap.objs.size (.lst [])) b := fun b hb => ⟨by rw [upd_ne (Nat.ne_of_lt (hlt b hb))]; exact (f2 b hb).1, (f2 b hb).2⟩
  have J4 := I3.comp (t' := s2.toks + ([] : List (Str × Value)).length) Z (C := s3.heap.objs.size) (Nat.le_refl _) k34 ns4 f3 (fun b hb => by rw [sz3]; exact Nat.lt_succ_of_lt (hlt b hb))
  have tn4 : tn 0 h4 := T.keep 0 s2.heap h4 st2 fun b hb o q => k34 b o (by rw [← e3]; exact Heap.get?_push_of_some _ q)
  generalize hC : s3.heap.objs.size = C at *
  generalize hD : s2.heap.objs.size = D at *
  have hCL : C ≠ X.env.locals := by rw [← hC]; exact Nat.ne_of_gt I3.lt
  have hCc : ∀ y c, X.env.cells.lookup y = some c → c ≠ C := fun y c q => by
    obtain ⟨v, o, ho, _⟩ := I3.cell y c q
    rw [← hC]
    exact Nat.ne_of_lt (Heap.lt_size ho)
  have stat : ∀ {H' : Hp}, (∀ b ∈ fp, H' b = none) → ∀ b ∈ fp, FpOk (X.comp sc cl x caps s3 (upd H2 D (.lst [])) C fp) [] H' b := fun hn b hb =>
    ⟨hn b hb, by show b ≠ C; rw [sz3]; exact Nat.ne_of_lt (Nat.lt_succ_of_lt (hlt b hb)), fun z => by
      rcases List.mem_cons.mp (I3.stkSub b z) with q | q
      · exact (f2 b hb).2.1 q
      · exact (f2 b hb).2.2.1 q, .inl hb, fun y c q => (f2 b hb).2.2.2.2.1 y c (Z.cell q), fun p z => nomatch z⟩
  have loop : ∀ s5 : Shared, s5 = { s3 with heap := h4, toks := s2.toks + ([] : List (Str × Value)).length } →
      codeAny (model X.prog X.w) X.A (.compLoop (.ListComp elt [⟨.Name x px, iter, ifs, 0⟩] sc pos) 0 (.ref it) (.ref D) (compEnvC sc cl C X.env)) (compPost (model X.prog X.w) X.A X.xe use Q' (.ref D) C) s5 := by
    rintro s5 rfl
    refine comp_loop (fun n s' => ∃ i ys H', Inv (X.comp sc cl x caps s3 (upd H2 D (.lst [])) C fp) [] (none :: pick idx σ) H' s' ∧ tn i s'.heap ∧ (∀ b ∈ fp, H' b = none) ∧ W i n ys H') ?_ m0 ⟨0, [], _, J4, tn4, fun b hb => (f3 b hb).1, w0⟩
    rintro n s5 ⟨i, ys, H5, J5, st5, fr5, w5⟩
    obtain ⟨hD5, t5⟩ := turn i n ys H5 w5
    rcases t5 with ⟨stop, q5⟩ | ⟨go, step⟩
    · refine thn (T.done (X.comp sc cl x caps s3 (upd H2 D (.lst [])) C fp) rfl rfl rfl hc i [] s5 _ H5 _ J5 (stat fr5) st5 stop) fun r s6 ⟨hr, J6⟩ => ?_
      subst hr
      obtain ⟨m6, ns6, _⟩ := J6.loc
      have I6 := I3.uncomp J6 f3
      refine fin D C H5 s6 m6 I6 ns6 (fun h2 t2 σ2 s7 I7 k7 => ?_) hCL hCc q5
      refine I7.turned (it := C) k7 J6.free hCL (.inr ?_) hCc (fun p hp z => ?_)
      · rw [← hC]; exact I3.sz
      · have q := (I3.pin p hp).1
        rw [z, ← hC] at q
        exact absurd (Heap.lt_size q) (Nat.lt_irrefl _)
    · refine thn (T.item (X.comp sc cl x caps s3 (upd H2 D (.lst [])) C fp) rfl rfl rfl hc i [] s5 _ H5 _ J5 (stat fr5) st5 go) fun r s6 ⟨u, hr, h6⟩ => ?_
      subst hr
      refine thn h6 fun _ s6' ⟨xv, H6, J6, r6, y6, st6, fr6⟩ => ?_
      have J6' := J6.pinned (stat fr6) (T.obj _ _ st6)
      have again : ∀ {σ7 : St} {H7 : Hp} {s7 : Shared} {ys' : List V}, Inv (X.comp sc cl x caps s3 (upd H2 D (.lst [])) C fp) ([] ++ pinsAt fp s6'.heap) ((none :: pick idx σ).set 0 σ7.head?.join) H7 s7 → (∃ m', m' < n ∧ W (i + 1) m' ys' H7) →
          ∃ m, m < n ∧ ∃ i ys H', Inv (X.comp sc cl x caps s3 (upd H2 D (.lst [])) C fp) [] (none :: pick idx σ) H' s7 ∧ tn i s7.heap ∧ (∀ b ∈ fp, H' b = none) ∧ W i m ys H' := fun {σ7 H7 s7 ys'} J7 ⟨m', hm, w7⟩ => by
        refine ⟨m', hm, i + 1, ys', H7, (J7.unpinned (pins := [])).weak (by simp) (fun j v q => ?_), T.keep _ _ _ st6 fun b hb o e => (J7.pin (b, o) (List.mem_append_right _ (List.mem_append_right _ (mem_pinsAt hb e)))).1, fun b hb => ?_, w7⟩
        · cases j with
          | zero => cases q
          | succ j => exact q
        · obtain ⟨o, e, d⟩ := T.obj _ _ st6 b hb
          exact (J7.pin (b, o) (List.mem_append_right _ (List.mem_append_right _ (mem_pinsAt hb e)))).2.1
      have again' : ∀ {H7 : Hp} {s7 : Shared} {ys' : List V}, Inv (X.comp sc cl x caps s3 (upd H2 D (.lst [])) C fp) ([] ++ pinsAt fp s6'.heap) (some xv :: pick idx σ) H7 s7 → (∃ m', m' < n ∧ W (i + 1) m' ys' H7) →
          ∃ m, m < n ∧ ∃ i ys H', Inv (X.comp sc cl x caps s3 (upd H2 D (.lst [])) C fp) [] (none :: pick idx σ) H' s7 ∧ tn i s7.heap ∧ (∀ b ∈ fp, H' b = none) ∧ W i m ys H' := fun {H7 s7 ys'} J7 w7 => again (σ7 := [some xv]) J7 w7
      refine wpAny_assign_Name (store_ok J6' (i := 0) Z.nd rfl (.inl (lookup_relabel_local Z.xl)) r6 (fun s7 J7 => ?_) (.inr (lookup_relabel_local Z.xl)))
      have J7 : Inv (X.comp sc cl x caps s3 (upd H2 D (.lst [])) C fp) ([] ++ pinsAt fp s6'.heap) (some xv :: pick idx σ) H6 s7 := J7
      refine thn ((ht s3 (upd H2 D (.lst [])) C fp).ok _ s7 _ H6 _ J7 (step xv H6 y6)) fun ok s8 ⟨H8, J8, q8⟩ => ?_
      cases ok with
      | false => exact again' J8 q8
      | true =>
        refine thn ((he s3 (upd H2 D (.lst [])) C fp).ok _ s8 _ H8 _ J8 q8) fun u9 s9 ⟨v9, H9, J9, r9, hD9, hl9, q9⟩ => ?_
        refine thn (mt_append (X := X.comp sc cl x caps s3 (upd H2 D (.lst [])) C fp) _ s9 _ H9 (.ref D) [v9] (.ref D) [u9] (fun _ H10 => ∃ m', m' < n ∧ W (i + 1) m' (ys ++ [v9]) H10) J9 rfl (.cons r9 .nil) ⟨D, ys, v9, rfl, rfl, hD9, hl9, q9⟩) fun _ s10 ⟨_, H10, J10, _, q10⟩ => ?_
        exact again' J10 q10
  have start5 := loop _ rfl
  subst hs3
  subst hC
  exact codeAny_compStart_list start5 (T.self X.A 0 _ _ _ tn4 start5)
/-- [elt for x in iter if ..] -/
theorem qpe_comp (hc : X.calm = true) (Z : CompOk X sc cl x caps idx) (hi : QI X (.Name x px) iter wi) (ht : ∀ s0 H0 C fp, QIf (X.comp sc cl x caps s0 H0 C fp) ifs tt) (he : ∀ s0 H0 C fp, QE (X.comp sc cl x caps s0 H0 C fp) elt te)
    (hs : ∀ z, foldedSetIterable iter X.env z = pure z := by intro _; rfl) : QE X (.ListComp elt [⟨.Name x px, iter, ifs, 0⟩] sc pos) (tComp wi idx tt te) := ⟨fun pins s σ H Q I h => by
  rw [eval_ListComp]
  refine comp_run (use := none) hc Z hi ht he hs I h fun D C H' s' m I' ns hC _ _ q => ⟨m, ns, fun h2 sb => ?_⟩
  exact ⟨.ref D, H', hC h2 s'.toks σ s' I' fun b o nb z => sb.extBut b o nb z, rfl, q⟩⟩
/-- y = [elt for x in iter if ..], where the store comes ahead of the letting go of x -/
theorem qps_comp {i : Nat} {y : Str} {py spos : Pos} (hc : X.calm = true) (hN : X.N.Nodup) (hy : X.N[i]? = some y) (hl : X.env.kindOf y = some .local) (Z : CompOk X sc cl x caps idx) (hi : QI X (.Name x px) iter wi)
    (ht : ∀ s0 H0 C fp, QIf (X.comp sc cl x caps s0 H0 C fp) ifs tt) (he : ∀ s0 H0 C fp, QE (X.comp sc cl x caps s0 H0 C fp) elt te) (hsw : swapsWith (.ListComp elt [⟨.Name x px, iter, ifs, 0⟩] sc pos) (some (.Name y py)) spos.line X.env = pure true := by rfl)
    (hs : ∀ z, foldedSetIterable iter X.env z = pure z := by intro _; rfl) : QS X (.Assign [.Name y py] (.ListComp elt [⟨.Name x px, iter, ifs, 0⟩] sc pos) spos) (tAsg (tComp wi idx tt te) (gName i)) := ⟨fun pins s σ H D I h => by
  rw [exec_Assign_Name_used _ _ _ _ hsw]
  refine wpAny_bind (wpAny_standAt (wpAny_bind ?_))
  show wpAny _ X.A (do let _ ← comprehension (.ListComp elt [⟨.Name x px, iter, ifs, 0⟩] sc pos) sc X.env _ (newList []) false (eval iter X.env) (some (assign (.Name y py) X.env))) _ _ s
  refine wpAny_bind (thn (comp_run (use := some (assign (.Name y py) X.env)) (Q := fun v H1 => D.nx (σ.set i (some v)) H1) (Q' := fun _ s' => SP X pins D .next s') hc Z hi ht he hs I h fun L C H' s' m I' ns hC nL nc q => ?_) fun _ s' z => wpAny_pure (wpAny_pure z))
  refine wpAny_assign_Name (store_ok2 I' hN hy (.inl hl) (v := .ref L) rfl (fun s2 I2 ⟨a, sb, ha⟩ => ?_) (.inr hl))
  have na : a ≠ C := by
    rcases ha with e | e
    · rw [e]; exact Ne.symm nL
    · exact nc y a e
  refine ⟨m, ns.sameBut sb (Ne.symm na), fun h2 sb2 => ?_⟩
  exact ⟨_, H', hC h2 s2.toks _ s2 I2 fun b o nb z => sb2.extBut b o nb z, q⟩⟩
end
end L2
set_option Elab.async false
set_option linter.all false
set_option maxRecDepth 100000
/-! MORE RULES: the layer's others wrapped; all, any, min of three; == and != of lists, tuples, left numbers; slices with a step; list(range(..)). -/
namespace L2
open PySem PySem.W PySem.Spec PyProof.Rows
theorem bt_all : bootBuiltins "all" = some (.builtin "all") := by decide +kernel
theorem bt_min : bootBuiltins "min" = some (.builtin "min") := by decide +kernel
theorem bt_max : bootBuiltins "max" = some (.builtin "max") := by decide +kernel
theorem bt_list : bootBuiltins "list" = some (.type "list") := by decide +kernel
section
variable {es : List Expr} {env : Env} {pos : Pos}
theorem star_ListComp {a : Expr} {gs : List Comprehension} {sc : Scope} : starEach (.ListComp a gs sc pos :: es) env = (false, eval (.ListComp a gs sc pos) env) :: starEach es env := by rw [starEach]; intro e p z; cases z
end
structure QO (X : Cx) (e : Option Expr) (t : TO) : Prop where
  ok : PO X e t
section
variable {X : Cx} {a b c e l o i : Expr} {es : List Expr} {ta tb tc te tl to ti : TE} {tA : TT} {t : TA} {pos p p2 : Pos} {lo hi : Option Expr} {tlo thi : TO} {tg : Expr}
theorem qpo_none : QO X none tNoPart := ⟨po_none⟩
theorem qpo_some (h : QE X e te) : QO X (some e) (tPart te) := ⟨po_some h.ok⟩
theorem qpe_slice {r : V → Option Int → Option Int → Hp → VK → Prop} (hr : SlR X r) (he : QE X e te) (hl : QO X lo tlo) (hu : QO X hi thi) : QE X (.Subscript e (.Slice lo hi none p2) pos) (tSl r te tlo thi) := ⟨pe_slice hr he.ok hl.ok hu.ok⟩
theorem qpe_chain {op op' : CmpOp} {r r' : R2} (ho : OpR X (compareOp op) r) (ho' : OpR X (compareOp op') r') (ha : QE X a ta) (hb : QE X b tb) (hc : QE X c tc)
    (hm : lastMarks [op, op'] [b, c] = false := by with_unfolding_all rfl) : QE X (.Compare a [op, op'] [b, c] pos) (tChain r r' ta tb tc) := ⟨pe_chain ho ho' ha.ok hb.ok hc.ok hm⟩
theorem qpt_chain {op op' : CmpOp} {r r' : R2} (ho : OpR X (compareOp op) r) (ho' : OpR X (compareOp op') r') (ha : QE X a ta) (hb : QE X b tb) (hc : QE X c tc)
    (hm : lastMarks [op, op'] [b, c] = false := by with_unfolding_all rfl) : QT X (.Compare a [op, op'] [b, c] pos) (tTest (tChain r r' ta tb tc)) := ⟨pt_chain ho ho' ha.ok hb.ok hc.ok hm⟩
theorem qpe_callTy {T : String} {x : Str} {r : List V → Hp → VK → Prop} (hc : CallR X (.type T) r) (hg : Gl X x) (hm : X.mg x = none) (hv : bootBuiltins x = some (.type T)) (ha : QA X (e :: es) t) (hn : x ≠ "__name__" := by decide) (hdb : (x == ("__debug__" : Str)) = false := by decide)
    (he : starEach (e :: es) X.env = (false, eval e X.env) :: starEach es X.env := by rfl) (hpl : (backTo pos (starEach es X.env)).any (·.1) = false := by rfl) : QE X (.Call (.Name x p) (e :: es) [] pos) (tCB r t) := ⟨pe_callTy hc hg hm hv ha.ok hn hdb he hpl⟩
/-! ### min of three, all, any -/
theorem getD_bool {bs : List Bool} {its : List Value} (rv : Vals (bs.map V.bl) its) {i : Nat} {v : Value} (hv : its.toArray[i]? = some v) : v = .bool (bs.getD i false) := by
  have hl := rv.length
  have hi : its[i]? = some v := by simpa using hv
  have hb : i < bs.length := by
    have := (List.getElem?_eq_some_iff.mp hi).1
    rw [← hl, List.length_map] at this
    exact this
  obtain ⟨u, hu, ru⟩ := rv.get (x := V.bl bs[i]) (by rw [List.getElem?_map, List.getElem?_eq_getElem hb]; rfl)
  rw [hi] at hu
  cases hu
  have e : bs.getD i false = bs[i] := by rw [List.getD_eq_getElem?_getD, List.getElem?_eq_getElem hb]; rfl
  rw [e]
  exact ru
theorem range_bools (bs : List Bool) : (List.range bs.length).map (fun i => bs.getD i false) = bs := by
  refine List.ext_getElem (by simp) fun i h1 h2 => ?_
  simp [h2]
/-- all(a list of truths) -/
theorem call_allL (hc : X.calm = true) : CallR X (.builtin "all") (fun xs H Q => ∃ (p : Addr) (bs : List Bool), xs = [.ref p] ∧ SqL X.K H p (bs.map V.bl) ∧ Q (.bl (bs.all id)) H) := by
  intro pins s σ H xs us Q I r h
  obtain ⟨p, bs, rfl, hp, q⟩ := h
  cases r with
  | cons r rr =>
    cases rr
    cases (show _ = Value.ref p from r)
    obtain ⟨its, rv, pl, hz⟩ := I.list hp
    have hl := rv.length
    have hs : its.toArray.size = bs.length := by rw [List.size_toArray, ← hl, List.length_map]
    have ho : (s.heap.push { cls := .type "list_iterator", data := .fields #[.ref p, .int 0 0] }).IsListIter s.heap.objs.size p 0 := ⟨_, Heap.get?_push_size _ rfl, rfl, rfl⟩
    have np : p ≠ s.heap.objs.size := by
      obtain ⟨o, ho, _⟩ := pl.isList
      exact Nat.ne_of_lt (Heap.lt_size ho)
    refine call_all_walk (wpAny_pyIter_list pl.isList ⟨s.heap.objs.size, _, _, _, _, _, fun i => bs.getD i false, rfl, Walks.list (A := X.A.in1) (I.ok.hd hc) _ _ np its.toArray, ⟨ho, pl.isList.at fun o e => Heap.get?_push_of_some _ e⟩, fun i v s Q E hv hq => ?_, fun h' tk k => ?_⟩)
    · rw [getD_bool rv hv]
      exact wpAny_pure hq
    · have e : (List.range its.toArray.size).all (fun i => bs.getD i false) = bs.all id := by
        rw [hs]
        conv => rhs; rw [← range_bools bs]
        rw [List.all_map]
        rfl
      refine ⟨.bl (bs.all id), H, I.kept (t' := tk) fun b o q => ?_, by rw [← e]; rfl, q⟩
      exact k b o (fun z => Nat.ne_of_lt (Heap.lt_size q) (by simpa using z)) (Heap.get?_push_of_some _ q)
/-! ### == of lists and tuples -/
/-- x == y as items, at any place -/
def Eqs (X : Cx) (k : Nat) (H : Hp) (x y : V) (e : Bool) : Prop := ∀ (pins : List (Addr × Obj)) (s : Shared) (σ : St) (A : Around) (u v : Value), Inv X pins σ H s → A.units + k < cLine → RelV x u → RelV y v → SeqAt.EqAt A s u v e
theorem Eqs.flat {H : Hp} {x y : V} (fx : flatV x = true) (fy : flatV y = true) {k : Nat} : Eqs X k H x y (eqV x y) := fun _ _ _ _ _ _ _ _ rx ry => eqAt_V rx ry fx fy
/-- two lists of items -/
def sameE (e : Nat → Bool) (xs ys : List V) : Bool := (List.range (min xs.length ys.length)).all e && xs.length == ys.length
theorem item_rel {xs : List V} {its : List Value} (r : Vals xs its) {j : Nat} (hj : j < its.toArray.size) (hx : j < xs.length) : RelV xs[j] its.toArray[j] := by
  obtain ⟨u, hu, ru⟩ := r.get (List.getElem?_eq_getElem hx)
  have : its.toArray[j] = u := by
    have h1 := (List.getElem?_eq_some_iff.mp hu).2
    simpa using h1
  rw [this]
  exact ru
theorem Eqs.tup {H : Hp} {a b : Addr} {xs ys : List V} {k : Nat} {e : Nat → Bool} (ha : SqT X.K H a xs) (hb : SqT X.K H b ys) (he : ∀ j (h1 : j < xs.length) (h2 : j < ys.length), Eqs X k H xs[j] ys[j] (e j)) (refl : xs = ys → sameE e xs ys = true) : Eqs X (k + 1) H (.ref a) (.ref b) (sameE e xs ys) :=
  fun pins s σ A u v I hu rx ry => by
  cases (show u = Value.ref a from rx)
  cases (show v = Value.ref b from ry)
  by_cases hab : a = b
  · subst hab
    have := refl (I.tuple_inj ha hb)
    rw [this]
    exact SeqAt.EqAt.same _
  · obtain ⟨its, r1, p1, _⟩ := I.tuple ha
    obtain ⟨its2, r2, p2, _⟩ := I.tuple hb
    have l1 : its.toArray.size = xs.length := by rw [List.size_toArray, ← r1.length]
    have l2 : its2.toArray.size = ys.length := by rw [List.size_toArray, ← r2.length]
    have main := SeqAt.RcAt.tuples (A := A) (s := s) (e := e) (show s.heap.IsTuple a its.toArray from p1) (show s.heap.IsTuple b its2.toArray from p2) (by omega) (fun j h1 h2 =>
      he j (by omega) (by omega) pins s σ A.in1 _ _ I (by show A.units + 1 + k < cLine; omega) (item_rel r1 h1 (by omega)) (item_rel r2 h2 (by omega)))
    rw [l1, l2] at main
    exact SeqAt.EqAt.of_refs hab main
/-- == of two tuples, of two lists -/
def rEqD (X : Cx) (neg : Bool) : R2 := fun x y H Q => ∃ (a b : Addr) (xs ys : List V) (e : Nat → Bool), x = .ref a ∧ y = .ref b ∧ ((SqT X.K H a xs ∧ SqT X.K H b ys) ∨ (SqL X.K H a xs ∧ SqL X.K H b ys)) ∧ (∀ j (h1 : j < xs.length) (h2 : j < ys.length), Eqs X 32 H xs[j] ys[j] (e j)) ∧ Q (.bl (if neg then !sameE e xs ys else sameE e xs ys)) H
theorem lists_len {e : Nat → Bool} {xs ys : List V} (h : xs.length ≠ ys.length) : sameE e xs ys = false := by
  unfold sameE
  rw [show (xs.length == ys.length) = false from beq_eq_false_iff_ne.mpr h, Bool.and_false]
theorem op_neD (hu : X.A.units + 40 < cLine) : OpR X (compareOp .NotEq) (rEqD X true) := by
  intro pins s σ H x y v u Q I rx ry h
  obtain ⟨a, b, xs, ys, e, rfl, rfl, hab, he, q⟩ := h
  cases rx
  cases ry
  rcases hab with ⟨ha, hb⟩ | ⟨ha, hb⟩
  · obtain ⟨its, r1, p1, _⟩ := I.tuple ha
    obtain ⟨its2, r2, p2, _⟩ := I.tuple hb
    have l1 : its.toArray.size = xs.length := by rw [List.size_toArray, ← r1.length]
    have l2 : its2.toArray.size = ys.length := by rw [List.size_toArray, ← r2.length]
    have main := SeqAt.RcNeAt.tuples (A := X.A) (s := s) (e := e) (show s.heap.IsTuple a its.toArray from p1) (show s.heap.IsTuple b its2.toArray from p2) (by omega) (fun j h1 h2 =>
      he j (by omega) (by omega) pins s σ X.A.in1 _ _ I (by show X.A.units + 1 + 32 < cLine; omega) (item_rel r1 h1 (by omega)) (item_rel r2 h2 (by omega)))
    rw [l1, l2] at main
    exact main _ _ _ _ ⟨.bl (!sameE e xs ys), H, I, rfl, q⟩
  · obtain ⟨its, r1, p1, _⟩ := I.list ha
    obtain ⟨its2, r2, p2, _⟩ := I.list hb
    have l1 : its.toArray.size = xs.length := by rw [List.size_toArray, ← r1.length]
    have l2 : its2.toArray.size = ys.length := by rw [List.size_toArray, ← r2.length]
    by_cases hl : xs.length = ys.length
    · have main := SeqAt.RcNeAt.lists (A := X.A) (s := s) (e := e) p1.isList p2.isList (by omega) (by omega) (fun j h1 h2 =>
        he j (by omega) (by omega) pins s σ X.A.in1 _ _ I (by show X.A.units + 1 + 32 < cLine; omega) (item_rel r1 h1 (by omega)) (item_rel r2 h2 (by omega)))
      have es : (List.range its.toArray.size).all e = sameE e xs ys := by
        unfold sameE
        rw [l1, ← hl, Nat.min_self, beq_self_eq_true, Bool.and_true]
      rw [es] at main
      exact main _ _ _ _ ⟨.bl (!sameE e xs ys), H, I, rfl, q⟩
    · have main := SeqAt.RcNeAt.lists_lengths (A := X.A) (s := s) p1.isList p2.isList (by rw [l1, l2, bne_iff_ne]; exact hl) (by omega)
      rw [if_pos rfl, lists_len hl] at q
      exact main _ _ _ _ ⟨.bl true, H, I, rfl, q⟩
end
end L2
set_option Elab.async false
set_option linter.all false
set_option maxRecDepth 100000
/-! == of ints, truths and left numbers; comprehensions whose items are plain; slices with a step; list(range(..)) -/
namespace L2
open PySem PySem.W PySem.Spec PyProof.Rows
theorem OpR.of {X : Cx} {f : Value → Value → Sem Value} {r r' : R2} (h : OpR X f r) (k : ∀ x y H Q, r' x y H Q → r x y H Q) : OpR X f r' := fun pins s σ H x y v u Q I rx ry q => h pins s σ H x y v u Q I rx ry (k x y H Q q)
/-! ### flat items -/
def eF (xs ys : List V) : Nat → Bool := fun j => eqV (xs.getD j .non) (ys.getD j .non)
theorem getD_lt {xs : List V} {j : Nat} (h : j < xs.length) : xs.getD j .non = xs[j] := by rw [List.getD_eq_getElem?_getD, List.getElem?_eq_getElem h]; rfl
theorem eqs_flat {X : Cx} {k : Nat} {H : Hp} {xs ys : List V} (fx : xs.all flatV = true) (fy : ys.all flatV = true) : ∀ j (h1 : j < xs.length) (h2 : j < ys.length), Eqs X k H xs[j] ys[j] (eF xs ys j) := fun j h1 h2 => by
  unfold eF
  rw [getD_lt h1, getD_lt h2]
  exact Eqs.flat (List.all_eq_true.mp fx _ (List.getElem_mem h1)) (List.all_eq_true.mp fy _ (List.getElem_mem h2))
theorem int_flat (ns : List Int) : (ns.map V.int).all flatV = true := by rw [List.all_eq_true]; intro v hv; obtain ⟨n, _, rfl⟩ := List.mem_map.mp hv; rfl
theorem same_ints (ns ms : List Int) : sameE (eF (ns.map V.int) (ms.map V.int)) (ns.map V.int) (ms.map V.int) = decide (ns = ms) := by
  rw [← ints_same]
  unfold sameE
  rw [List.length_map, List.length_map]
  congr 1
  rw [Bool.eq_iff_iff, List.all_eq_true, List.all_eq_true]
  have key : ∀ j ∈ List.range (min ns.length ms.length), eF (ns.map V.int) (ms.map V.int) j = (ns.getD j 0 == ms.getD j 0) := fun j hj => by
    have h := List.mem_range.mp hj
    have h1 : j < ns.length := by omega
    have h2 : j < ms.length := by omega
    unfold eF
    rw [getD_lt (by rw [List.length_map]; exact h1), getD_lt (by rw [List.length_map]; exact h2), List.getElem_map, List.getElem_map, List.getD_eq_getElem?_getD, List.getD_eq_getElem?_getD, List.getElem?_eq_getElem h1, List.getElem?_eq_getElem h2]
    rfl
  exact ⟨fun h j hj => (key j hj).symm.trans (h j hj), fun h j hj => (key j hj).trans (h j hj)⟩
section
variable {X : Cx}
/-! ### left numbers -/
/-- at a stands the left number (p, l, fs) -/
def LeftAt (K : PySem.W.Frag) (H : Hp) (a : Addr) (p l : Int) (fs : List Int) : Prop := ∃ b, H a = some (.tup [.int p, .int l, .ref b]) ∧ H b = some (.tup (fs.map V.int))
theorem LeftAt.same {K : PySem.W.Frag} {H H' : Hp} {a : Addr} {p l : Int} {fs : List Int} (h : LeftAt K H a p l fs) (g : Same H H') : LeftAt K H' a p l fs := by
  obtain ⟨b, h1, h2⟩ := h
  exact ⟨b, g _ _ h1, g _ _ h2⟩
def rEqL (K : PySem.W.Frag) (neg : Bool) : R2 := fun x y H Q => ∃ (a b : Addr) (p l p' l' : Int) (fs fs' : List Int), x = .ref a ∧ y = .ref b ∧ LeftAt K H a p l fs ∧ LeftAt K H b p' l' fs' ∧ Q (.bl (if neg then !decide (p = p' ∧ l = l' ∧ fs = fs') else decide (p = p' ∧ l = l' ∧ fs = fs'))) H
theorem rEqL.d {neg : Bool} {x y : V} {H : Hp} {Q : VK} (h : rEqL X.K neg x y H Q) : rEqD X neg x y H Q := by
  obtain ⟨a, b, p, l, p', l', fs, fs', rfl, rfl, ⟨c, h1, h2⟩, ⟨c', h1', h2'⟩, q⟩ := h
  have h1 := SqT.of (K := X.K) h1
  have h2 := SqT.of (K := X.K) h2
  have h1' := SqT.of (K := X.K) h1'
  have h2' := SqT.of (K := X.K) h2'
  have hin : Eqs X 32 H (.ref c) (.ref c') (sameE (eF (fs.map V.int) (fs'.map V.int)) (fs.map V.int) (fs'.map V.int)) := Eqs.tup (k := 31) h2 h2' (eqs_flat (int_flat fs) (int_flat fs')) (fun z => by
    rw [same_ints]
    exact decide_eq_true ((List.map_inj_right (fun a b z => V.int.inj z)).mp z))
  rw [same_ints] at hin
  refine ⟨a, b, _, _, fun j => match j with | 0 => p == p' | 1 => l == l' | _ => decide (fs = fs'), rfl, rfl, .inl ⟨h1, h1'⟩, fun j j1 j2 => ?_, ?_⟩
  · match j, j1 with
    | 0, _ => exact Eqs.flat (x := .int p) (y := .int p') rfl rfl
    | 1, _ => exact Eqs.flat (x := .int l) (y := .int l') rfl rfl
    | 2, _ => exact hin
    | j + 3, j1 => exact absurd j1 (by simp)
  · have e : sameE (fun j => match j with | 0 => p == p' | 1 => l == l' | _ => decide (fs = fs')) [V.int p, V.int l, V.ref c] [V.int p', V.int l', V.ref c'] = decide (p = p' ∧ l = l' ∧ fs = fs') := by
      show (((List.range 3).all fun j => match j with | 0 => p == p' | 1 => l == l' | _ => decide (fs = fs')) && true) = _
      rw [Bool.and_true, Bool.eq_iff_iff, decide_eq_true_iff]
      simp [List.range, List.range.loop]
    rw [e]
    exact q
theorem op_neL (hu : X.A.units + 40 < cLine) : OpR X (compareOp .NotEq) (rEqL X.K true) := (op_neD hu).of fun _ _ _ _ h => h.d
end
theorem Room.u40 {k : Nat} {A : Around} (r : Room k A) : A.units + 40 < cLine := by have := r.un; omega
/-! ### comprehensions with plain items -/
/-- what a walk of n turns over the items it tells -/
structure Plain (J : It) (xs : List V) (Hs : Hp → Prop) : Prop where
  stop : ∀ H, Hs H → J.stop xs.length H
  go : ∀ i H, i < xs.length → Hs H → J.go i H
  yld : ∀ i H x H', i < xs.length → Hs H → J.yld i H x H' → H' = H ∧ xs[i]? = some x
theorem plain_list {K : PySem.W.Frag} {a : Addr} {xs : List V} : Plain (Itl K a) xs (fun H => SqL K H a xs) where
  stop := fun H h => ⟨xs, h, Nat.le_refl _⟩
  go := fun i H hi h => ⟨xs, xs[i], h, List.getElem?_eq_getElem hi⟩
  yld := fun i H x H' _ h y => ⟨y.1, y.2 xs h⟩
theorem plain_tup {K : PySem.W.Frag} {a : Addr} {xs : List V} : Plain (Itt K a) xs (fun H => SqT K H a xs) where
  stop := fun H h => ⟨xs, h, Nat.le_refl _⟩
  go := fun i H hi h => ⟨xs, xs[i], h, List.getElem?_eq_getElem hi⟩
  yld := fun i H x H' _ h y => ⟨y.1, y.2 xs h⟩
theorem plain_range {lo : Int} {n : Nat} : Plain (Itr lo n) ((List.range n).map fun i : Nat => V.int (lo + i)) (fun _ => True) where
  stop := fun H _ => by show n ≤ _; simp
  go := fun i H hi _ => by show i < n; simpa using hi
  yld := fun i H x H' hi _ y => ⟨y.1, by
    have hi : i < n := by simpa using hi
    rw [y.2, List.getElem?_map, List.getElem?_range hi]
    rfl⟩
/-- the list of what comes: f of the items for which c -/
theorem comp_plain {J : It} {xs : List V} {Hs : Hp → Prop} {p : St} {tt : TT} {te : TE} {Q : V → Hp → Prop} {H1 : Hp} {D : Addr} (c : V → Bool) (f : V → V) (P : Plain J xs Hs) (hz : xs.length < sizeLine) (hD : H1 D = none) (hs : ∀ ys, Hs (upd H1 D (.lst ys)))
    (ht : ∀ x ∈ xs, ∀ ys (R : Bool → Hp → Prop), R (c x) (upd H1 D (.lst ys)) → tt (some x :: p) (upd H1 D (.lst ys)) R)
    (he : ∀ x ∈ xs, c x = true → ∀ ys (R : V → Hp → Prop), R (f x) (upd H1 D (.lst ys)) → te (some x :: p) (upd H1 D (.lst ys)) R)
    (q : Q (.ref D) (upd H1 D (.lst ((xs.filter c).map f)))) : CompW J D p tt te Q H1 := by
  refine ⟨fun i m ys H => m = xs.length - i ∧ i ≤ xs.length ∧ ys = ((xs.take i).filter c).map f ∧ H = upd H1 D (.lst ys), ⟨xs.length, by simp, Nat.zero_le _, rfl, rfl⟩, ?_⟩
  rintro i m ys H ⟨rfl, hi, hys, rfl⟩
  refine ⟨upd_same, ?_⟩
  by_cases hlt : i < xs.length
  · refine .inr ⟨P.go i _ hlt (hs ys), fun x H' y => ?_⟩
    obtain ⟨rfl, hx⟩ := P.yld i _ x H' hlt (hs ys) y
    have hm : x ∈ xs := List.mem_of_getElem? hx
    have tk : xs.take (i + 1) = xs.take i ++ [x] := by rw [List.take_succ, hx]; rfl
    have ylen : ys.length ≤ i := by
      rw [hys, List.length_map]
      exact Nat.le_trans (List.length_filter_le _ _) (by rw [List.length_take]; exact Nat.min_le_left _ _)
    refine ht x hm ys _ ?_
    cases hc : c x with
    | false =>
      refine iteF ⟨xs.length - (i + 1), by omega, rfl, hlt, ?_, rfl⟩
      rw [tk, List.filter_append, hys]
      simp [hc]
    | true =>
      refine iteT (he x hm hc ys _ ⟨upd_same, by omega, xs.length - (i + 1), by omega, rfl, hlt, ?_, by rw [upd_upd]⟩)
      rw [tk, List.filter_append, hys]
      simp [hc]
  · have e : i = xs.length := by omega
    subst e
    refine .inl ⟨P.stop _ (hs ys), ?_⟩
    rw [List.take_length] at hys
    rw [hys]
    exact q
/-! ### slices with a step -/
section
variable {X : Cx} {e : Expr} {te : TE} {lo hi : Option Expr} {tlo thi : TO} {st : Expr} {ts : TE} {pos p2 : Pos}
end
end L2
set_option Elab.async false
set_option linter.all false
set_option maxRecDepth 100000
namespace L2
open PySem PyProof.Rows
/-! ### a, b, .. = a list -/
section
variable {prog : Program} {w : World} {A : Around} {E : Value → Shared → Prop}
variable {s : Shared}
end
section
variable {X : Cx} {pos : Pos}
end
end L2
set_option Elab.async false
set_option linter.all false
set_option maxRecDepth 100000
namespace L2
open PySem
/-! ### slices by their ends; figures -/
theorem cut_from {xs : List V} {k : Int} (hk : 0 ≤ k) : cutV xs (some k) none = xs.drop k.toNat := by
  obtain ⟨n, rfl⟩ : ∃ n : Nat, k = (n : Int) := ⟨k.toNat, by omega⟩
  unfold cutV
  rw [HT.sIx_none, HT.sIx_nat, Int.toNat_natCast]
  rcases Nat.le_total n xs.length with h | h
  · rw [Nat.min_eq_left h, List.take_of_length_le (by rw [List.length_drop]; omega)]
  · rw [Nat.min_eq_right h, Nat.sub_self, List.take_zero, List.drop_of_length_le h]
theorem map_drop {ns : List Int} {k : Nat} : (ns.map V.int).drop k = (ns.drop k).map V.int := (List.map_drop ..).symm
theorem filter_all (xs : List V) : (xs.filter fun _ => true) = xs := List.filter_eq_self.mpr fun _ _ => rfl
/-- all of them figures -/
def Figs (p : Int) (fs : List Int) : Prop := ∀ f ∈ fs, 0 ≤ f ∧ f < p
theorem Figs.nil {p : Int} : Figs p [] := fun _ z => nomatch z
theorem Figs.app {p : Int} {fs gs : List Int} (h : Figs p fs) (h' : Figs p gs) : Figs p (fs ++ gs) := fun f hf => (List.mem_append.mp hf).elim (h f) (h' f)
theorem Figs.drop {p : Int} {fs : List Int} (h : Figs p fs) (k : Nat) : Figs p (fs.drop k) := fun f hf => h f (List.mem_of_mem_drop hf)
theorem Figs.one {p f : Int} (h0 : 0 ≤ f) (h1 : f < p) : Figs p [f] := fun g hg => by rw [List.mem_singleton.mp hg]; exact ⟨h0, h1⟩
/-! ### primes -/
def primesL : List Int := [2, 3, 5, 7, 11, 13, 17, 19, 23, 29, 31, 37, 41, 43, 47, 53, 59, 61, 67, 71, 73, 79, 83, 89, 97]
def Pr (p : Int) : Prop := p ∈ primesL
instance (p : Int) : Decidable (Pr p) := inferInstanceAs (Decidable (p ∈ primesL))
theorem Pr.two {p : Int} (h : Pr p) : 2 ≤ p := by
  have : ∀ q ∈ primesL, (2 : Int) ≤ q := by decide
  exact this p h
theorem Pr.most {p : Int} (h : Pr p) : p ≤ 97 := by
  have : ∀ q ∈ primesL, q ≤ (97 : Int) := by decide
  exact this p h
theorem inV_primes (p : Int) : inV (.int p) (primesL.map V.int) = decide (Pr p) := by
  unfold inV
  rw [List.any_map, Bool.eq_iff_iff, List.any_eq_true, decide_eq_true_iff]
  constructor
  · rintro ⟨x, hx, e⟩
    have : x = p := beq_iff_eq.mp e
    rw [← this]
    exact hx
  · intro h
    exact ⟨p, h, beq_self_eq_true p⟩
/-! ### what is a left number -/
def isFig (p : Int) : V → Bool
  | .int f => decide (0 ≤ f) && decide (f < p)
  | _ => false
theorem figs_all {p : Int} {fs : List Int} (h : Figs p fs) : (fs.map V.int).all (isFig p) = true := by
  rw [List.all_eq_true]
  intro v hv
  obtain ⟨f, hf, rfl⟩ := List.mem_map.mp hv
  obtain ⟨h0, h1⟩ := h f hf
  show (decide (0 ≤ f) && decide (f < p)) = true
  rw [decide_eq_true h0, decide_eq_true h1]
  rfl
theorem ints_things {K : PySem.W.Frag} {H : Hp} (fs : List Int) : ∀ z ∈ fs.map V.int, Thing K H z := fun z hz => by
  obtain ⟨f, _, rfl⟩ := List.mem_map.mp hz
  exact Thing.int f
/-! ### promises about the drawing of input -/
def spPrimeC : Sp := fun vs H Q _ => ∃ c : Int, vs = [.int c] ∧ ∀ (p : Int) (H' : Hp), Same H H' → Pr p → Q (.int p) H'
end L2
set_option Elab.async false
set_option linter.all false
set_option maxRecDepth 100000
namespace L2
open PySem
theorem same_upd {H1 H2 : Hp} {b : Addr} {o : HO} (kb : H1 b = none) (g : Same H1 H2) : Same H1 (upd H2 b o) := fun x u e => by
  rw [upd_ne (ne_of_none e kb)]
  exact g x u e
theorem none_of {H H' : Hp} {x : Addr} (g : Same H H') (h : H' x = none) : H x = none := by
  cases z : H x with
  | none => rfl
  | some o =>
    rw [g _ _ z] at h
    cases h
/-! ### numbers by their figures -/
/-- how many noughts stand first -/
def lead : List Int → Nat
  | [] => 0
  | f :: fs => if f = 0 then lead fs + 1 else 0
/-- the sum of the figures -/
def un (p : Int) : List Int → Int
  | [] => 0
  | f :: fs => un p fs * p + f
/-- the first m figures of a whole number -/
def digs (p : Int) : Nat → Int → List Int
  | 0, _ => []
  | m + 1, n => (n % p) :: digs p m (n / p)
theorem lead_le : ∀ fs : List Int, lead fs ≤ fs.length
  | [] => Nat.le_refl _
  | f :: fs => by
    have := lead_le fs
    unfold lead
    split
    · exact Nat.succ_le_succ this
    · exact Nat.zero_le _
theorem lead_none {fs : List Int} (h : fs.head? ≠ some 0) : lead fs = 0 := by
  cases fs with
  | nil => rfl
  | cons f fs => exact if_neg fun z => h (by rw [z]; rfl)
theorem lead_at : ∀ {fs : List Int} {k : Nat}, k < lead fs → fs[k]? = some 0
  | [], _, h => absurd h (Nat.not_lt_zero _)
  | f :: fs, k, h => by
    unfold lead at h
    split at h
    · rename_i e
      cases k with
      | zero => rw [e]; rfl
      | succ k => exact lead_at (fs := fs) (by omega)
    · exact absurd h (Nat.not_lt_zero _)
theorem lead_next : ∀ {fs : List Int}, lead fs < fs.length → ∃ f, fs[lead fs]? = some f ∧ f ≠ 0
  | [], h => absurd h (Nat.not_lt_zero _)
  | f :: fs, h => by
    unfold lead at h ⊢
    split at h
    · rename_i e
      rw [if_pos e]
      exact lead_next (fs := fs) (Nat.lt_of_succ_lt_succ h)
    · rename_i e
      rw [if_neg e]
      exact ⟨f, rfl, e⟩
theorem un_nn {p : Int} (hp : 0 ≤ p) : ∀ {fs : List Int}, Figs p fs → 0 ≤ un p fs
  | [], _ => Int.le_refl _
  | f :: fs, h => by
    have h1 := un_nn hp (fs := fs) fun g hg => h g (List.mem_cons_of_mem _ hg)
    have h2 := (h f (List.mem_cons_self ..)).1
    have h3 := Int.mul_nonneg h1 hp
    show 0 ≤ un p fs * p + f
    omega
theorem un_lt {p : Int} (hp : 0 < p) : ∀ {fs : List Int}, Figs p fs → un p fs < p ^ fs.length
  | [], _ => by show (0 : Int) < p ^ 0; rw [Int.pow_zero]; decide
  | f :: fs, h => by
    have h1 := un_lt hp (fs := fs) fun g hg => h g (List.mem_cons_of_mem _ hg)
    have h2 := (h f (List.mem_cons_self ..)).2
    show un p fs * p + f < p ^ (fs.length + 1)
    rw [Int.pow_succ]
    have h3 : (un p fs + 1) * p ≤ p ^ fs.length * p := Int.mul_le_mul_of_nonneg_right (by omega) (by omega)
    rw [Int.add_mul, Int.one_mul] at h3
    omega
theorem un_app {p : Int} {gs : List Int} : ∀ {fs : List Int}, un p (fs ++ gs) = un p fs + p ^ fs.length * un p gs
  | [] => by
    show un p gs = 0 + p ^ 0 * un p gs
    rw [Int.pow_zero, Int.one_mul, Int.zero_add]
  | f :: fs => by
    show un p (fs ++ gs) * p + f = un p fs * p + f + p ^ (fs.length + 1) * un p gs
    rw [un_app (fs := fs), Int.pow_succ, Int.add_mul]
    have : p ^ fs.length * un p gs * p = p ^ fs.length * p * un p gs := by rw [Int.mul_assoc, Int.mul_comm (un p gs) p, ← Int.mul_assoc]
    omega
theorem Figs.tail {p f : Int} {fs : List Int} (h : Figs p (f :: fs)) : Figs p fs := fun g hg => h g (List.mem_cons_of_mem _ hg)
theorem Figs.head {p f : Int} {fs : List Int} (h : Figs p (f :: fs)) : 0 ≤ f ∧ f < p := h f (List.mem_cons_self ..)
/-- the figures of a number that is the sum of figures, and something beyond them -/
theorem digs_un {p : Int} (hp : 0 < p) (k : Int) : ∀ {fs : List Int}, Figs p fs → digs p fs.length (un p fs + p ^ fs.length * k) = fs
  | [], _ => rfl
  | f :: fs, h => by
    have h1 := digs_un hp k h.tail
    obtain ⟨h2, h3⟩ := h.head
    have e : un p (f :: fs) + p ^ (f :: fs).length * k = f + p * (un p fs + p ^ fs.length * k) := by
      show un p fs * p + f + p ^ (fs.length + 1) * k = _
      rw [Int.pow_succ, Int.mul_add, Int.mul_comm (un p fs) p, Int.mul_comm (p ^ fs.length) p, Int.mul_assoc]
      omega
    show (un p (f :: fs) + p ^ (f :: fs).length * k) % p :: digs p fs.length ((un p (f :: fs) + p ^ (f :: fs).length * k) / p) = _
    rw [e, Int.add_mul_emod_self_left, Int.emod_eq_of_lt h2 h3, Int.add_mul_ediv_left _ _ (by omega), Int.ediv_eq_zero_of_lt h2 h3, Int.zero_add, h1]
theorem digs_un0 {p : Int} (hp : 0 < p) {fs : List Int} (h : Figs p fs) : digs p fs.length (un p fs) = fs := by
  have := digs_un hp 0 h
  rw [Int.mul_zero, Int.add_zero] at this
  exact this
theorem digs_figs {p : Int} (hp : 0 < p) : ∀ {m : Nat} {n : Int}, Figs p (digs p m n)
  | 0, _ => Figs.nil
  | m + 1, n => fun g hg => by
    rcases List.mem_cons.mp hg with rfl | hg
    · exact ⟨Int.emod_nonneg _ (by omega), Int.emod_lt_of_pos _ hp⟩
    · exact digs_figs hp g hg
theorem digs_len {p : Int} : ∀ {m : Nat} {n : Int}, (digs p m n).length = m
  | 0, _ => rfl
  | m + 1, n => by
    show (digs p m (n / p)).length + 1 = m + 1
    rw [digs_len]
/-- two rows of figures of one length and one sum are the same -/
theorem un_inj {p : Int} (hp : 0 < p) {fs gs : List Int} (hf : Figs p fs) (hg : Figs p gs) (hl : fs.length = gs.length) (e : un p fs = un p gs) : fs = gs := by
  rw [← digs_un0 hp hf, ← digs_un0 hp hg, hl, e]
theorem Pr.bd {p : Int} (h : Pr p) : LN.Bd 7 p := LN.Bd.of_abs (b := 97) (by have := h.two; omega) h.most (by decide)
theorem Pr.pow {p : Int} (h : Pr p) {k n : Nat} (hk : 7 * k + 1 ≤ n) : LN.Bd n (p ^ k) := (h.bd.pow k).mono hk
theorem Pr.un {p : Int} (h : Pr p) {fs : List Int} (hf : Figs p fs) {n : Nat} (hk : 7 * fs.length + 1 ≤ n) : LN.Bd n (un p fs) := by
  have h2 := h.two
  have h0 := un_nn (by omega) hf
  have h1 := un_lt (by omega) hf
  exact (h.pow hk).of_le (by omega)
/-- the sum, figure by figure from the last one on -/
theorem un_back {p : Int} {rs : List Int} {i : Nat} {f : Int} (h : rs[rs.length - 1 - i]? = some f) (hi : i < rs.length) : un p (rs.drop (rs.length - i)) * p + f = un p (rs.drop (rs.length - (i + 1))) := by
  have hj : rs.length - (i + 1) < rs.length := by omega
  rw [List.drop_eq_getElem_cons hj, show rs.length - (i + 1) + 1 = rs.length - i by omega]
  rw [show rs.length - 1 - i = rs.length - (i + 1) by omega, List.getElem?_eq_getElem hj] at h
  rw [Option.some.inj h]
  rfl
/-! ### the promises about left numbers -/
def isPr : V → Bool
  | .int p => decide (Pr p)
  | _ => false
/-- figures as they are handed in: whether they are a row of figures, and which -/
inductive Figd (K : PySem.W.Frag) (H : Hp) (p : Int) : V → Option (List Int) → Prop where
  | ok {a : Addr} {fs : List Int} (h : SqL K H a (fs.map V.int) ∨ H a = some (.tup (fs.map V.int))) (f : Figs p fs) (n : fs.length ≤ 3000) : Figd K H p (.ref a) (some fs)
  | bad {a : Addr} {zs : List V} (h : SqL K H a zs ∨ SqT K H a zs) (t : ∀ z ∈ zs, Thing K H z) (n : zs.length ≤ 3000) (b : zs.all (isFig p) = false) : Figd K H p (.ref a) none
  | non : Figd K H p .non none
  | str {s : Str} : Figd K H p (.str s) none
  | int {i : Int} : Figd K H p (.int i) none
/-- what is due of a prime, a place and figures that are handed in -/
inductive LeftIn (K : PySem.W.Frag) (H : Hp) : V → V → V → Sum Nat (Int × Int × List Int) → Prop where
  | prime {v1 v2 v3 : V} (t1 : Thing K H v1) (n1 : isPr v1 = false) : LeftIn K H v1 v2 v3 (.inl 0)
  | place {p : Int} {v2 v3 : V} (hp : Pr p) (t2 : Thing K H v2) (n2 : isI v2 = false) : LeftIn K H (.int p) v2 v3 (.inl 1)
  | figs {p l : Int} {v3 : V} (hp : Pr p) (f : Figd K H p v3 none) : LeftIn K H (.int p) (.int l) v3 (.inl 2)
  | good {p l : Int} {v3 : V} {fs : List Int} (hp : Pr p) (hl : LN.Bd 1000 l) (f : Figd K H p v3 (some fs)) : LeftIn K H (.int p) (.int l) v3 (.inr (p, l, fs))
/-- left_number(p, least, figures), of anything; C: the classes of its refusals -/
def spLeftNum (K : PySem.W.Frag) (C : Nat → Addr) : Sp := fun vs H Q E => ∃ (v1 v2 v3 : V) (o : Sum Nat (Int × Int × List Int)), vs = [v1, v2, v3] ∧ LeftIn K H v1 v2 v3 o ∧
  (∀ k : Nat, o = .inl k → ∀ H' : Hp, Same H H' → E (.ref (C k)) none H') ∧
  (∀ (p l : Int) (fs : List Int), o = .inr (p, l, fs) → ∀ (a : Addr) (H' : Hp), Same H H' → LeftAt K H' a p (l + lead fs) (fs.drop (lead fs)) → Q (.ref a) H')
/-- a left number that is handed in -/
structure Lf (K : PySem.W.Frag) (H : Hp) (a : Addr) (p l : Int) (fs : List Int) : Prop where
  at' : LeftAt K H a p l fs
  pr : Pr p
  bd : LN.Bd 200 l
  fig : Figs p fs
  few : fs.length ≤ 1500
  top : fs.head? ≠ some 0
theorem Lf.same {K : PySem.W.Frag} {H H' : Hp} {a : Addr} {p l : Int} {fs : List Int} (x : Lf K H a p l fs) (g : Same H H') : Lf K H' a p l fs := ⟨x.at'.same g, x.pr, x.bd, x.fig, x.few, x.top⟩
def spKnownOf (K : PySem.W.Frag) : Sp := fun vs H Q _ => ∃ (a : Addr) (p l : Int) (fs : List Int), vs = [.ref a] ∧ Lf K H a p l fs ∧ ∀ H' : Hp, Same H H' → Q (.int (fs.length : Int)) H'
def spUnitOf (K : PySem.W.Frag) : Sp := fun vs H Q _ => ∃ (a : Addr) (p l : Int) (fs : List Int), vs = [.ref a] ∧ Lf K H a p l fs ∧ ∀ H' : Hp, Same H H' → Q (.int (un p fs)) H'
end L2
set_option Elab.async false
set_option linter.all false
set_option maxRecDepth 100000
namespace L2
open PySem
/-! ### figures at places -/
def endL (l : Int) (fs : List Int) : Int := l + (fs.length : Int)
/-- the figure at a place below the end -/
def figN (l : Int) (fs : List Int) (n : Int) : Int := if n < l then 0 else fs.getD (n - l).toNat 0
/-- where they part -/
inductive IsPart (l : Int) (fs : List Int) (l' : Int) (fs' : List Int) : Option Int → Prop where
  | none (h : ∀ n, n < endL l fs → n < endL l' fs' → figN l fs n = figN l' fs' n) : IsPart l fs l' fs' none
  | some {x : Int} (h1 : x < endL l fs) (h2 : x < endL l' fs') (ne : figN l fs x ≠ figN l' fs' x) (h : ∀ n, n < x → figN l fs n = figN l' fs' n) : IsPart l fs l' fs' (some x)
/-! ### cut -/
/-! ### promises -/
/-- two left numbers, refused where they are of unlike primes; W: what is told -/
def spTwo (K : PySem.W.Frag) (C : Addr) (W : Int → Int → List Int → Int → List Int → V → Hp → Prop) : Sp := fun vs H Q E => ∃ (a b : Addr) (p l p' l' : Int) (fs fs' : List Int), vs = [.ref a, .ref b] ∧ Lf K H a p l fs ∧ Lf K H b p' l' fs' ∧
  (p ≠ p' → ∀ H', Same H H' → E (.ref C) none H') ∧ (p = p' → ∀ (v : V) (H' : Hp), Same H H' → W p l fs l' fs' v H' → Q v H')
end L2
set_option Elab.async false
set_option linter.all false
set_option maxRecDepth 100000
namespace L2
open PySem PySem.W PyProof.Rows
/-! ### the cells of a script are layable: each has at most 2 ** 20 bits -/
theorem weight_le {ns : List Int} : ∀ m ∈ ns, WData.weight (.int m) ≤ WData.weightAll (ns.map WData.int) := by
  induction ns with
  | nil => exact fun _ z => nomatch z
  | cons n ns ih =>
    intro m hm
    rw [List.map_cons, WData.weightAll]
    rcases List.mem_cons.mp hm with rfl | hm
    · omega
    · have := ih m hm
      omega
theorem bd_of_layable {ns : List Int} (h : WData.layableAll [.list (ns.map WData.int)] = true) : ∀ m ∈ ns, LN.Bd 1048576 m := fun m hm => by
  have h1 : WData.layable (.list (ns.map WData.int)) = true := by
    unfold WData.layableAll at h
    rw [List.all_cons, List.all_nil, Bool.and_true] at h
    exact h
  unfold WData.layable at h1
  rw [Bool.and_eq_true] at h1
  have h2 : WData.weight (.list (ns.map WData.int)) ≤ 2 ^ 20 := of_decide_eq_true h1.2
  rw [WData.weight] at h2
  have h3 := Nat.le_trans (weight_le m hm) h2
  rw [WData.weight] at h3
  unfold LN.Bd
  by_cases z : m = 0
  · rw [z]
    exact Nat.two_pow_pos _
  · rw [if_neg (by simpa using z)] at h3
    exact Nat.lt_of_lt_of_le (Nat.lt_log2_self (n := m.natAbs)) (Nat.pow_le_pow_right (by decide) h3)
end L2
namespace Att
open PySem PySem.W PySem.Calls PyProof.Rows
/-- as attach_call; the cells are known to be layable -/
theorem attach_callB {l : OpenLaw} {n : Nat} {q : Program} {loose : List Str} {XP : (Str → Option Value) → Heap → Prop} {YP : World → Heap → Prop} {d : DefRec}
    (hn : l.most = some n) (hdf : d.params.defaults = [])
    (call : ∀ (w : World) (s₀ s₁ : Shared) (mg mb : Str → Option Value) (fa : Addr) (o : Obj) (pm cd doc : Value) (a : Addr) (vs : List Value) (ns : List Int), (∀ m ∈ ns, LN.Bd 1048576 m) →
      Ground q loose [] XP w s₀ mg mb s₁.heap → YP w s₁.heap →
      s₁.heap.get? fa = some o → o.data = .func (docDef d.name d.params d.body d.scope pm cd doc) → s₁.heap.CodeRec cd d.name → mg d.name = some (.ref fa) →
      s₁.heap.get? a = some { cls := .type "list", data := .seq vs.toArray } → IntsAre vs ns → ns.length ≤ n → s₁.gens = #[] →
      codeAny (model l.prog w) callerA (.call (.ref fa) ⟨[.ref a], []⟩) (fun r s' => r = .ok (.ret (.bool true)) ∧ OldK s₁.heap s'.heap ∧ s'.os = s₁.os ∧ AllBare s'.gens) s₁) :
    WalkO q loose XP YP l.row.toRowW d [] (fun f vs => PySem.call f vs) := by
  intro w s₀ s₁ mg mb G Y fa o pm cd doc dV kV ho hd hcd hD hmg hg args vals as hpre hlay hrd hwl hlo
  cases (show dV = .none from Dflts.none hD hdf)
  cases (show kV = .none from Dflts.noKw hD)
  obtain ⟨a, vs, ns, rfl, rfl, hobj, hints, hlen⟩ := script_of hn hpre hwl
  have hb := L2.bd_of_layable hlay
  refine enter_call (codeAny_mono (call w s₀ s₁ mg mb fa o pm cd doc a vs ns hb G Y ho (fd_plain hd) hcd hmg hobj hints hlen hg) fun r s' hq => ?_)
  obtain ⟨rfl, h2, h3, h4⟩ := hq
  exact ⟨.inl ⟨.bool true, .bool true, [], rfl, fun _ => rfl, .bool true, post_true l _, fun _ => ⟨List.Pairwise.nil, fun _ hm => (nomatch hm)⟩⟩, h2, h3, h4⟩
end Att
namespace L2
open PySem PySem.Spec PyProof.Rows
theorem walk_ofB {l : PySem.W.OpenLaw} {n k : Nat} {q : Program} {loose : List Str} {XP : (Str → Option Value) → Heap → Prop} {YP : World → Heap → Prop} {d : DefRec} {K : Params → PySem.W.Frag} {CX : World → CXT} {sp : World → Sp} {x : Str}
    (hn : l.most = some n) (hn2 : n ≤ sizeLine) (hdf : d.params.defaults = []) (hr : Room k callerA)
    (hY : ∀ (w : World) (h : Heap), YP w h → (K w.params).In h)
    (F : ∀ (w : World) (mg : Str → Option Value) (fa : Addr) (h : Heap), (K w.params).In h → h.Ns mainGlobals mg → mg d.name = some (.ref fa) →
      ∃ fd : FuncData, (∀ (s : Shared) (u : Value), BindsTo s fd ⟨[u], []⟩ [(x, u)]) ∧
        ∀ base : Heap, (K w.params).In base → base.Ns mainGlobals mg → FnOk l.prog w (K w.params) mg base (CX w) k fa fd [x] (sp w))
    (hsp : ∀ (w : World) (H : Hp) (a : Addr) (ns : List Int), ns.length ≤ n → (∀ m ∈ ns, LN.Bd 1048576 m) → Only H → SqL (K w.params) H a (ns.map V.int) → sp w [.ref a] H (fun v _ => v = .bl true) fun _ _ _ => False)
    (hCX : ∀ (w : World) (H : Hp) (s : Shared) (e : Value) (s' : Shared), CX w [] H s (fun _ _ _ => False) e s' → False) :
    PySem.W.WalkO q loose XP YP l.row.toRowW d [] (fun f vs => PySem.call f vs) := by
  refine Att.attach_callB hn hdf fun w s₀ s₁ mg mb fa o pm cd doc a vs ns hb G Y ho hd hcd hmg hobj hints hlen hg => ?_
  have KX := hY w _ Y
  obtain ⟨fd, hb', hF⟩ := F w mg fa _ KX G.T.g hmg
  exact law_call KX G.T.g G.T.b G.T.builtins G.T.nolimit hg hobj hints (Nat.le_trans hlen hn2) hr hF hb' (fun H hO hS => hsp w H a ns hlen hb hO hS) fun H e s' => hCX w H s₁ e s'
/-- the law, its cells of at most 2 ** 20 bits -/
def spLawB (K : PySem.W.Frag) : Sp := fun vs H Q _ => ∃ (a : Addr) (ns : List Int), vs = [.ref a] ∧ SqL K H a (ns.map V.int) ∧ ns.length ≤ 63 ∧ (∀ k, LN.Bd 1048576 (ns.getD k 0)) ∧ ∀ H', Q (.bl true) H'
theorem bd_getD {ns : List Int} (h : ∀ m ∈ ns, LN.Bd 1048576 m) (k : Nat) : LN.Bd 1048576 (ns.getD k 0) := by
  rw [List.getD_eq_getElem?_getD]
  cases e : ns[k]? with
  | none => exact Nat.two_pow_pos _
  | some m => exact h m (List.mem_of_getElem? e)
end L2
namespace L2
open PySem PySem.Spec PyProof.Rows
section
variable {X : Cx}
end
end L2
set_option Elab.async false
set_option linter.all false
set_option maxRecDepth 100000
namespace L2
namespace RT
open PySem PyProof.Rows
theorem owner_rv : Manifest.owners.lookup (String.ofList ['d', 'e', 's', 'r', 'e', 'v', 'e', 'r'].reverse) = some Manifest.sig_reversed := by kernel_rfl
theorem slot_next : Slot "reversed" "__next__" "reversed.__next__" :=
  .of (owner := "reversed") (n := "__next__") (by rw [typeLookup_type, builtinLookup_eq_fast]; kernel_rfl) (by decide +kernel) (by decide +kernel) (by decide +kernel)
    (by first | exact .inl (by decide +kernel) | exact .inr (by decide +kernel)) (by rw [isSubtype_type]; kernel_rfl)
theorem entry_next : entryFor table "reversed.__next__" = some Builtin.«reversed.__next__» := entryFor_of_tree (by kernel_rfl)
theorem args_next (a : Value) : argsOk "reversed.__next__" ⟨[a], []⟩ := by
  unfold argsOk; rw [signature?_of (id := "reversed.__next__") (n := ['_', '_', 't', 'x', 'e', 'n', '_', '_']) (o := ['d', 'e', 's', 'r', 'e', 'v', 'e', 'r']) (by kernel_rfl) owner_rv]; kernel_rfl
theorem slot_iter : Slot "reversed" "__iter__" "reversed.__iter__" :=
  .of (owner := "reversed") (n := "__iter__") (by rw [typeLookup_type, builtinLookup_eq_fast]; kernel_rfl) (by decide +kernel) (by decide +kernel) (by decide +kernel)
    (by first | exact .inl (by decide +kernel) | exact .inr (by decide +kernel)) (by rw [isSubtype_type]; kernel_rfl)
theorem args_iter (a : Value) : argsOk "reversed.__iter__" ⟨[a], []⟩ := by
  unfold argsOk; rw [signature?_of (id := "reversed.__iter__") (n := ['_', '_', 'r', 'e', 't', 'i', '_', '_']) (o := ['d', 'e', 's', 'r', 'e', 'v', 'e', 'r']) (by kernel_rfl) owner_rv]; kernel_rfl
theorem entry_iter : entryFor table "reversed.__iter__" = some Builtin.«dict_keyiterator.__iter__» :=
  entryFor_alias (id' := "dict_keyiterator.__iter__") (by kernel_rfl) (by first | rfl | decide +kernel | (unfold String.splitOn; simp +decide [String.splitOnAux])) (by decide +kernel) (by kernel_rfl)
theorem slot_init : Slot "reversed" "__init__" "object.__init__" :=
  .of (owner := "object") (n := "__init__") (by rw [typeLookup_type, builtinLookup_eq_fast]; kernel_rfl) (by decide +kernel) (by decide +kernel) (by decide +kernel)
    (by first | exact .inl (by decide +kernel) | exact .inr (by decide +kernel)) (by rw [isSubtype_type]; kernel_rfl)
theorem called : TypeCalled "reversed" "reversed.__new__" "object.__init__" :=
  ⟨by decide +kernel, by decide +kernel, ⟨_, _, F.mro_reversed⟩, F.made_reversed, F.plain_reversed_new, F.sub_reversed_self, slot_init⟩
theorem norev_tuple : typeLookup (.type "tuple") "__reversed__" = pure none := by rw [typeLookup_type, builtinLookup_eq_fast]; kernel_rfl
theorem tuple_no_dict : isSubtype (.type "tuple") (.type "dict") = pure false := by rw [isSubtype_type]; kernel_rfl
def obj (t : Addr) (i : Int) : Obj := { cls := .type "reversed", data := .fields #[.ref t, rawInt i] }
def IsRv (h : Heap) (a t : Addr) (i : Int) : Prop := ∃ o, h.get? a = some o ∧ o.cls = .type "reversed" ∧ o.data = .fields #[.ref t, rawInt i]
theorem IsRv.typeIs {s : Shared} {a t : Addr} {i : Int} (x : IsRv s.heap a t i) : s.TypeIs (.ref a) "reversed" := let ⟨o, ho, hc, _⟩ := x; ⟨o, ho, hc⟩
theorem IsRv.at {h h' : Heap} {a t : Addr} {i : Int} (x : IsRv h a t i) (e : ∀ o, h.get? a = some o → h'.get? a = some o) : IsRv h' a t i := let ⟨o, ho, r⟩ := x; ⟨o, e _ ho, r⟩
theorem meets_new (t : Addr) (items : Array Value) :
    Meets (Builtin.«reversed.__new__» ⟨[.type "reversed", .ref t], []⟩) (fun _ R s => IsTup s.heap t items ∧ (items.size : Int) < 2 ^ 63 ∧
      R (.ok (.ret (.ref s.heap.objs.size))) { s with heap := s.heap.push (obj t ((items.size : Int) - 1)), toks := s.toks + 1 + 1 }) :=
  .of_wp fun prog w A R s h => by
    obtain ⟨ht, hz, h⟩ := h
    unfold Builtin.«reversed.__new__»
    refine wpAny_bind (wpAny_of_eq (newClass_reversed _) ?_)
    try dsimp only
    refine wpAny_bind (wpAny_of_eq (a := ()) (by first | rfl | kernel_rfl) ?_)
    refine wpAny_bind (wpAny_of_eq (a := ()) (by first | rfl | kernel_rfl) ?_)
    try dsimp only
    refine wpAny_bind (wpAny_specialOf ht.typeIs norev_tuple ?_)
    try dsimp only
    refine wpAny_bind ?_
    show wpAny _ _ (isInstance (.ref t) (.type "dict") >>= _) _ _ _
    refine wpAny_bind (wpAny_isInstance ht.typeIs tuple_no_dict ?_)
    try dsimp only
    rw [if_neg Bool.false_ne_true]
    refine wpAny_bind (wpAny_specialOf ht.typeIs slot_tuple_getitem.lookup ?_)
    try dsimp only
    rw [if_pos (by decide +kernel)]
    refine wpAny_pure ?_
    try dsimp only
    rw [if_neg (by decide)]
    refine wpAny_bind (len_tuple ht hz ?_)
    refine wpAny_bind (wpAny_of_eq (a := some (items.size : Int)) rfl ?_)
    try dsimp only
    unfold Builtin.SmallTypes.newRecord
    try dsimp only
    refine wpAny_bind (wpAny_newObj_type (wpAny_pure ⟨_, rfl, h⟩))
section
variable {prog : Program} {w : World} {A : Around} {E : Value → Shared → Prop} {s : Shared}
theorem call_reversed_tup {t : Addr} {items : Array Value} {Q : Value → Shared → Prop} (ht : IsTup s.heap t items) (hz : (items.size : Int) < 2 ^ 63)
    (h : Q (.ref s.heap.objs.size) { s with heap := s.heap.push (obj t ((items.size : Int) - 1)), toks := s.toks + 1 + 1 }) : wpAny (model prog w) A (call (.type "reversed") [.ref t]) Q E s :=
  callType_new called (by decide) (F.typeCall_reversed_1 _) (F.newCall_reversed_1 _) (fun obj => F.args_object_init_2 obj _) F.entry_reversed_new (meets_new t items) ⟨ht, hz, ⟨_, Heap.get?_push_size _ rfl, rfl⟩, h⟩
theorem next_item {it t : Addr} {i : Nat} {items : Array Value} {x : Value} {Q : Option Value → Shared → Prop} (hit : IsRv s.heap it t (i : Int)) (ht : IsTup s.heap t items) (hi : (i : Int) < 2 ^ 63) (hx : items[i]? = some x)
    (hQ : ∀ h' tk, IsRv h' it t ((i : Int) - 1) → Heap.SameBut it s.heap h' → Q (some x) { s with heap := h', toks := tk }) : wpAny (model prog w) A (pyNext (.ref it)) Q E s := by
  obtain ⟨o, ho, hc, hd⟩ := id hit
  unfold pyNext
  refine wpAny_bind (wpAny_attempt (wpAny_callSpecial?_slot (name := Str.ofString "__next__") hit.typeIs slot_next
    (wpAny_call_entry slot_next hit.typeIs entry_next ?_ (args_next _))))
  unfold Builtin.«reversed.__next__»
  refine wpAny_bind (wpAny_of_eq (a := (Value.ref it, [])) rfl ?_)
  try dsimp only
  refine wpAny_bind (wpAny_field ho hd (x := .ref t) rfl ?_)
  try dsimp only
  refine wpAny_bind (wpAny_field ho hd (x := rawInt (i : Int)) rfl ?_)
  show wpAny _ _ (if (i : Int) < 0 then _ else _) _ _ s
  rw [if_neg (by omega)]
  refine wpAny_bind (wpAny_specialOf ht.typeIs slot_tuple_getitem.lookup ?_)
  try dsimp only
  rw [if_neg (show ¬ ((some (Value.builtin "tuple.__getitem__")).isNone = true) from Bool.false_ne_true)]
  refine wpAny_bind (wpAny_mkInt ?_)
  have hlt : i < items.size := by
    obtain ⟨h1, _⟩ := Array.getElem?_eq_some_iff.mp hx
    exact h1
  have hj : seqIndex? (i : Int) items.size = some i := by
    unfold seqIndex?
    simp
    omega
  refine wpAny_bind (wpAny_attempt (getItem_tuple ht (by omega) hi hj hx ?_))
  try dsimp only
  refine wpAny_bind (wpAny_field ho hd (x := rawInt (i : Int)) rfl ?_)
  try dsimp only
  refine wpAny_bind (wpAny_setField ho hd (by simp) ?_)
  first
  | refine wpAny_pure ⟨x, rfl, wpAny_pure (hQ _ _ ?_ (Heap.SameBut.update ..))⟩
  | refine wpAny_bind (wpAny_pure (wpAny_pure ⟨x, rfl, wpAny_pure (hQ _ _ ?_ (Heap.SameBut.update ..))⟩))
  exact ⟨_, Heap.get?_update_self _ ho (Obj.isFreed_of_fields (Obj.data_mapFields hd _)), (Obj.cls_mapFields ..).trans hc, by
    rw [Obj.data_mapFields hd]; simp⟩
theorem next_end {it t : Addr} {Q : Option Value → Shared → Prop} (hh : A.handled = none) (hit : IsRv s.heap it t (-1))
    (hQ : ∀ h', Heap.ExtBut it s.heap h' → Q none { s with heap := h' }) : wpAny (model prog w) A (pyNext (.ref it)) Q E s := by
  obtain ⟨o, ho, hc, hd⟩ := id hit
  unfold pyNext
  refine wpAny_bind (wpAny_attempt (wpAny_callSpecial?_slot (name := Str.ofString "__next__") hit.typeIs slot_next
    (wpAny_call_entry slot_next hit.typeIs entry_next ?_ (args_next _))))
  unfold Builtin.«reversed.__next__»
  refine wpAny_bind (wpAny_of_eq (a := (Value.ref it, [])) rfl ?_)
  try dsimp only
  refine wpAny_bind (wpAny_field ho hd (x := .ref t) rfl ?_)
  try dsimp only
  refine wpAny_bind (wpAny_field ho hd (x := rawInt (-1)) rfl ?_)
  show wpAny _ _ (if (-1 : Int) < 0 then _ else _) _ _ s
  rw [if_pos (by decide)]
  refine wpAny_bind (wpAny_rule ?_)
  refine wpAny_bind ?_
  show wpAny _ _ (setField (.ref it) 1 (rawInt (-1)) >>= fun _ => setField (.ref it) 0 .none) _ _ _
  refine wpAny_bind (wpAny_setField ho hd (by simp) ?_)
  have ho2 := Heap.get?_update_self (h := s.heap) (f := fun o => o.mapFields fun vs => vs.set! 1 (rawInt (-1))) ho (Obj.isFreed_of_fields (Obj.data_mapFields hd _))
  refine wpAny_setField ho2 (Obj.data_mapFields hd _) (by simp) ?_
  refine wpAny_bind ?_
  first
  | show wpAny _ _ (newExc (.type "StopIteration") [] >>= _) _ _ _
  | (refine wpAny_bind ?_; show wpAny _ _ (newExc (.type "StopIteration") [] >>= _) _ _ _)
  refine wpAny_bind ?_
  simp only [newExc, newTuple]
  refine wpAny_bind (wpAny_newObj_type ?_ (by size_fits))
  refine wpAny_bind (m := firstArgMember _ _) (wpAny_of_eq (a := Value.none) (by first | rfl | (simp only [firstArgMember]; rfl)) ?_)
  refine wpAny_newObj_type ?_ (by size_fits)
  simp only [raiseNew]
  refine wpAny_bind (wpAny_handled ?_)
  first | rw [show A.in1.handled = none from hh] | rw [hh]
  refine wpAny_bind (wpAny_pure (wpAny_throw ?_))
  refine wpAny_bind (wpAny_isInstance (T := "StopIteration") (b := true) ⟨_, Heap.get?_push_size _ rfl, rfl⟩ isSubtype_stop ?_)
  exact wpAny_pure (hQ _ ((((Heap.SameBut.update ..).trans (Heap.SameBut.update ..)).extBut.push _).push _))
theorem iter_self {it t : Addr} {i : Int} {Q : Value → Shared → Prop} (hit : IsRv s.heap it t i) (h : Q (.ref it) s) : wpAny (model prog w) A (pyIter (.ref it)) Q E s := by
  refine wpAny_pyIter_slot hit.typeIs slot_iter (wpAny_call_entry slot_iter hit.typeIs entry_iter ?_ (args_iter _))
  show wpAny _ _ (ret (.ref it)) _ _ s
  exact wpAny_pure ⟨_, rfl, "reversed", _, hit.typeIs, slot_next.lookup, h⟩
end
end RT
open PySem PySem.Spec PyProof.Rows
/-- the tuple at a, xs of it, from behind -/
def Itw (K : PySem.W.Frag) (a : Addr) (xs : List V) : It :=
  ⟨fun i H => SqT K H a xs ∧ i < xs.length, fun i H x H' => H' = H ∧ xs[xs.length - 1 - i]? = some x, fun i H => SqT K H a xs ∧ xs.length = i⟩
theorem turn_revT {P : Program} {w : World} {K : PySem.W.Frag} {tg : Expr} (a it : Addr) (xs : List V) : Turn P w K tg (Itw K a xs) [it] it (fun i h => i ≤ xs.length ∧ RT.IsRv h it a ((xs.length : Int) - 1 - (i : Int))) where
  mem := by simp
  obj := fun i h st b hb => by
    have e : b = it := by simpa using hb
    subst e
    obtain ⟨_, o, e, c, d⟩ := st
    exact ⟨o, e, fun v z => by rw [d] at z; cases z⟩
  keep := fun i h h' st k => ⟨st.1, st.2.at fun o e => k it (by simp) o e⟩
  item := by
    intro X hP hw hK hc i pins s σ H E I hf st hg
    subst hP hw hK
    obtain ⟨hq, hi⟩ := hg
    obtain ⟨its, rv, p, hz⟩ := I.tuple hq
    have hx : xs[xs.length - 1 - i]? = some (xs[xs.length - 1 - i]'(by omega)) := List.getElem?_eq_getElem (by omega)
    obtain ⟨u, hu, ru⟩ := rv.get hx
    obtain ⟨f0, f1, f2, f3, f4, f5⟩ := hf it (by simp)
    obtain ⟨_, st⟩ := st
    have e : (xs.length : Int) - 1 - (i : Int) = ((xs.length - 1 - i : Nat) : Int) := by omega
    rw [e] at st
    have hn := line63
    refine RT.next_item st p (by omega) (x := u) (by simpa using hu) fun h' tk st' sb => ?_
    have e2 : ((xs.length - 1 - i : Nat) : Int) - 1 = (xs.length : Int) - 1 - ((i + 1 : Nat) : Int) := by omega
    rw [e2] at st'
    have I1 : Inv X pins σ H { s with heap := h', toks := tk } := I.turned (fun b o hb e => (sb.2 b hb).trans e) f0 f1 f3 f4 f5
    obtain ⟨o, e, c, d⟩ := id st'
    exact ⟨u, rfl, go_of (s := { s with heap := h', toks := tk }) e c d (by decide) ⟨_, H, I1, ru, ⟨rfl, hx⟩, ⟨hi, st'⟩, fun b hb => (hf b hb).1⟩⟩
  done := by
    intro X hP hw hK hc i pins s σ H E I hf st hg
    subst hP hw hK
    obtain ⟨hq, hi⟩ := hg
    obtain ⟨f0, f1, f2, f3, f4, f5⟩ := hf it (by simp)
    obtain ⟨_, st⟩ := st
    have e : (xs.length : Int) - 1 - (i : Int) = -1 := by omega
    rw [e] at st
    exact RT.next_end (I.ok.hd hc) st fun h' eb => ⟨rfl, I.turned (t' := s.toks) (fun b o hb e => eb b o hb e) f0 f1 f3 f4 f5⟩
  self := fun _ _ _ _ _ st h => RT.iter_self st.2 h
section
variable {X : Cx} {tg : Expr}
def iRevT (K : PySem.W.Frag) (ta : TA) : TI := fun σ H R => ta σ H fun vs H1 => ∃ a xs, vs = [.ref a] ∧ SqT K H1 a xs ∧ R (Itw K a xs) H1
theorem pi_revT {a : Expr} {ta : TA} {p pos : Pos} (hg : Gl X "reversed") (hm : X.mg "reversed" = none) (ha : PA X [a] ta) (hs : starEach [a] X.env = [(false, eval a X.env)] := by rfl) : PI X tg (.Call (.Name "reversed" p) [a] [] pos) (iRevT X.K ta) := by
  intro pins s σ H R I h
  refine Call_ (ld_blt I hg hm boot_reversed (PyProof.Rows.callWith_type1 (thn (ha pos pins s σ H _ I h) fun us s1 ⟨vs, H1, I1, r1, q1⟩ => ?_) hs rfl))
  obtain ⟨l, xs, e, hq, q⟩ := q1
  subst e
  cases r1 with
  | cons r rr =>
    cases rr
    cases (show _ = Value.ref l from r)
    obtain ⟨its, rv, pl, hz⟩ := I1.tuple hq
    have hl := rv.length
    have hn := line63
    refine RT.call_reversed_tup pl (by rw [List.size_toArray]; omega) ?_
    have ho : RT.IsRv (s1.heap.push (RT.obj l ((its.toArray.size : Int) - 1))) s1.heap.objs.size l ((its.toArray.size : Int) - 1) := ⟨_, Heap.get?_push_size _ rfl, rfl, rfl⟩
    refine RT.iter_self (s := { s1 with heap := s1.heap.push (RT.obj l ((its.toArray.size : Int) - 1)), toks := s1.toks + 1 + 1 }) ho ?_
    refine ⟨s1.heap.objs.size, [s1.heap.objs.size], _, _, H1, rfl, I1.kept (t' := s1.toks + 1 + 1) fun b o e => Heap.get?_push_of_some _ e, turn_revT l _ xs, ⟨Nat.zero_le _, ?_⟩, fun b hb => ?_, q⟩
    · have e : (xs.length : Int) - 1 - ((0 : Nat) : Int) = (its.toArray.size : Int) - 1 := by rw [hl]; simp
      rw [e]
      exact ho
    · have e : b = s1.heap.objs.size := by simpa using hb
      subst e
      exact I1.fpOk (Nat.le_refl _) (I1.hok.fresh (Nat.le_refl _))
theorem qpi_revT {a : Expr} {t : TA} {p pos : Pos} (hg : Gl X "reversed") (hm : X.mg "reversed" = none) (ha : QA X [a] t) (hs : starEach [a] X.env = [(false, eval a X.env)] := by rfl) : QI X tg (.Call (.Name "reversed" p) [a] [] pos) (iRevT X.K t) := ⟨pi_revT hg hm ha.ok hs⟩
end
theorem for_revT {K : PySem.W.Frag} {a : Addr} {xs : List V} {g : TG} {tb : TS} {nx : St → Hp → Prop} {rt : VK} {σ : St} {H : Hp} (Pv : Nat → St → Hp → Prop) (h0 : Pv 0 σ H) (hl : ∀ i σ H, i ≤ xs.length → Pv i σ H → SqT K H a xs)
    (hs : ∀ i x σ H, xs[xs.length - 1 - i]? = some x → i < xs.length → Pv i σ H → g x σ H fun σ2 H2 => tb { nx := Pv (i + 1), rt := rt, bk := nx, ct := Pv (i + 1) } σ2 H2) (hd : ∀ σ H, Pv xs.length σ H → nx σ H) :
    ∃ W : Nat → Nat → St → Hp → Prop, (∃ m, W 0 m σ H) ∧ ∀ i m σ H, W i m σ H →
      ((Itw K a xs).stop i H ∧ nx σ H) ∨ ((Itw K a xs).go i H ∧ ∃ N : St → Hp → Prop, (∀ σ' H', N σ' H' → ∃ m', m' < m ∧ W (i + 1) m' σ' H') ∧ ∀ x H', (Itw K a xs).yld i H x H' → g x σ H' fun σ2 H2 => tb { nx := N, rt := rt, bk := nx, ct := N } σ2 H2) := by
  refine ⟨fun i m σ H => m = xs.length - i ∧ i ≤ xs.length ∧ Pv i σ H, ⟨xs.length, by simp, Nat.zero_le _, h0⟩, ?_⟩
  rintro i m σ H ⟨rfl, hi, p⟩
  have q := hl i σ H hi p
  by_cases hlt : i < xs.length
  · refine .inr ⟨⟨q, hlt⟩, Pv (i + 1), fun σ' H' p' => ⟨xs.length - (i + 1), by omega, rfl, hlt, p'⟩, fun x H' y => ?_⟩
    obtain ⟨e, y⟩ := y
    subst e
    exact hs i x σ _ y hlt p
  · have e : i = xs.length := by omega
    subst e
    exact .inl ⟨⟨q, rfl⟩, hd σ H p⟩
end L2
set_option Elab.async false
set_option linter.all false
set_option maxRecDepth 100000
namespace L2
open PySem
/-! ### sums -/
theorem pow_split {p : Int} {a b : Nat} (h : a ≤ b) : p ^ a ∣ p ^ b := ⟨p ^ (b - a), by rw [← Int.pow_add, show a + (b - a) = b by omega]⟩
end L2
set_option Elab.async false
set_option linter.all false
set_option maxRecDepth 100000
namespace L2
open PySem
/-! ### longer ones -/
end L2
set_option Elab.async false
set_option linter.all false
set_option maxRecDepth 100000
namespace HT
open PySem PyProof.Rows
open PySem.SeqAt
open PySem.AutoSeq1 (wpAny_loadPart')
open PySem.MeetsSeq PySem.MeetsSeq2 PySem.MeetsSeq3
section
variable {prog : Program} {w : World} {A : Around} {E : Value → Shared → Prop} {s : Shared}
/-- the whole of a tuple is that tuple -/
theorem getItem_tuple_whole {t sl : Addr} {items : Array Value} {vl vu : Value} {lo hi : Option Int} {Q : Value → Shared → Prop} (ht : IsTup s.heap t items) (hs : s.heap.IsSliceOf sl vl vu .none) (pl : IsPart vl lo) (pu : IsPart vu hi)
    (h0 : sIx items.size 0 lo = 0) (h1 : sIx items.size items.size hi = items.size) (h : Q (.ref t) s) : wpAny (model prog w) A (getItem (.ref t) (.ref sl)) Q E s := by
  obtain ⟨os, hos, hcs, hds⟩ := id hs
  have hTs : s.TypeIs (.ref sl) "slice" := ⟨os, hos, hcs⟩
  unfold getItem
  try with_reducible refine wpAny_holding ?_
  first | refine wpAny_bind (wpAny_pure ?_) | skip
  refine wpAny_bind (wpAny_sequenceKey ht.typeIs (by decide) ?_)
  refine wpAny_bind (wpAny_callSpecial?_slot (name := Str.ofString "__getitem__") ht.typeIs PyProof.Rows.slot_tuple_getitem
    (wpAny_call_entry PyProof.Rows.slot_tuple_getitem ht.typeIs entry_tuple_getitem ?_ (args_tuple_getitem _ _)))
  show wpAny _ _ (Builtin.Tuple.tupleItemsOf (.ref t) >>= _) _ _ s
  refine wpAny_bind (tupleItemsOf_ ht ?_)
  refine wpAny_bind (wpAny_typeOf hTs ?_)
  rw [if_pos (by decide)]
  refine wpAny_bind (sliceApplied_gen hs pl pu ?_)
  have yes : (((sIx items.size 0 lo : Nat) : Int) == 0 && (1 : Int) == 1 && (sIx items.size items.size hi - sIx items.size 0 lo) == items.size) = true := by
    rw [h0, h1]
    simp
  show wpAny _ _ (if (((sIx items.size 0 lo : Nat) : Int) == 0 && (1 : Int) == 1 && (sIx items.size items.size hi - sIx items.size 0 lo) == items.size) = true then _ else _) _ _ s
  rw [if_pos yes]
  refine wpAny_bind ?_
  show wpAny _ _ (typeOf (.ref t) >>= _) _ _ s
  refine wpAny_bind (wpAny_typeOf ht.typeIs (wpAny_pure ?_))
  try dsimp only
  rw [if_pos (by decide)]
  refine wpAny_bind (wpAny_rule ?_)
  first
  | exact wpAny_pure ⟨_, rfl, wpAny_pure h⟩
  | exact wpAny_bind (wpAny_pure (wpAny_pure ⟨_, rfl, wpAny_pure h⟩))
  | exact wpAny_bind (wpAny_pure ⟨_, rfl, wpAny_pure h⟩)
end
end HT
namespace L2
open PySem PySem.Spec PyProof.Rows
section
variable {X : Cx}
/-- t[lo:hi], the whole of it or a part -/
def rSlA (K : PySem.W.Frag) : V → Option Int → Option Int → Hp → VK → Prop := fun x lo hi H Q => ∃ a xs, x = .ref a ∧ SqT K H a xs ∧
  ((HT.sIx xs.length 0 lo = 0 ∧ HT.sIx xs.length xs.length hi = xs.length) → Q (.ref a) H) ∧ (¬ (HT.sIx xs.length 0 lo = 0 ∧ HT.sIx xs.length xs.length hi = xs.length) → ∀ p, H p = none → Q (.ref p) (upd H p (.tup (cutV xs lo hi))))
theorem sl_tupA : SlR X (rSlA X.K) := by
  intro pins s σ H x v vl vu lo hi sl Q I rx hs pl pu h
  obtain ⟨a, xs, e, hx, q1, q2⟩ := h
  by_cases hw : HT.sIx xs.length 0 lo = 0 ∧ HT.sIx xs.length xs.length hi = xs.length
  · subst e
    cases rx
    obtain ⟨its, r, ht, hz⟩ := I.tuple hx
    have hlen : its.toArray.size = xs.length := by rw [List.size_toArray]; exact r.length.symm
    refine ⟨"tuple", _, PyProof.Rows.slot_tuple_getitem.lookup, ht.typeIs, ?_⟩
    exact HT.getItem_tuple_whole ht hs pl pu (by rw [hlen]; exact hw.1) (by rw [hlen]; exact hw.2) ⟨.ref a, H, I, rfl, q1 hw⟩
  · exact sl_tup pins s σ H x v vl vu lo hi sl Q I rx hs pl pu ⟨a, xs, e, hx, hw, q2 hw⟩
end
end L2
set_option Elab.async false
set_option linter.all false
set_option maxRecDepth 100000
namespace L2
open PySem PySem.W PySem.Spec PyProof.Rows
/-! ### try, its body calls under tests -/
section
variable {X : Cx} {i : Nat} {C Dc : Addr} {y n : Str} {pos hpos np : Pos} {b0 : Stmt} {suite : List Stmt} {ts : Addr → TS}
end
end L2
set_option Elab.async false
set_option linter.all false
set_option maxRecDepth 100000
/-! A LIST OR A TUPLE: isinstance(x, (list, tuple)), a walk, a slice. -/
namespace L2
open PySem PySem.Spec PyProof.Rows
section
variable {X : Cx}
/-- whether a thing is a list or a tuple -/
inductive SeqTy (K : PySem.W.Frag) (H : Hp) : V → Bool → Prop where
  | l {a : Addr} {xs : List V} (h : SqL K H a xs) : SeqTy K H (.ref a) true
  | t {a : Addr} {xs : List V} (h : SqT K H a xs) : SeqTy K H (.ref a) true
  | non : SeqTy K H .non false
  | str {s : Str} : SeqTy K H (.str s) false
  | int {i : Int} : SeqTy K H (.int i) false
theorem kit_l {K : PySem.W.Frag} : PySem.W.kitAny K (.type "list") [.type "list", .type "tuple"] = some true := rfl
theorem kit_t {K : PySem.W.Frag} : PySem.W.kitAny K (.type "tuple") [.type "list", .type "tuple"] = some true := by
  have h1 : PySem.W.kitOne K (.type "tuple") (.type "list") = some false := by rfl
  unfold PySem.W.kitAny
  rw [h1]
  rfl
theorem kit_n {K : PySem.W.Frag} : PySem.W.kitAny K (.type "NoneType") [.type "list", .type "tuple"] = some false := by
  have h1 : PySem.W.kitOne K (.type "NoneType") (.type "list") = some false := by rfl
  have h2 : PySem.W.kitOne K (.type "NoneType") (.type "tuple") = some false := by rfl
  simp only [PySem.W.kitAny, h1, h2]
theorem kit_s {K : PySem.W.Frag} : PySem.W.kitAny K (.type "str") [.type "list", .type "tuple"] = some false := by
  have h1 : PySem.W.kitOne K (.type "str") (.type "list") = some false := by rfl
  have h2 : PySem.W.kitOne K (.type "str") (.type "tuple") = some false := by rfl
  simp only [PySem.W.kitAny, h1, h2]
theorem kit_i {K : PySem.W.Frag} : PySem.W.kitAny K (.type "int") [.type "list", .type "tuple"] = some false := by
  have h1 : PySem.W.kitOne K (.type "int") (.type "list") = some false := by rfl
  have h2 : PySem.W.kitOne K (.type "int") (.type "tuple") = some false := by rfl
  simp only [PySem.W.kitAny, h1, h2]
def rInstS (K : PySem.W.Frag) : List V → Hp → VK → Prop := fun xs H Q => ∃ (x : V) (tp : Addr) (b : Bool), xs = [x, .ref tp] ∧ H tp = some (.tup [.ty "list", .ty "tuple"]) ∧ SeqTy K H x b ∧ Q (.bl b) H
theorem call_instS : CallR X (.builtin "isinstance") (rInstS X.K) := by
  intro pins s σ H xs us Q I r h
  obtain ⟨x, tp, b, rfl, htp, ty, q⟩ := h
  obtain ⟨u, c, rfl, ru, rc⟩ := vals2 r
  cases (show c = Value.ref tp from rc)
  obtain ⟨its, rv, ⟨o, ho, hc, n, hd⟩, _⟩ := I.tuple (SqT.of htp)
  obtain ⟨v1, v2, rfl, r1, r2⟩ := vals2 rv
  cases (show v1 = Value.type "list" from r1)
  cases (show v2 = Value.type "tuple" from r2)
  obtain ⟨oc, od, oD, osl⟩ := o
  cases hc
  cases hd
  have fin : ∀ tk, EP X pins σ Q (Value.bool b) { s with toks := tk } := fun tk => ⟨.bl b, H, I.tok _, rfl, q⟩
  cases ty with
  | @l a xs h =>
    cases (show u = Value.ref a from ru)
    obtain ⟨its, r, ⟨o, n, e, e1, _⟩, _⟩ := I.list h
    exact PySem.W.kia_tup PySem.W.kitx_list I.kIn ⟨o, e, e1⟩ ho kit_l (fun z => nomatch z) fin
  | @t a xs h =>
    cases (show u = Value.ref a from ru)
    obtain ⟨its, r, ⟨o, e, e1, _⟩, _⟩ := I.tuple h
    exact PySem.W.kia_tup PySem.W.kitx_tuple I.kIn ⟨o, e, e1⟩ ho kit_t (fun z => nomatch z) fin
  | non => cases (show u = Value.none from ru); exact PySem.W.kia_tup PySem.W.kitx_none I.kIn True.intro ho kit_n (fun z => nomatch z) fin
  | @str y => obtain ⟨t, q⟩ := (show ∃ t, u = Value.str y t from ru); cases q; exact PySem.W.kia_tup PySem.W.kitx_str I.kIn True.intro ho kit_s (fun z => nomatch z) fin
  | @int i => obtain ⟨t, q⟩ := (show ∃ t, u = Value.int i t from ru); cases q; exact PySem.W.kia_tup PySem.W.kitx_int I.kIn True.intro ho kit_i (fun z => nomatch z) fin
/-- a walk over a list or a tuple -/
def iSeq (K : PySem.W.Frag) (tl : TE) : TI := fun σ H R => iList K tl σ H R ∨ iTup K tl σ H R
theorem qpi_seq {tg l : Expr} {tl : TE} (hl : QE X l tl) : QI X tg l (iSeq X.K tl) := ⟨fun pins s σ H R I h => h.elim (pi_list hl.ok pins s σ H R I) (pi_tup hl.ok pins s σ H R I)⟩
def rSlS (K : PySem.W.Frag) : V → Option Int → Option Int → Hp → VK → Prop := fun x lo hi H Q => rSlL K x lo hi H Q ∨ rSlA K x lo hi H Q
theorem sl_seq : SlR X (rSlS X.K) := sl_list.or sl_tupA
/-- a statement that raises nothing, in a def that may raise -/
theorem qps_nox {st : Stmt} {t : TS} (h : QS X.nox st t) : QS X st t := ⟨fun pins s σ H D I hw =>
  wpAny_mono (h.ok pins s σ H D (I.wish _) hw) (fun _ _ q => q.unwish) fun _ _ z => False.elim z⟩
theorem rIx_of {K : PySem.W.Frag} {H : Hp} {a : Addr} {xs : List V} {i : Int} {v : V} {Q : VK} (h : SqL K H a xs ∨ SqT K H a xs) (e : atI xs i = some v) (q : Q v H) : rIx K (.ref a) (.int i) H Q :=
  h.elim (fun h => .inl ⟨a, xs, i, v, rfl, rfl, h, e, q⟩) (fun h => .inr (.inl ⟨a, xs, i, v, rfl, rfl, h, e, q⟩))
theorem small3001 {n : Nat} (h : n ≤ 3001) : n < sizeLine := Nat.lt_of_le_of_lt h (by decide)
end
end L2
set_option Elab.async false
set_option linter.all false
set_option maxRecDepth 100000
/-! ZIP OF TWO LISTS OR TUPLES, and enumerate of it: the steps. -/
namespace ZP
open PySem PySem.Builtin PyProof.Rows
section
variable {prog : Program} {w : World} {A : Around} {E : Value → Shared → Prop} {s : Shared}
def nm (tu : Bool) : String := if tu = true then "tuple_iterator" else "list_iterator"
/-- an iterator over a list or a tuple -/
def SI (tu : Bool) (h : Heap) (it a : Addr) (i : Nat) : Prop := ∃ o, h.get? it = some o ∧ o.cls = .type (nm tu) ∧ o.data = .fields #[.ref a, .int i 0]
/-- a row of values -/
def SQ (h : Heap) (a : Addr) (items : Array Value) : Prop := ∃ o n, h.get? a = some o ∧ o.data = .seq items n
theorem next_item {tu : Bool} {it l : Addr} {i : Nat} {items : Array Value} {x : Value} {Q : Value → Shared → Prop} (hit : SI tu s.heap it l i) (hl : SQ s.heap l items) (hx : items[i]? = some x)
    (hQ : ∀ h', SI tu h' it l (i + 1) → Heap.SameBut it s.heap h' → Q x { s with heap := h' }) : wpAny (model prog w) A (Builtin.SmallTypes.nextOf (.ref it)) Q E s := by
  obtain ⟨o, ho, hc, hd⟩ := id hit
  obtain ⟨ol, nl, hol, hdl⟩ := hl
  unfold Builtin.SmallTypes.nextOf
  cases tu with
  | false =>
    have hT : s.TypeIs (.ref it) "list_iterator" := ⟨o, ho, hc⟩
    refine wpAny_bind (wpAny_callSpecial?_slot (name := Str.ofString "__next__") hT slot_listiter_next (wpAny_call_entry slot_listiter_next hT entry_listiter_next ?_ (args_listiter_next _)))
    show wpAny _ _ (field (.ref it) 0 >>= _) _ _ s
    refine wpAny_bind (wpAny_field ho hd (x := .ref l) rfl ?_)
    show wpAny _ _ (if (Value.ref l == Value.none) = true then _ else _) _ _ s
    rw [if_neg (show ¬ ((Value.ref l == Value.none) = true) from Bool.false_ne_true)]
    show wpAny _ _ (field (.ref it) 1 >>= _) _ _ s
    refine wpAny_bind (wpAny_field ho hd (x := .int i 0) rfl ?_)
    show wpAny _ _ (seqItems? (.ref l) >>= _) _ _ s
    refine wpAny_bind (wpAny_seqItems hol hdl ?_)
    simp only [Int.toNat_natCast, hx]
    refine wpAny_bind (wpAny_setField ho hd (by simp) (wpAny_pure ⟨x, rfl, wpAny_pure (hQ _ ?_ (Heap.SameBut.update ..))⟩))
    exact ⟨_, Heap.get?_update_self _ ho (Obj.isFreed_of_fields (Obj.data_mapFields hd _)), (Obj.cls_mapFields ..).trans hc, by
      rw [Obj.data_mapFields hd]; simp [rawInt]⟩
  | true =>
    have hT : s.TypeIs (.ref it) "tuple_iterator" := ⟨o, ho, hc⟩
    refine wpAny_bind (wpAny_callSpecial?_slot (name := Str.ofString "__next__") hT F.slot_tuple_iterator_next (wpAny_call_entry F.slot_tuple_iterator_next hT F.entry_tuple_iterator_next ?_ (F.args_tuple_iterator_next_1 _)))
    show wpAny _ _ (field (.ref it) 0 >>= _) _ _ s
    refine wpAny_bind (wpAny_field ho hd (x := .ref l) rfl ?_)
    show wpAny _ _ (if (Value.ref l == Value.none) = true then _ else _) _ _ s
    rw [if_neg (show ¬ ((Value.ref l == Value.none) = true) from Bool.false_ne_true)]
    show wpAny _ _ (field (.ref it) 1 >>= _) _ _ s
    refine wpAny_bind (wpAny_field ho hd (x := .int i 0) rfl ?_)
    show wpAny _ _ (seqItems? (.ref l) >>= _) _ _ s
    refine wpAny_bind (wpAny_seqItems hol hdl ?_)
    simp only [Int.toNat_natCast, hx]
    refine wpAny_bind (wpAny_setField ho hd (by simp) (wpAny_pure ⟨x, rfl, wpAny_pure (hQ _ ?_ (Heap.SameBut.update ..))⟩))
    exact ⟨_, Heap.get?_update_self _ ho (Obj.isFreed_of_fields (Obj.data_mapFields hd _)), (Obj.cls_mapFields ..).trans hc, by
      rw [Obj.data_mapFields hd]; simp [rawInt]⟩
theorem next_end {tu : Bool} {it l : Addr} {i : Nat} {items : Array Value} {Q : Value → Shared → Prop} (hh : A.handled = none) (hit : SI tu s.heap it l i) (hl : SQ s.heap l items) (hx : items[i]? = none)
    (hE : ∀ h' e, Heap.ExtBut it s.heap h' → (∃ o, h'.get? e = some o ∧ o.cls = .type "StopIteration") → E (.ref e) { s with heap := h' }) : wpAny (model prog w) A (Builtin.SmallTypes.nextOf (.ref it)) Q E s := by
  obtain ⟨o, ho, hc, hd⟩ := id hit
  obtain ⟨ol, nl, hol, hdl⟩ := hl
  unfold Builtin.SmallTypes.nextOf
  cases tu with
  | false =>
    have hT : s.TypeIs (.ref it) "list_iterator" := ⟨o, ho, hc⟩
    refine wpAny_bind (wpAny_callSpecial?_slot (name := Str.ofString "__next__") hT slot_listiter_next (wpAny_call_entry slot_listiter_next hT entry_listiter_next ?_ (args_listiter_next _)))
    show wpAny _ _ (field (.ref it) 0 >>= _) _ _ s
    refine wpAny_bind (wpAny_field ho hd (x := .ref l) rfl ?_)
    show wpAny _ _ (if (Value.ref l == Value.none) = true then _ else _) _ _ s
    rw [if_neg (show ¬ ((Value.ref l == Value.none) = true) from Bool.false_ne_true)]
    show wpAny _ _ (field (.ref it) 1 >>= _) _ _ s
    refine wpAny_bind (wpAny_field ho hd (x := .int i 0) rfl ?_)
    show wpAny _ _ (seqItems? (.ref l) >>= _) _ _ s
    refine wpAny_bind (wpAny_seqItems hol hdl ?_)
    simp only [Int.toNat_natCast, hx]
    refine wpAny_bind (wpAny_rule (wpAny_bind (wpAny_setField ho hd (by simp) ?_)))
    show wpAny _ _ (newExc (.type "StopIteration") [] >>= _) _ _ _
    refine wpAny_bind ?_
    simp only [newExc, newTuple]
    refine wpAny_bind (wpAny_newObj_type ?_ (by size_fits))
    refine wpAny_bind (m := firstArgMember _ _) (wpAny_of_eq (a := Value.none) (by first | rfl | (simp only [firstArgMember]; rfl)) ?_)
    refine wpAny_newObj_type ?_ (by size_fits)
    simp only [raiseNew]
    refine wpAny_bind (wpAny_handled ?_)
    first | rw [show A.in1.handled = none from hh] | rw [hh]
    refine wpAny_bind (wpAny_pure (wpAny_throw ?_))
    exact hE _ _ (((Heap.SameBut.update ..).extBut.push _).push _) ⟨_, Heap.get?_push_size _ rfl, rfl⟩
  | true =>
    have hT : s.TypeIs (.ref it) "tuple_iterator" := ⟨o, ho, hc⟩
    refine wpAny_bind (wpAny_callSpecial?_slot (name := Str.ofString "__next__") hT F.slot_tuple_iterator_next (wpAny_call_entry F.slot_tuple_iterator_next hT F.entry_tuple_iterator_next ?_ (F.args_tuple_iterator_next_1 _)))
    show wpAny _ _ (field (.ref it) 0 >>= _) _ _ s
    refine wpAny_bind (wpAny_field ho hd (x := .ref l) rfl ?_)
    show wpAny _ _ (if (Value.ref l == Value.none) = true then _ else _) _ _ s
    rw [if_neg (show ¬ ((Value.ref l == Value.none) = true) from Bool.false_ne_true)]
    show wpAny _ _ (field (.ref it) 1 >>= _) _ _ s
    refine wpAny_bind (wpAny_field ho hd (x := .int i 0) rfl ?_)
    show wpAny _ _ (seqItems? (.ref l) >>= _) _ _ s
    refine wpAny_bind (wpAny_seqItems hol hdl ?_)
    simp only [Int.toNat_natCast, hx]
    refine wpAny_bind (wpAny_rule (wpAny_bind (wpAny_setField ho hd (by simp) ?_)))
    show wpAny _ _ (newExc (.type "StopIteration") [] >>= _) _ _ _
    refine wpAny_bind ?_
    simp only [newExc, newTuple]
    refine wpAny_bind (wpAny_newObj_type ?_ (by size_fits))
    refine wpAny_bind (m := firstArgMember _ _) (wpAny_of_eq (a := Value.none) (by first | rfl | (simp only [firstArgMember]; rfl)) ?_)
    refine wpAny_newObj_type ?_ (by size_fits)
    simp only [raiseNew]
    refine wpAny_bind (wpAny_handled ?_)
    first | rw [show A.in1.handled = none from hh] | rw [hh]
    refine wpAny_bind (wpAny_pure (wpAny_throw ?_))
    exact hE _ _ (((Heap.SameBut.update ..).extBut.push _).push _) ⟨_, Heap.get?_push_size _ rfl, rfl⟩
/-! ### zip -/
/-! ### zip is made -/
def sqC (tu : Bool) (h : Heap) (a : Addr) (xs : Array Value) : Prop := if tu = true then h.IsTuple a xs else h.IsList a xs
abbrev zo (tu : Bool) (l : Addr) : Obj := { cls := .type (nm tu), data := .fields #[.ref l, .int 0 0] }
theorem iter_any {tu : Bool} {l : Addr} {xs : Array Value} {Q : Value → Shared → Prop} (h : sqC tu s.heap l xs) (q : Q (.ref s.heap.objs.size) { s with heap := s.heap.push (zo tu l) }) : wpAny (model prog w) A (pyIter (.ref l)) Q E s := by
  cases tu with
  | true => exact wpAny_pyIter_tuple (show s.heap.IsTuple l xs from h) q
  | false => exact wpAny_pyIter_list (show s.heap.IsList l xs from h) q
theorem sqC.push {tu : Bool} {h : Heap} {a : Addr} {xs : Array Value} (x : sqC tu h a xs) (o : Obj) : sqC tu (h.push o) a xs := by
  cases tu with
  | true => exact (show h.IsTuple a xs from x).push o
  | false => exact (show h.IsList a xs from x).push o
abbrev zH2 (tu1 tu2 : Bool) (h : Heap) (l1 l2 : Addr) : Heap := (h.push (zo tu1 l1)).push (zo tu2 l2)
abbrev zH4 (tu1 tu2 : Bool) (h : Heap) (l1 l2 : Addr) : Heap := ((zH2 tu1 tu2 h l1 l2).push { cls := .type "tuple", data := .seq #[.ref h.objs.size, .ref (h.push (zo tu1 l1)).objs.size] }).push { cls := .type "tuple", data := .seq #[.none, .none] }
abbrev zH5 (tu1 tu2 : Bool) (h : Heap) (l1 l2 : Addr) : Heap := (zH4 tu1 tu2 h l1 l2).push { cls := .type "zip", data := .fields #[.none, .bool false, .bool false, .ref (zH2 tu1 tu2 h l1 l2).objs.size, .ref ((zH2 tu1 tu2 h l1 l2).push { cls := .type "tuple", data := .seq #[.ref h.objs.size, .ref (h.push (zo tu1 l1)).objs.size] }).objs.size] }
theorem meets_new (tu1 tu2 : Bool) (l1 l2 : Addr) (xs ys : Array Value) :
    Meets (Builtin.«zip.__new__» ⟨[.type "zip", .ref l1, .ref l2], []⟩) (fun _ R s => sqC tu1 s.heap l1 xs ∧ sqC tu2 s.heap l2 ys ∧ R (.ok (.ret (.ref (zH4 tu1 tu2 s.heap l1 l2).objs.size))) { s with heap := zH5 tu1 tu2 s.heap l1 l2 }) :=
  .of_wp fun prog w A R s h => by
    obtain ⟨hp, g, d, tk, os⟩ := s; obtain ⟨hl1, hl2, h⟩ := h
    have hsub := sub_zip
    have hL1 : sqC tu1 (Shared.heap ⟨hp, g, d, tk, os⟩) l1 xs := hl1
    have hL2 : sqC tu2 (Shared.heap ⟨hp.push (zo tu1 l1), g, d, tk, os⟩) l2 ys := hl2.push _
    wp_walk using iter_any hL1, iter_any hL2
    exact ⟨_, rfl, h⟩
end
end ZP
set_option Elab.async false
set_option linter.all false
set_option maxRecDepth 100000
/-! FOR OVER zip(a, b) and enumerate(zip(a, b)) -/
namespace ZP
open PySem PySem.Builtin PyProof.Rows
section
variable {prog : Program} {w : World} {A : Around} {E : Value → Shared → Prop} {s : Shared}
end
end ZP
namespace L2
open PySem PySem.Spec PyProof.Rows
section
variable {X : Cx} {pins : List (Addr × Obj)} {σ : St} {H : Hp} {s : Shared} {h' : Heap}
end
section
variable {X : Cx}
end
end L2
set_option Elab.async false
set_option linter.all false
set_option maxRecDepth 100000
namespace ZP
open PySem PySem.Builtin PyProof.Rows
section
variable {prog : Program} {w : World} {A : Around} {E : Value → Shared → Prop} {s : Shared}
end
end ZP
namespace L2
open PySem PySem.Spec PyProof.Rows
section
variable {X : Cx}
end
end L2
set_option Elab.async false
set_option linter.all false
set_option maxRecDepth 100000
namespace L2
open PySem PySem.Spec PyProof.Rows
/-! ### loops over zip, enumerate(zip) -/
/-! ### tuples put together -/
section
variable {X : Cx}
/-- t + (x, ..), t perhaps the empty tuple; what is put behind is not empty -/
def rCatA (K : PySem.W.Frag) : R2 := fun x y H Q => ∃ a b xs ys, x = .ref a ∧ y = .ref b ∧ SqT K H a xs ∧ SqT K H b ys ∧ ys ≠ [] ∧ xs.length + ys.length ≤ sizeLine ∧
  (xs = [] → Q (.ref b) H) ∧ (xs ≠ [] → ∀ p, H p = none → Q (.ref p) (upd H p (.tup (xs ++ ys))))
theorem op_catA : OpR X (binaryOp .Add) (rCatA X.K) := by
  intro pins s σ H x y v u Q I rx ry h
  obtain ⟨a, b, xs, ys, rfl, rfl, ha, hb, hy, hz, q1, q2⟩ := h
  by_cases hx : xs = []
  · cases rx
    cases ry
    obtain ⟨its, r1, p1, _⟩ := I.tuple ha
    obtain ⟨its2, r2, p2, _⟩ := I.tuple hb
    obtain ⟨⟨cls, dd, data, sl⟩, ho, hc, n, hd⟩ := id p1
    obtain ⟨⟨cls2, dd2, data2, sl2⟩, ho2, hc2, n2, hd2⟩ := id p2
    simp only at hc hd hc2 hd2
    subst hc hd hc2 hd2
    have e0 : its = [] := r1.nil_iff.mpr hx
    exact concat_meets ⟨_, ho, rfl⟩ ⟨_, ho2, rfl⟩ noFill_tuple_add seq_tuple_add PySem.F.slot_tuple_add PySem.F.entry_tuple_add (PySem.F.args_tuple_add_2 _ _)
      (tuple_addW0 a b its.toArray its2.toArray n n2 dd dd2 sl sl2 (by simp [e0])) ⟨ho, ho2, ⟨.ref b, H, I, rfl, q1 hx⟩⟩
  · exact op_catT pins s σ H _ _ v u Q I rx ry ⟨a, b, xs, ys, rfl, rfl, ha, hb, hx, hz, fun z => absurd z hy, fun _ => q2 hx⟩
end
/-! ### where two part -/
/-! ### sums by figures -/
theorem un_snoc {p f : Int} {fs : List Int} : un p (fs ++ [f]) = un p fs + p ^ fs.length * f := by
  rw [un_app]
  show _ + p ^ fs.length * (0 * p + f) = _
  rw [Int.zero_mul, Int.zero_add]
/-! ### opposites -/
end L2
set_option Elab.async false
set_option linter.all false
set_option maxRecDepth 100000
namespace L2
open PySem
/-! ### the doubt of a sum -/
end L2
set_option Elab.async false
set_option linter.all false
set_option maxRecDepth 100000
namespace L2
/-! ### primes divide a product only where they divide a factor -/
theorem Pr.least {p : Int} (h : Pr p) : ∀ d : Nat, d ∣ p.natAbs → d = 1 ∨ d = p.natAbs := by
  have all : ∀ q ∈ primesL, ∀ d, d < q.natAbs + 1 → d ∣ q.natAbs → d = 1 ∨ d = q.natAbs := by decide +kernel
  have h2 := h.two
  intro d hd
  exact all p h d (Nat.lt_succ_of_le (Nat.le_of_dvd (by omega) hd)) hd
theorem Pr.euclid {p a b : Int} (h : Pr p) (d : p ∣ a * b) : p ∣ a ∨ p ∣ b := by
  have h1 : p.natAbs ∣ a.natAbs * b.natAbs := by rw [← Int.natAbs_mul]; exact Int.natAbs_dvd_natAbs.mpr d
  rcases h.least (Nat.gcd p.natAbs a.natAbs) (Nat.gcd_dvd_left ..) with e | e
  · exact .inr (Int.natAbs_dvd_natAbs.mp (Nat.Coprime.dvd_of_dvd_mul_left e h1))
  · refine .inl (Int.natAbs_dvd_natAbs.mp ?_)
    have := Nat.gcd_dvd_right p.natAbs a.natAbs
    rw [e] at this
    exact this
theorem Pr.free {p a b : Int} (h : Pr p) (ha : ¬ p ∣ a) (hb : ¬ p ∣ b) : ¬ p ∣ a * b := fun z => (h.euclid z).elim ha hb
theorem Pr.exq {p m n : Int} {s t : Nat} (h : Pr p) (h1 : LN.Exq p m s) (h2 : LN.Exq p n t) : LN.Exq p (m * n) (s + t) := by
  obtain ⟨a, rfl, ha⟩ := h1
  obtain ⟨b, rfl, hb⟩ := h2
  refine ⟨a * b, ?_, h.free ha hb⟩
  rw [Int.pow_add, Int.mul_assoc a, Int.mul_assoc a, ← Int.mul_assoc (p ^ s), Int.mul_comm (p ^ s) b, Int.mul_assoc b]
theorem exq_ex {p : Int} (hp : 2 ≤ p) : ∀ (k : Nat) (n : Int), n.natAbs ≤ k → n ≠ 0 → ∃ t, LN.Exq p n t
  | 0, n, h, z => absurd (by omega) z
  | k + 1, n, h, z => by
    by_cases d : p ∣ n
    · obtain ⟨m, rfl⟩ := d
      have hm : m ≠ 0 := fun e => z (by rw [e, Int.mul_zero])
      have lt : m.natAbs < (p * m).natAbs := by
        rw [Int.natAbs_mul]
        have h1 : 1 ≤ m.natAbs := by omega
        have h2 : 2 ≤ p.natAbs := by omega
        have := Nat.mul_le_mul_right m.natAbs h2
        omega
      obtain ⟨t, a, ea, na⟩ := exq_ex hp k m (by omega) hm
      exact ⟨t + 1, a, by rw [Int.pow_succ, ← Int.mul_assoc, ← ea, Int.mul_comm], na⟩
    · exact ⟨0, n, by rw [Int.pow_zero, Int.mul_one], d⟩
theorem low_ex {t b : Int} (hb : 0 < b) : ∃ X Y, LN.Low t b X Y := by
  have g0 : Nat.gcd t.natAbs b.natAbs ≠ 0 := fun z => by
    have := Nat.gcd_eq_zero_iff.mp z
    omega
  exact ⟨_, _, LN.Low.of (c := ((Nat.gcd t.natAbs b.natAbs : Nat) : Int)) rfl (by omega) (by simp) (fun _ => by omega) (fun z => by omega)⟩
end L2
set_option Elab.async false
set_option linter.all false
set_option maxRecDepth 100000
/-! RANGES OF GREAT NUMBERS: a walk, and a list of them. -/
namespace L2
namespace LR
open PySem PyProof.Rows
set_option maxRecDepth 100000
theorem owner_lr : Manifest.owners.lookup (String.ofList ['r', 'o', 't', 'a', 'r', 'e', 't', 'i', '_', 'e', 'g', 'n', 'a', 'r', 'g', 'n', 'o', 'l'].reverse) = some Manifest.sig_longrange_iterator := by kernel_rfl
theorem slot_next : Slot "longrange_iterator" "__next__" "longrange_iterator.__next__" :=
  .of (owner := "longrange_iterator") (n := "__next__") (by rw [typeLookup_type, builtinLookup_eq_fast]; kernel_rfl) (by decide +kernel) (by decide +kernel) (by decide +kernel)
    (by first | exact .inl (by decide +kernel) | exact .inr (by decide +kernel)) (by rw [isSubtype_type]; kernel_rfl)
theorem entry_next : entryFor table "longrange_iterator.__next__" = some Builtin.«longrange_iterator.__next__» := entryFor_of_tree (by kernel_rfl)
theorem args_next (a : Value) : argsOk "longrange_iterator.__next__" ⟨[a], []⟩ := by
  unfold argsOk; rw [signature?_of (id := "longrange_iterator.__next__") (n := ['_', '_', 't', 'x', 'e', 'n', '_', '_']) (o := ['r', 'o', 't', 'a', 'r', 'e', 't', 'i', '_', 'e', 'g', 'n', 'a', 'r', 'g', 'n', 'o', 'l']) (by kernel_rfl) owner_lr]; kernel_rfl
theorem slot_iter : Slot "longrange_iterator" "__iter__" "longrange_iterator.__iter__" :=
  .of (owner := "longrange_iterator") (n := "__iter__") (by rw [typeLookup_type, builtinLookup_eq_fast]; kernel_rfl) (by decide +kernel) (by decide +kernel) (by decide +kernel)
    (by first | exact .inl (by decide +kernel) | exact .inr (by decide +kernel)) (by rw [isSubtype_type]; kernel_rfl)
theorem args_iter (a : Value) : argsOk "longrange_iterator.__iter__" ⟨[a], []⟩ := by
  unfold argsOk; rw [signature?_of (id := "longrange_iterator.__iter__") (n := ['_', '_', 'r', 'e', 't', 'i', '_', '_']) (o := ['r', 'o', 't', 'a', 'r', 'e', 't', 'i', '_', 'e', 'g', 'n', 'a', 'r', 'g', 'n', 'o', 'l']) (by kernel_rfl) owner_lr]; kernel_rfl
theorem entry_iter : entryFor table "longrange_iterator.__iter__" = some Builtin.«dict_keyiterator.__iter__» :=
  entryFor_alias (id' := "dict_keyiterator.__iter__") (by kernel_rfl) (by first | rfl | decide +kernel | (unfold String.splitOn; simp +decide [String.splitOnAux])) (by decide +kernel) (by kernel_rfl)
/-- an iterator over a range, a short or a long one -/
abbrev rn (lg : Bool) : String := if lg = true then "longrange_iterator" else "range_iterator"
def IsR (lg : Bool) (h : Heap) (it : Addr) (x left : Int) : Prop := h.get? it = some { cls := .type (rn lg), dict := none, data := .fields #[rawInt x, rawInt left, rawInt 1], slots := #[] }
section
variable {prog : Program} {w : World} {A : Around} {E : Value → Shared → Prop} {s : Shared}
theorem int_field {M : Model} {it : Addr} {x left step y : Int} {k : Nat} {id : String} {Q : Int → Shared → Prop} (hit : s.heap.get? it = some { cls := .type "longrange_iterator", dict := none, data := .fields #[rawInt x, rawInt left, rawInt step], slots := #[] })
    (hk : (#[rawInt x, rawInt left, rawInt step] : Array Value)[k]? = some (rawInt y)) (h : Q y s) : wpAny M A (Builtin.Iterators_pickling.intField id (.ref it) k) Q E s := by
  unfold Builtin.Iterators_pickling.intField
  refine wpAny_bind (wpAny_field hit rfl (x := rawInt y) hk ?_)
  exact wpAny_pure h
theorem next_long {it : Addr} {x left step : Int} {Q : Option Value → Shared → Prop} (hit : s.heap.get? it = some { cls := .type "longrange_iterator", dict := none, data := .fields #[rawInt x, rawInt left, rawInt step], slots := #[] }) (hleft : 0 < left)
    (hQ : ∀ h', h'.get? it = some { cls := .type "longrange_iterator", dict := none, data := .fields #[rawInt (x + step), rawInt (left - 1), rawInt step], slots := #[] } → Heap.SameBut it s.heap h' → Q (some (.int x s.toks)) { s with heap := h', toks := s.toks + 1 }) :
    wpAny (model prog w) A (pyNext (.ref it)) Q E s := by
  have hT : s.TypeIs (.ref it) "longrange_iterator" := ⟨_, hit, rfl⟩
  unfold pyNext
  refine wpAny_bind (wpAny_attempt (wpAny_callSpecial?_slot (name := Str.ofString "__next__") hT slot_next (wpAny_call_entry slot_next hT entry_next ?_ (args_next _))))
  unfold Builtin.«longrange_iterator.__next__»
  refine wpAny_bind (wpAny_of_eq (a := #[some (Value.ref it)]) (by first | rfl | kernel_rfl) ?_)
  show wpAny _ _ (Builtin.Iterators_pickling.intField _ (.ref it) 0 >>= _) _ _ _
  refine wpAny_bind (int_field hit (y := x) rfl ?_)
  refine wpAny_bind (int_field hit (y := left) rfl ?_)
  refine wpAny_bind (int_field hit (y := step) rfl ?_)
  dsimp only
  rw [if_neg (by omega)]
  refine wpAny_bind (wpAny_setField_rec hit (by simp) fun h₁ h1 s1 => ?_)
  replace h1 : h₁.get? it = some { cls := .type "longrange_iterator", dict := none, data := .fields #[rawInt (x + step), rawInt left, rawInt step], slots := #[] } := h1
  refine wpAny_bind (wpAny_setField_rec h1 (by simp) fun h₂ h2 s2 => ?_)
  replace h2 : h₂.get? it = some { cls := .type "longrange_iterator", dict := none, data := .fields #[rawInt (x + step), rawInt (left - 1), rawInt step], slots := #[] } := h2
  unfold retInt
  refine wpAny_bind (wpAny_mkInt ?_)
  exact wpAny_pure ⟨_, rfl, wpAny_pure (hQ h₂ h2 (s1.trans s2))⟩
theorem end_long {it : Addr} {x left step : Int} {Q : Option Value → Shared → Prop} (hh : A.handled = none) (hit : s.heap.get? it = some { cls := .type "longrange_iterator", dict := none, data := .fields #[rawInt x, rawInt left, rawInt step], slots := #[] }) (hleft : left ≤ 0)
    (hQ : ∀ h', Heap.ExtBut it s.heap h' → Q none { s with heap := h' }) : wpAny (model prog w) A (pyNext (.ref it)) Q E s := by
  have hT : s.TypeIs (.ref it) "longrange_iterator" := ⟨_, hit, rfl⟩
  unfold pyNext
  refine wpAny_bind (wpAny_attempt (wpAny_callSpecial?_slot (name := Str.ofString "__next__") hT slot_next (wpAny_call_entry slot_next hT entry_next ?_ (args_next _))))
  unfold Builtin.«longrange_iterator.__next__»
  refine wpAny_bind (wpAny_of_eq (a := #[some (Value.ref it)]) (by first | rfl | kernel_rfl) ?_)
  show wpAny _ _ (Builtin.Iterators_pickling.intField _ (.ref it) 0 >>= _) _ _ _
  refine wpAny_bind (int_field hit (y := x) rfl ?_)
  refine wpAny_bind (int_field hit (y := left) rfl ?_)
  refine wpAny_bind (int_field hit (y := step) rfl ?_)
  dsimp only
  rw [if_pos hleft]
  refine wpAny_bind (wpAny_rule ?_)
  show wpAny _ _ (newExc (.type "StopIteration") [] >>= _) _ _ _
  refine wpAny_bind ?_
  simp only [newExc, newTuple]
  refine wpAny_bind (wpAny_newObj_type ?_ (by size_fits))
  refine wpAny_bind (m := firstArgMember _ _) (wpAny_of_eq (a := Value.none) (by first | rfl | (simp only [firstArgMember]; rfl)) ?_)
  refine wpAny_newObj_type ?_ (by size_fits)
  simp only [raiseNew]
  refine wpAny_bind ?_
  refine wpAny_bind (wpAny_handled ?_)
  first | rw [show A.in1.handled = none from hh] | rw [hh]
  refine wpAny_bind (wpAny_pure (wpAny_throw ?_))
  refine wpAny_bind (wpAny_isInstance (T := "StopIteration") (b := true) ⟨_, Heap.get?_push_size _ rfl, rfl⟩ isSubtype_stop ?_)
  exact wpAny_pure (hQ _ (((Heap.SameBut.refl ..).extBut.push _).push _))
theorem next_any {lg : Bool} {it : Addr} {x left : Int} {Q : Option Value → Shared → Prop} (hit : IsR lg s.heap it x left) (hleft : 0 < left)
    (hQ : ∀ h', IsR lg h' it (x + 1) (left - 1) → Heap.SameBut it s.heap h' → Q (some (.int x s.toks)) { s with heap := h', toks := s.toks + 1 }) : wpAny (model prog w) A (pyNext (.ref it)) Q E s := by
  cases lg with
  | false => exact wpAny_pyNext_range_item hit hleft hQ
  | true => exact next_long hit hleft hQ
theorem end_any {lg : Bool} {it : Addr} {x left : Int} {Q : Option Value → Shared → Prop} (hh : A.handled = none) (hit : IsR lg s.heap it x left) (hleft : left ≤ 0)
    (hQ : ∀ h', Heap.ExtBut it s.heap h' → Q none { s with heap := h' }) : wpAny (model prog w) A (pyNext (.ref it)) Q E s := by
  cases lg with
  | false => exact wpAny_pyNext_range_end hh hit hleft hQ
  | true => exact end_long hh hit hleft hQ
theorem self_any {lg : Bool} {it : Addr} {x left : Int} {Q : Value → Shared → Prop} (hit : IsR lg s.heap it x left) (h : Q (.ref it) s) : wpAny (model prog w) A (pyIter (.ref it)) Q E s := by
  cases lg with
  | false => exact wpAny_pyIter_rangeiter hit h
  | true =>
    have hT : s.TypeIs (.ref it) "longrange_iterator" := ⟨_, hit, rfl⟩
    refine wpAny_pyIter_slot hT slot_iter (wpAny_call_entry slot_iter hT entry_iter ?_ (args_iter _))
    show wpAny _ _ (ret (.ref it)) _ _ s
    exact wpAny_pure ⟨_, rfl, "longrange_iterator", _, hT, slot_next.lookup, h⟩
/-- a range of any numbers, walked -/
theorem iter_any {r : Addr} {a b : Int} {t u v : Tok} {Q : Value → Shared → Prop} (hr : IsRange s.heap r a b 1 t u v)
    (hQ : ∀ lg, Q (.ref s.heap.objs.size) { s with heap := s.heap.push { cls := .type (rn lg), data := .fields #[rawInt a, rawInt (Builtin.Range.rangeSize a b 1), rawInt 1] } }) : wpAny (model prog w) A (pyIter (.ref r)) Q E s := by
  by_cases hs : Builtin.Range.small a b 1 = true
  · exact wpAny_pyIter_range hr hs (hQ false)
  · have hT : s.TypeIs (.ref r) "range" := ⟨_, hr, rfl⟩
    refine wpAny_pyIter_slot hT F.slot_range_iter (call_meets F.slot_range_iter hT F.entry_range_iter (F.args_range_iter_1 _)
      (AutoRange.range___iter___range_0 r a b 1 t u v (by unfold Builtin.Range.small at hs; rw [Bool.eq_false_iff.mpr hs]; rfl)) ⟨hr, ?_⟩)
    unfold Builtin.Range.small at hs
    rw [if_neg hs]
    exact ⟨"longrange_iterator", _, ⟨_, Heap.get?_push_size _ rfl, rfl⟩, slot_next.lookup, hQ true⟩
end
end LR
open PySem PySem.Spec PyProof.Rows
section
variable {X : Cx} {tg : Expr}
/-! ### list(range(a, b)) -/
namespace LR
theorem walks (lg : Bool) {prog : Program} {w : World} {A : Around} (hh : A.handled = none) (I : Addr) (a : Int) (n : Nat) :
    Walks prog w A I [I] [I] n (fun i v => ∃ t, v = .int (a + (i : Int)) t) (fun i h => IsR lg h I (a + (i : Int)) ((n : Int) - (i : Int))) where
  sub := fun _ hb => hb
  frame := fun _ _ _ st hk => hk I (by simp) _ st
  item := fun i s Q E hi st hQ => by
    refine next_any st (by omega) fun h' hit' hs' => ?_
    refine hQ _ h' _ ⟨_, rfl⟩ ?_ fun b o hb e => hs'.extBut b o (fun h => hb (by simp [h])) e
    have e1 : a + ((i + 1 : Nat) : Int) = a + (i : Int) + 1 := by omega
    have e2 : (n : Int) - ((i + 1 : Nat) : Int) = (n : Int) - (i : Int) - 1 := by omega
    rw [e1, e2]
    exact hit'
  done := fun s Q E st hQ => end_any hh st (by omega) fun h' he' => hQ h' s.toks fun b o hb e => he' b o (fun h => hb (by simp [h])) e
  self := fun _ _ _ _ st hQ => self_any st hQ
section
variable {prog : Program} {w : World} {A : Around} {E : Value → Shared → Prop} {s : Shared}
end
end LR
end
theorem FnOk.one {P : Program} {w : World} {K : PySem.W.Frag} {mg : Str → Option Value} {base : Heap} {k : Nat} {f : Addr} {fd : FuncData} {ps : List Str} {sp : Sp} (F : FnOk P w K mg base (CX2 P w) k f fd ps sp) : FnOk P w K mg base (CX1 P w) k f fd ps sp :=
  ⟨F.len, fun A outer s H args us vs Q E hr he hb hv hs => codeAny_mono (F.run A outer s H args us vs Q E hr he hb hv hs) fun r s' h => by
    match r, h with
    | .ok (.ret u), h => exact h
    | .ok .next, h => exact h
    | .ok .brk, h => exact h
    | .ok .cont, h => exact h
    | .error e, h =>
      obtain ⟨e, T, cls, H', h1, h2, h3, h4, h5, ⟨⟨⟨oe, vs', oT, ts, a1, a2, a3, a4, a5, a6, a7, a8⟩, ne⟩, e0, t0, eH, tH⟩, h7⟩ := h
      have l1 := (Array.getElem?_eq_some_iff.mp a4).1
      exact ⟨e, T, cls, H', h1, h2, h3, h4, h5, ⟨⟨oe, vs', oT, ts, vs'[0]'(by omega), a1, ⟨a2, Array.getElem?_eq_getElem (by omega)⟩, a3, a4, a6, a7, a8⟩, ne, e0, t0, eH, tH⟩, h7⟩⟩
end L2
set_option Elab.async false
set_option linter.all false
set_option maxRecDepth 100000
namespace L2
open PySem
/-! ### what a left number amounts to -/
/-! ### near, by division -/
theorem exq_dvd {p n : Int} {t k : Nat} (hp : 2 ≤ p) (h : LN.Exq p n t) : p ^ k ∣ n ↔ k ≤ t := by
  obtain ⟨m, rfl, nd⟩ := h
  constructor
  · intro d
    refine Nat.le_of_not_lt fun lt => nd ?_
    have pos : 0 < p ^ t := Int.pow_pos (by omega)
    have d1 : p ^ (t + 1) ∣ m * p ^ t := Int.dvd_trans (pow_split lt) d
    rw [Int.pow_succ, Int.mul_comm m] at d1
    exact Int.dvd_of_mul_dvd_mul_left (by omega) d1
  · intro le
    exact Int.dvd_trans (pow_split le) (Int.dvd_mul_left _ _)
theorem low_ratio {A B A' B' X Y : Int} (hB : B ≠ 0) (hB' : 0 < B') (h : A * B' = A' * B) (low : LN.Low A' B' X Y) : LN.Low A B X Y := by
  have e : X * B = A * Y := by
    refine Int.eq_of_mul_eq_mul_right (show B' ≠ 0 by omega) ?_
    rw [Int.mul_right_comm, low.eq, Int.mul_right_comm A' Y B, ← h, Int.mul_right_comm]
  have c := low.cop
  refine ⟨low.pos, c, e, ?_, LN.dvd_of_cross e c⟩
  have c' : Nat.gcd Y.natAbs X.natAbs = 1 := by rw [Nat.gcd_comm]; exact c
  exact LN.dvd_of_cross (x := Y) (y := X) (x' := B) (y' := A) (by rw [Int.mul_comm Y A, Int.mul_comm B X]; exact e.symm) c'
/-! ### figures and multiples -/
theorem dvd_off {p a b : Int} {n : Nat} (hp : Pr p) (nb : ¬ p ∣ b) (d : p ^ n ∣ a * b) : p ^ n ∣ a := by
  by_cases ha : a = 0
  · rw [ha]
    exact Int.dvd_zero _
  obtain ⟨t, ht⟩ := exq_ex hp.two _ a (Nat.le_refl _) ha
  have hb : LN.Exq p b 0 := ⟨b, by rw [Int.pow_zero, Int.mul_one], nb⟩
  exact (exq_dvd hp.two ht).mpr ((exq_dvd hp.two (hp.exq ht hb)).mp d)
theorem un_near {p : Int} (hp : 0 < p) {fs gs : List Int} (hf : Figs p fs) (hg : Figs p gs) (hl : fs.length = gs.length) (d : p ^ fs.length ∣ un p fs - un p gs) : fs = gs := by
  refine un_inj hp hf hg hl ?_
  have a0 := un_nn (Int.le_of_lt hp) hf
  have a1 := un_lt hp hf
  have b0 := un_nn (Int.le_of_lt hp) hg
  have b1 := un_lt hp hg
  rw [← hl] at b1
  have e := Int.emod_eq_emod_iff_emod_sub_eq_zero.mpr (Int.emod_eq_zero_of_dvd d)
  rwa [Int.emod_eq_of_lt a0 a1, Int.emod_eq_of_lt b0 b1] at e
theorem cop_pow {p a : Int} (hp : Pr p) (na : ¬ p ∣ a) (k : Nat) : Nat.gcd a.natAbs (p ^ k).natAbs = 1 := by
  rw [Int.natAbs_pow]
  refine Nat.Coprime.pow_right k ?_
  rcases hp.least _ (Nat.gcd_dvd_right a.natAbs p.natAbs) with e | e
  · exact e
  · exact absurd (Int.natAbs_dvd_natAbs.mp (e ▸ Nat.gcd_dvd_left a.natAbs p.natAbs)) na
theorem un_free {p : Int} (hp : 2 ≤ p) {fs : List Int} (hf : Figs p fs) (hh : fs.head? ≠ some 0) (ne : fs ≠ []) : ¬ p ∣ un p fs := by
  cases fs with
  | nil => exact absurd rfl ne
  | cons f fs =>
    intro d
    have h := hf.head
    have d1 : p ∣ f := by
      have := Int.dvd_sub d (Int.dvd_mul_left (un p fs) p)
      rwa [show un p (f :: fs) - un p fs * p = f by show un p fs * p + f - un p fs * p = f; omega] at this
    have := Int.emod_eq_zero_of_dvd d1
    rw [Int.emod_eq_of_lt h.1 h.2] at this
    exact hh (by rw [this]; rfl)
end L2
namespace L2
end L2
set_option Elab.async false
set_option linter.all false
set_option maxRecDepth 100000
namespace L2
open PySem
/-! ### the worth of a left number, over a great power of the prime -/
def vl (p l : Int) (fs : List Int) : Int := un p fs * p ^ (l + 200).toNat
/-! ### congruences -/
/-! ### what begins_fraction and alike tell -/
end L2
set_option Elab.async false
set_option linter.all false
set_option maxRecDepth 100000
namespace L2
open PySem PySem.Spec PyProof.Rows
/-! ### the signs of a text, walked -/
section
variable {X : Cx} {tg : Expr}
end
section
variable {X : Cx}
/-! ### methods of a text -/
end
end L2
namespace L2
open PySem PySem.Spec PyProof.Rows
section
variable {X : Cx}
end
end L2
namespace L2
open PySem PySem.Spec PyProof.Rows
section
variable {X : Cx}
end
end L2
set_option Elab.async false
set_option linter.all false
set_option maxRecDepth 100000
namespace L2
open PySem PySem.Spec PyProof.Rows PySem.NumText
/-! ### words -/
/-! ### the text of a number -/
def tx (i : Int) : Str := Str.ofString (toString i)
/-! ### words joined, and parted again -/
/-! ### a left number read -/
end L2
namespace L2
open PySem PySem.Spec PyProof.Rows PySem.NumText
end L2
namespace L2
open PySem
end L2
namespace L2
open PySem
end L2
namespace L2
open PySem PySem.Spec PyProof.Rows PySem.NumText
end L2
set_option Elab.async false
set_option linter.all false
set_option maxRecDepth 100000
namespace L2
open PySem PySem.Spec PyProof.Rows PySem.NumText
end L2
set_option Elab.async false
set_option linter.all false
set_option maxRecDepth 100000
namespace L2
open PySem
/-! ### products -/
structure IsProd (p l : Int) (fs : List Int) (l' : Int) (fs' : List Int) (m : Int) (gs : List Int) : Prop where
  least : m = l + l'
  len : gs.length = min fs.length fs'.length
  cong : p ^ gs.length ∣ un p fs * un p fs' - un p gs
def wProd (K : PySem.W.Frag) : Int → Int → List Int → Int → List Int → V → Hp → Prop := fun p l fs l' fs' v H => ∃ (c : Addr) (m : Int) (gs : List Int), v = .ref c ∧ LeftAt K H c p m gs ∧ Figs p gs ∧ gs.head? ≠ some 0 ∧ IsProd p l fs l' fs' m gs
end L2
set_option Elab.async false
set_option linter.all false
set_option maxRecDepth 100000
namespace L2
open PySem PySem.Spec PyProof.Rows
section
variable {X : Cx}
end
end L2
set_option Elab.async false
set_option linter.all false
set_option maxRecDepth 100000
/-! a comprehension over a range while an exception is handled -/
namespace L2
open PySem PySem.W PySem.Spec PyProof.Rows
section
variable {prog : Program} {w : World} {A : Around} {E : Value → Shared → Prop} {s : Shared}
end
section
variable {X : Cx} {tg : Expr}
end
section
variable {ea : Addr} {X : Cx} {sc : Scope} {cl : List (Str × Addr)} {x : Str} {caps : List Str} {idx : List Nat} {wi : TI} {tt : TT} {te : TE} {elt iter : Expr} {ifs : List Expr} {pos px : Pos}
end
end L2
set_option Elab.async false
set_option linter.all false
set_option maxRecDepth 100000
namespace L2
open PySem PySem.Spec PyProof.Rows
section
variable {X : Cx}
end
end L2
set_option Elab.async false
set_option linter.all false
set_option maxRecDepth 100000
namespace L2
open PySem
/-! ### quotients -/
structure IsQuot (p l : Int) (fs : List Int) (l' : Int) (fs' : List Int) (m : Int) (gs : List Int) : Prop where
  least : m = l - l'
  len : gs.length = min fs.length fs'.length
  cong : p ^ gs.length ∣ un p gs * un p fs' - un p fs
def wQuot (K : PySem.W.Frag) : Int → Int → List Int → Int → List Int → V → Hp → Prop := fun p l fs l' fs' v H => ∃ (c : Addr) (m : Int) (gs : List Int), v = .ref c ∧ LeftAt K H c p m gs ∧ Figs p gs ∧ gs.head? ≠ some 0 ∧ IsQuot p l fs l' fs' m gs
/-- two left numbers, refused where they are of unlike primes, or where the second is bare; W: what is told -/
def spQuo (K : PySem.W.Frag) (U N : Addr) (W : Int → Int → List Int → Int → List Int → V → Hp → Prop) : Sp := fun vs H Q E => ∃ (a b : Addr) (p l p' l' : Int) (fs fs' : List Int), vs = [.ref a, .ref b] ∧ Lf K H a p l fs ∧ Lf K H b p' l' fs' ∧
  (p ≠ p' → ∀ H', Same H H' → E (.ref U) none H') ∧ (p = p' → fs' = [] → ∀ H', Same H H' → E (.ref N) none H') ∧ (p = p' → fs' ≠ [] → ∀ (v : V) (H' : Hp), Same H H' → W p l fs l' fs' v H' → Q v H')
end L2
set_option Elab.async false
set_option linter.all false
set_option maxRecDepth 100000
namespace L2
open PySem
/-! ### powers -/
def geo (a b : Int) : Nat → Int
  | 0 => 0
  | n + 1 => a ^ n + b * geo a b n
theorem geo_eq (a b : Int) : ∀ n : Nat, a ^ n - b ^ n = (a - b) * geo a b n
  | 0 => by simp [geo]
  | n + 1 => by
    have h := geo_eq a b n
    have e : geo a b (n + 1) = a ^ n + b * geo a b n := rfl
    rw [e, Int.pow_succ, Int.pow_succ]
    generalize a ^ n = x at *
    generalize b ^ n = y at *
    generalize geo a b n = g at *
    grind
theorem pow_cong (a b : Int) (n : Nat) : a - b ∣ a ^ n - b ^ n := ⟨_, geo_eq a b n⟩
theorem geo_near (a b : Int) : ∀ n : Nat, a - b ∣ geo a b (n + 1) - ((n : Int) + 1) * b ^ n
  | 0 => ⟨0, by simp [geo]⟩
  | n + 1 => by
    obtain ⟨x, hx⟩ := geo_near a b n
    obtain ⟨y, hy⟩ := pow_cong a b (n + 1)
    have e : geo a b (n + 1 + 1) = a ^ (n + 1) + b * geo a b (n + 1) := rfl
    refine ⟨y + b * x, ?_⟩
    rw [e]
    have e2 : b ^ (n + 1) = b ^ n * b := Int.pow_succ ..
    rw [e2] at hy ⊢
    generalize a ^ (n + 1) = u at *
    generalize b ^ n = v at *
    generalize geo a b (n + 1) = g at *
    push_cast
    grind
/-- one step: mod p ^ k becomes mod p ^ (k + 1) -/
theorem pow_step {p a b : Int} {k : Nat} (hp : 2 ≤ p) (hk : 1 ≤ k) (h : p ^ k ∣ a - b) : p ^ (k + 1) ∣ a ^ p.toNat - b ^ p.toNat := by
  obtain ⟨n, hn⟩ : ∃ n : Nat, p.toNat = n + 1 := ⟨p.toNat - 1, by omega⟩
  have hpn : p = (n : Int) + 1 := by omega
  have d1 : p ∣ a - b := Int.dvd_trans (by have := pow_split (p := p) hk; rwa [Int.pow_one] at this) h
  rw [hn, geo_eq]
  have d2 : p ∣ geo a b (n + 1) := by
    have g := Int.dvd_trans d1 (geo_near a b n)
    rw [← hpn] at g
    obtain ⟨x, hx⟩ := g
    exact ⟨x + b ^ n, by grind⟩
  rw [Int.pow_succ]
  exact Int.mul_dvd_mul h d2
theorem pow_steps {p a b : Int} {k : Nat} (hp : 2 ≤ p) (hk : 1 ≤ k) (h : p ^ k ∣ a - b) : ∀ t : Nat, p ^ (k + t) ∣ a ^ (p.toNat ^ t) - b ^ (p.toNat ^ t)
  | 0 => by rw [Nat.pow_zero, Int.pow_one, Int.pow_one]; exact h
  | t + 1 => by
    have := pow_step hp (show 1 ≤ k + t by omega) (pow_steps hp hk h t)
    rw [← Int.pow_mul, ← Int.pow_mul] at this
    exact this
/-- how many figures of a power are known, of k figures of the one and t, the exponent of n -/
def knownW (p : Int) (k t : Nat) : Nat := if k = 0 then 0 else k + t + if p = 2 ∧ k = 1 ∧ 0 < t then 1 else 0
theorem two_step {a b : Int} (ha : ¬ (2 : Int) ∣ b) (h : (2 : Int) ∣ a - b) : (2 : Int) ^ 3 ∣ a ^ 2 - b ^ 2 := by
  obtain ⟨x, hx⟩ := h
  obtain ⟨y, hy⟩ : ∃ y, b = 2 * y + 1 := ⟨b / 2, by omega⟩
  have ea : a = 2 * (x + y) + 1 := by omega
  obtain ⟨z, hz⟩ : ∃ z, x * (x + 2 * y + 1) = 2 * z := by
    rcases (show x % 2 = 0 ∨ x % 2 = 1 by omega) with e | e
    · exact ⟨x / 2 * (x + 2 * y + 1), by have : x = 2 * (x / 2) := by omega
                                         grind⟩
    · exact ⟨x * ((x + 1) / 2 + y), by have : x + 1 = 2 * ((x + 1) / 2) := by omega
                                       grind⟩
  refine ⟨z, ?_⟩
  rw [ea, hy]
  have e2 : ∀ u : Int, u ^ 2 = u * u := fun u => by rw [Int.pow_succ, Int.pow_succ, Int.pow_zero, Int.one_mul]
  rw [e2, e2, show (2 : Int) ^ 3 = 8 from rfl]
  grind
/-- whatever comes behind k known figures, so many of the power are known -/
theorem pow_known {p a b : Int} {k t : Nat} {n : Nat} (hp : 2 ≤ p) (hk : 1 ≤ k) (hn : LN.Exq p (n : Int) t) (nb : ¬ p ∣ b) (h : p ^ k ∣ a - b) : p ^ knownW p k t ∣ a ^ n - b ^ n := by
  obtain ⟨m, hm, _⟩ := hn
  have m0 : 0 ≤ m := by
    rcases Int.le_total 0 m with z | z
    · exact z
    · have := Int.mul_nonneg (show 0 ≤ -m by omega) (show 0 ≤ p ^ t from Int.le_of_lt (Int.pow_pos (show 0 < p by omega)))
      rw [Int.neg_mul] at this
      have : m * p ^ t = 0 := by omega
      rcases Int.mul_eq_zero.mp this with z | z
      · omega
      · exact absurd z (Int.ne_of_gt (Int.pow_pos (show 0 < p by omega)))
  obtain ⟨j, rfl⟩ : ∃ j : Nat, m = (j : Int) := ⟨m.toNat, (Int.toNat_of_nonneg m0).symm⟩
  obtain ⟨r, rfl⟩ : ∃ r : Nat, p = (r : Int) := ⟨p.toNat, by omega⟩
  have en : n = r ^ t * j := by
    have : (n : Int) = ((r ^ t * j : Nat) : Int) := by rw [hm]; push_cast; rw [Int.mul_comm]
    exact_mod_cast this
  rw [en, Int.pow_mul, Int.pow_mul]
  refine Int.dvd_trans ?_ (pow_cong _ _ j)
  unfold knownW
  rw [if_neg (by omega)]
  by_cases c : (r : Int) = 2 ∧ k = 1 ∧ 0 < t
  · rw [if_pos c]
    obtain ⟨c1, rfl, c3⟩ := c
    have r2 : r = 2 := by omega
    subst r2
    obtain ⟨t, rfl⟩ : ∃ t', t = t' + 1 := ⟨t - 1, by omega⟩
    have s := two_step nb (by simpa using h)
    have := pow_steps (p := 2) (k := 3) (by decide) (by decide) s t
    rw [← Int.pow_mul, ← Int.pow_mul, show (2 : Int).toNat = 2 from rfl, ← Nat.pow_succ', show 3 + t = 1 + (t + 1) + 1 by omega] at this
    exact this
  · rw [if_neg c, Nat.add_zero]
    have := pow_steps (p := (r : Int)) hp hk h t
    rwa [Int.toNat_natCast] at this
theorem two_pow {p : Int} (hp : 2 ≤ p) : ∀ t : Nat, (2 : Int) ^ t ≤ p ^ t
  | 0 => by rw [Int.pow_zero, Int.pow_zero]; decide
  | t + 1 => by
    rw [Int.pow_succ, Int.pow_succ]
    exact Int.mul_le_mul (two_pow hp t) hp (by decide) (Int.le_of_lt (Int.pow_pos (by omega)))
theorem exq_small {p n : Int} {t : Nat} (hp : 2 ≤ p) (h : LN.Exq p n t) (n0 : 0 < n) (hn : n ≤ 1000) : t ≤ 9 := by
  obtain ⟨m, hm, _⟩ := h
  have pt : 0 < p ^ t := Int.pow_pos (by omega)
  have m1 : 1 ≤ m := by
    rcases (show m < 1 ∨ 1 ≤ m by omega) with z | z
    · have := Int.mul_nonneg (show 0 ≤ -m by omega) (Int.le_of_lt pt)
      rw [Int.neg_mul] at this
      omega
    · exact z
  have h1 : p ^ t ≤ n := by
    have := Int.mul_le_mul_of_nonneg_right m1 (Int.le_of_lt pt)
    rw [Int.one_mul] at this
    omega
  have h2 := two_pow hp t
  refine Nat.le_of_not_lt fun lt => ?_
  obtain ⟨j, rfl⟩ : ∃ j, t = 10 + j := ⟨t - 10, by omega⟩
  have h3 : (1 : Int) ≤ 2 ^ j := Int.pow_pos (by decide)
  rw [Int.pow_add, show (2 : Int) ^ 10 = 1024 from rfl] at h2
  omega
/-! ### by squares -/
structure IsPow (p l : Int) (fs : List Int) (n t : Nat) (m : Int) (gs : List Int) : Prop where
  exq : LN.Exq p (n : Int) t
  least : m = (n : Int) * l
  len : gs.length = knownW p fs.length t
  cong : p ^ gs.length ∣ un p gs - un p fs ^ n
def wPow (K : PySem.W.Frag) : Int → Int → List Int → Nat → V → Hp → Prop := fun p l fs n v H => ∃ (c : Addr) (m : Int) (gs : List Int) (t : Nat), v = .ref c ∧ LeftAt K H c p m gs ∧ Figs p gs ∧ gs.head? ≠ some 0 ∧ IsPow p l fs n t m gs
/-- a left number and how often it is taken; what is no such number is refused; W: what is told -/
def spPower (K : PySem.W.Frag) (N : Addr) (W : Int → Int → List Int → Nat → V → Hp → Prop) : Sp := fun vs H Q E => ∃ (a : Addr) (p l : Int) (fs : List Int) (v : V), vs = [.ref a, v] ∧ Lf K H a p l fs ∧ Thing K H v ∧
  ((¬ ∃ n : Nat, v = .int (n : Int) ∧ 1 ≤ n ∧ n ≤ 1000) → ∀ H', Same H H' → E (.ref N) none H') ∧ (∀ n : Nat, v = .int (n : Int) → 1 ≤ n → n ≤ 1000 → ∀ (u : V) (H' : Hp), Same H H' → W p l fs n u H' → Q u H')
/-! ### the doubt of a power -/
theorem known_bound {p : Int} {k t : Nat} : knownW p k t ≤ k + t + 1 := by
  unfold knownW
  split
  · omega
  · split <;> omega
end L2
set_option Elab.async false
set_option linter.all false
set_option maxRecDepth 100000
namespace L2
open PySem
/-! ### scaled by a fraction -/
theorem exq_le {p n : Int} {t N : Nat} (hp : 2 ≤ p) (n0 : n ≠ 0) (h : LN.Exq p n t) (b : LN.Bd N n) : t < N := by
  obtain ⟨m, hm, _⟩ := h
  have d : p ^ t ∣ n := ⟨m, by rw [hm, Int.mul_comm]⟩
  have h1 := Nat.le_of_dvd (Int.natAbs_pos.mpr n0) (Int.natAbs_dvd_natAbs.mpr d)
  have h2 := two_pow hp t
  unfold LN.Bd at b
  have h3 : (2 ^ t : Nat) ≤ (p ^ t).natAbs := by
    have e : ((2 ^ t : Nat) : Int) = (2 : Int) ^ t := by push_cast; rfl
    have := Int.pow_pos (n := p) (m := t) (show 0 < p by omega)
    omega
  exact (Nat.pow_lt_pow_iff_right (by decide)).mp (Nat.lt_of_le_of_lt (Nat.le_trans h3 h1) b)
theorem pow_div {p x : Int} {t : Nat} (hp : 0 < p) : x * p ^ t / p ^ t = x := Int.mul_ediv_cancel _ (Int.ne_of_gt (Int.pow_pos hp))
theorem pow_bd {p n m : Int} {t N : Nat} (n0 : n ≠ 0) (h : n = m * p ^ t) (b : LN.Bd N n) : LN.Bd N (p ^ t) := b.of_le (Nat.le_of_dvd (Int.natAbs_pos.mpr n0) (Int.natAbs_dvd_natAbs.mpr ⟨m, by rw [h, Int.mul_comm]⟩))
theorem rest_bd {p n m : Int} {t N : Nat} (n0 : n ≠ 0) (h : n = m * p ^ t) (b : LN.Bd N n) : LN.Bd N m := b.of_le (Nat.le_of_dvd (Int.natAbs_pos.mpr n0) (Int.natAbs_dvd_natAbs.mpr ⟨p ^ t, h⟩))
theorem fr_uniq {H : Hp} {c : Addr} {x y x' y' : Int} (h : FrAt H c x y) (h' : FrAt H c x' y') : x = x' ∧ y = y' := by
  have h : H c = some (.tup [.int x, .int y]) := h
  have h' : H c = some (.tup [.int x', .int y']) := h'
  rw [h] at h'
  cases h'
  exact ⟨rfl, rfl⟩
end L2
set_option Elab.async false
set_option linter.all false
set_option maxRecDepth 100000
namespace L2
open PySem
/-! ### fractions seen -/
def IsSeen (p x y e m : Int) (gs : List Int) : Prop := endL m gs = e ∧ (x = 0 → gs = []) ∧ (x ≠ 0 → ∃ (s r : Nat) (x' y' : Int), x = x' * p ^ s ∧ ¬ p ∣ x' ∧ y = y' * p ^ r ∧ ¬ p ∣ y' ∧ ((e ≤ (s : Int) - r ∧ gs = []) ∨ ((s : Int) - r < e ∧ m = (s : Int) - r ∧ p ^ gs.length ∣ un p gs * y' - x')))
def wSeen (K : PySem.W.Frag) : Int → Int → Int → Int → V → Hp → Prop := fun p x y e v H => ∃ (c : Addr) (m : Int) (gs : List Int), v = .ref c ∧ LeftAt K H c p m gs ∧ Figs p gs ∧ gs.head? ≠ some 0 ∧ IsSeen p x y e m gs
/-- a prime, a fraction, an end; what is none is refused, in this order: prime, end, fraction -/
def spSeen (K : PySem.W.Frag) (P N F : Addr) (W : Int → Int → Int → Int → V → Hp → Prop) : Sp := fun vs H Q E => ∃ (pv v ev : V) (b : Bool), vs = [pv, v, ev] ∧ Thing K H pv ∧ Thing K H ev ∧ FrT K H v b ∧
  (isPr pv = false → ∀ H', Same H H' → E (.ref P) none H') ∧ (isPr pv = true → isI ev = false → ∀ H', Same H H' → E (.ref N) none H') ∧ (isPr pv = true → isI ev = true → b = false → ∀ H', Same H H' → E (.ref F) none H') ∧
  (∀ (p e x y : Int) (c : Addr), pv = .int p → Pr p → ev = .int e → v = .ref c → FrAt H c x y → b = true → -410 ≤ e ∧ e ≤ 410 ∧ LN.Bd 1000 x ∧ LN.Bd 1000 y ∧ ∀ (u : V) (H' : Hp), Same H H' → W p x y e u H' → Q u H')
def spSize : Sp := fun vs H Q _ => ∃ (p x y : Int) (c : Addr), vs = [.int p, .ref c] ∧ Pr p ∧ FrAt H c x y ∧ x ≠ 0 ∧ 0 < y ∧ LN.Bd 1000 x ∧ LN.Bd 1000 y ∧ ∀ (s r : Nat) (x' y' : Int), x = x' * p ^ s → ¬ p ∣ x' → y = y' * p ^ r → ¬ p ∣ y' → ∀ H', Same H H' → Q (.int (if y' > (if x' < 0 then -x' else x') then y' else (if x' < 0 then -x' else x'))) H'
theorem seen_good {K : PySem.W.Frag} {H : Hp} {t : Addr} {p x y e : Int} {Q : VK} {W : Int → Int → Int → Int → V → Hp → Prop} {P N F : Addr} {E : XK} (hp : Pr p) (h : FrAt H t x y) (y0 : 0 < y) (cop : Nat.gcd x.natAbs y.natAbs = 1) (bx : LN.Bd 1000 x) (by' : LN.Bd 1000 y) (e1 : -410 ≤ e) (e2 : e ≤ 410)
    (q : ∀ (u : V) (H' : Hp), Same H H' → W p x y e u H' → Q u H') : spSeen K P N F W [.int p, .ref t, .int e] H Q E := by
  have ip : isPr (.int p) = true := decide_eq_true hp
  refine ⟨.int p, .ref t, .int e, true, rfl, Thing.int p, Thing.int e, FrT.low h y0 cop, fun z => ?_, fun _ z => ?_, fun _ _ z => ?_, fun p' e' x' y' c ep _ ee ec h' _ => ?_⟩
  · rw [ip] at z; cases z
  · cases z
  · cases z
  · cases ep
    cases ee
    cases ec
    obtain ⟨rfl, rfl⟩ := fr_uniq h h'
    exact ⟨e1, e2, bx, by', q⟩
/-- a fraction made of two numbers without p, and of powers of p -/
theorem seen_cop {p x y : Int} {s r : Nat} (hp : Pr p) (nx : ¬ p ∣ x) (ny : ¬ p ∣ y) (cop : Nat.gcd x.natAbs y.natAbs = 1) (h : s = 0 ∨ r = 0) : Nat.gcd (x * p ^ s).natAbs (y * p ^ r).natAbs = 1 := by
  rw [Int.natAbs_mul, Int.natAbs_mul]
  rcases h with rfl | rfl
  · rw [Int.pow_zero, show (1 : Int).natAbs = 1 from rfl, Nat.mul_one]
    exact Nat.Coprime.mul_right cop (cop_pow hp nx r)
  · rw [Int.pow_zero, show (1 : Int).natAbs = 1 from rfl, Nat.mul_one]
    have := cop_pow hp ny s
    exact Nat.Coprime.mul_left cop (Nat.Coprime.symm this)
end L2
set_option Elab.async false
set_option linter.all false
set_option maxRecDepth 100000
namespace L2
open PySem
/-! ### the algebra of quotients and powers -/
theorem pow_free {p u : Int} (hp : Pr p) (h : ¬ p ∣ u) : ∀ n : Nat, ¬ p ∣ u ^ n
  | 0 => fun z => by
    rw [Int.pow_zero] at z
    have := Int.le_of_dvd (by decide) z
    have := hp.two
    omega
  | n + 1 => by
    rw [Int.pow_succ]
    exact hp.free (pow_free hp h n) h
/-! ### handing in good ones -/
section
variable {K : PySem.W.Frag} {H : Hp} {a b U N : Addr} {p l l' : Int} {fs fs' : List Int} {Q : VK} {E : XK}
end
end L2
set_option Elab.async false
set_option linter.all false
set_option maxRecDepth 100000
namespace L2
open PySem
/-! ### what left numbers count from a place on -/
def vB (p B l : Int) (fs : List Int) : Int := un p fs * p ^ (l - B).toNat
end L2
set_option Elab.async false
set_option linter.all false
set_option maxRecDepth 100000
namespace L2
open PySem
/-! ### powers part just there -/
end L2
set_option Elab.async false
set_option linter.all false
set_option maxRecDepth 100000
namespace L2
open PySem PySem.Spec PyProof.Rows
section
variable {X : Cx}
end
/-! ### numbers that the prime does not divide -/
def spExpU : Sp := fun vs H Q _ => ∃ p n : Int, vs = [.int p, .int n] ∧ 2 ≤ p ∧ ¬ p ∣ n ∧ ∀ H' : Hp, Same H H' → Q (.int 0) H'
theorem digs_top {p n : Int} (h : ¬ p ∣ n) : ∀ m : Nat, (digs p m n).head? ≠ some 0
  | 0 => fun z => nomatch z
  | m + 1 => fun z => h (Int.dvd_of_emod_eq_zero (Option.some.inj (show some (n % p) = some 0 from z)))
theorem lead_top : ∀ {fs : List Int}, fs.head? ≠ some 0 → lead fs = 0
  | [], _ => rfl
  | f :: fs, h => by
    show (if f = 0 then lead fs + 1 else 0) = 0
    rw [if_neg fun z => h (by rw [z]; rfl)]
theorem digs_cong {p : Int} (hp : 0 < p) : ∀ (m : Nat) (n : Int), p ^ m ∣ n - un p (digs p m n)
  | 0, n => ⟨n - un p (digs p 0 n), by rw [Int.pow_zero, Int.one_mul]⟩
  | m + 1, n => by
    obtain ⟨k, hk⟩ := digs_cong hp m (n / p)
    refine ⟨k, ?_⟩
    show n - (un p (digs p m (n / p)) * p + n % p) = _
    have e := Int.mul_ediv_add_emod n p
    rw [Int.pow_succ]
    grind
end L2
set_option Elab.async false
set_option linter.all false
set_option maxRecDepth 100000
namespace L2
open PySem
/-! ### long division by a number that the prime does not divide -/
/-- what brings b back to 1 -/
def backOf (p b : Int) : Int := (b % p) ^ (p - 2).toNat % p
def qdigs (p b c : Int) : Nat → Int → List Int
  | 0, _ => []
  | m + 1, n => (n * c % p) :: qdigs p b c m ((n - n * c % p * b) / p)
theorem fermat {p : Int} (hp : Pr p) : ∀ r : Nat, r < p.natAbs → r ≠ 0 → r ^ (p.natAbs - 2) % p.natAbs * r % p.natAbs = 1 := by
  have all : ∀ q ∈ primesL, ∀ r, r < q.natAbs → r ≠ 0 → r ^ (q.natAbs - 2) % q.natAbs * r % q.natAbs = 1 := by decide +kernel
  exact all p hp
theorem back_ok {p b : Int} (hp : Pr p) (nb : ¬ p ∣ b) : p ∣ 1 - backOf p b * b := by
  have p2 := hp.two
  obtain ⟨P, rfl⟩ : ∃ P : Nat, p = (P : Int) := ⟨p.toNat, by omega⟩
  have r0 := Int.emod_nonneg b (show (P : Int) ≠ 0 by omega)
  have r1 := Int.emod_lt_of_pos b (show 0 < (P : Int) by omega)
  obtain ⟨r, hr⟩ : ∃ r : Nat, b % (P : Int) = (r : Int) := ⟨(b % (P : Int)).toNat, by omega⟩
  have rn : r ≠ 0 := fun z => nb (Int.dvd_of_emod_eq_zero (by rw [hr, z]; rfl))
  have f := fermat hp r (by rw [Int.natAbs_natCast]; omega) rn
  rw [Int.natAbs_natCast] at f
  have eb : backOf (P : Int) b = ((r ^ (P - 2) % P : Nat) : Int) := by
    unfold backOf
    rw [hr, show ((P : Int) - 2).toNat = P - 2 by omega]
    push_cast
    rfl
  have e2 : (((r ^ (P - 2) % P : Nat) : Int) * (r : Int)) % (P : Int) = 1 := by exact_mod_cast f
  rw [eb]
  generalize ((r ^ (P - 2) % P : Nat) : Int) = c at *
  have e3 := Int.mul_ediv_add_emod (c * (r : Int)) (P : Int)
  have e4 := Int.mul_ediv_add_emod b (P : Int)
  rw [e2] at e3
  rw [hr] at e4
  generalize (c * (r : Int)) / (P : Int) = u at *
  generalize b / (P : Int) = v at *
  exact ⟨-u - c * v, by rw [← e4]; grind⟩
theorem back_lt {p b : Int} (hp : 0 < p) : 0 ≤ backOf p b ∧ backOf p b < p := ⟨Int.emod_nonneg _ (by omega), Int.emod_lt_of_pos _ hp⟩
theorem qd_dvd {p b c : Int} (n : Int) (hc : p ∣ 1 - c * b) : p ∣ n - n * c % p * b := by
  obtain ⟨k, hk⟩ := hc
  have e := Int.mul_ediv_add_emod (n * c) p
  generalize n * c / p = u at *
  generalize n * c % p = f at *
  exact ⟨n * k + u * b, by grind⟩
theorem qdigs_len {p b c : Int} : ∀ {m : Nat} {n : Int}, (qdigs p b c m n).length = m
  | 0, _ => rfl
  | m + 1, n => by
    show (qdigs p b c m _).length + 1 = m + 1
    rw [qdigs_len]
theorem qdigs_figs {p b c : Int} (hp : 0 < p) : ∀ {m : Nat} {n : Int}, Figs p (qdigs p b c m n)
  | 0, _ => Figs.nil
  | m + 1, n => fun g hg => by
    rcases List.mem_cons.mp hg with rfl | hg
    · exact ⟨Int.emod_nonneg _ (by omega), Int.emod_lt_of_pos _ hp⟩
    · exact qdigs_figs hp g hg
theorem qdigs_cong {p b c : Int} (hp : 0 < p) (hc : p ∣ 1 - c * b) : ∀ (m : Nat) (n : Int), p ^ m ∣ n - b * un p (qdigs p b c m n)
  | 0, n => ⟨n - b * un p (qdigs p b c 0 n), by rw [Int.pow_zero, Int.one_mul]⟩
  | m + 1, n => by
    obtain ⟨k, hk⟩ := qdigs_cong hp hc m ((n - n * c % p * b) / p)
    have d := Int.mul_ediv_cancel' (qd_dvd n hc)
    refine ⟨k, ?_⟩
    show n - b * (un p (qdigs p b c m ((n - n * c % p * b) / p)) * p + n * c % p) = _
    rw [Int.pow_succ]
    generalize un p (qdigs p b c m ((n - n * c % p * b) / p)) = u at *
    generalize (n - n * c % p * b) / p = v at *
    generalize n * c % p = f at *
    generalize p ^ m = w at *
    grind
theorem qdigs_top {p b c n : Int} (hc : p ∣ 1 - c * b) (h : ¬ p ∣ n) : ∀ m : Nat, (qdigs p b c m n).head? ≠ some 0
  | 0 => fun z => nomatch z
  | m + 1 => fun z => h (by
    have e : p ∣ n * c := Int.dvd_of_emod_eq_zero (Option.some.inj (show some (n * c % p) = some 0 from z))
    obtain ⟨k, hk⟩ := hc
    obtain ⟨j, hj⟩ := e
    exact ⟨n * k + j * b, by grind⟩)
theorem back_one {p : Int} (hp : 2 ≤ p) : backOf p 1 = 1 := by
  unfold backOf
  have h : (1 : Int) % p = 1 := Int.emod_eq_of_lt (by decide) (by omega)
  rw [h, Int.one_pow, h]
theorem qdigs_one {p : Int} (hp : 2 ≤ p) : ∀ (m : Nat) (n : Int), qdigs p 1 (backOf p 1) m n = digs p m n
  | 0, _ => rfl
  | m + 1, n => by
    show (n * backOf p 1 % p) :: qdigs p 1 (backOf p 1) m ((n - n * backOf p 1 % p * 1) / p) = (n % p) :: digs p m (n / p)
    have e : (n - n % p) / p = n / p := by
      have := Int.mul_ediv_add_emod n p
      rw [show n - n % p = p * (n / p) by omega, Int.mul_ediv_cancel_left _ (by omega)]
    rw [back_one hp, Int.mul_one, Int.mul_one, e, ← qdigs_one hp m, back_one hp]
theorem qd_bd {p b n f r : Int} {N : Nat} (hp : 0 < p) (f0 : 0 ≤ f) (f1 : f < p) (e : n - f * b = p * r) (bn : LN.Bd N n) (bb : LN.Bd N b) : LN.Bd N r := by
  unfold LN.Bd at *
  have h1 : (n - f * b).natAbs ≤ n.natAbs + f.natAbs * b.natAbs := by
    have := Int.natAbs_sub_le n (f * b)
    rwa [Int.natAbs_mul] at this
  have h2 : p.natAbs * r.natAbs = (n - f * b).natAbs := by rw [e, Int.natAbs_mul]
  obtain ⟨P, rfl⟩ : ∃ P : Nat, p = ((P + 1 : Nat) : Int) := ⟨p.toNat - 1, by omega⟩
  have h3 : f.natAbs * b.natAbs ≤ P * (2 ^ N - 1) := Nat.mul_le_mul (by omega) (by omega)
  rw [Int.natAbs_natCast] at h2
  have h4 : (P + 1) * r.natAbs ≤ (P + 1) * (2 ^ N - 1) := by
    rw [h2, Nat.add_mul, Nat.one_mul]
    omega
  have := Nat.le_of_mul_le_mul_left h4 (by omega)
  have := Nat.two_pow_pos N
  omega
def spFirstQ : Sp := fun vs H Q _ => ∃ (p n b : Int) (m : Nat), vs = [.int p, .int n, .int b, .int (m : Int)] ∧ Pr p ∧ m ≤ 3000 ∧ ¬ p ∣ b ∧ LN.Bd 100000 n ∧ LN.Bd 100000 b ∧ ∀ (a : Addr) (H' : Hp), Same H H' → H' a = some (.lst ((qdigs p b (backOf p b) m n).map V.int)) → Q (.ref a) H'
def spOfWholeV (K : PySem.W.Frag) : Sp := fun vs H Q _ => ∃ (p l n : Int) (m : Nat), vs = [.int p, .int l, .int n, .int (m : Int)] ∧ Pr p ∧ LN.Bd 900 l ∧ m ≤ 3000 ∧ LN.Bd 90000 n ∧ (n = 0 → m = 0) ∧ (n ≠ 0 → ¬ p ∣ n) ∧
  ∀ (a : Addr) (H' : Hp), Same H H' → LeftAt K H' a p l (digs p m n) → Q (.ref a) H'
/-- a fraction without its p; its exponent -/
def spWo : Sp := fun vs H Q _ => ∃ (p x y : Int) (c : Addr), vs = [.int p, .ref c] ∧ Pr p ∧ FrAt H c x y ∧ x ≠ 0 ∧ y ≠ 0 ∧ LN.Bd 1000 x ∧ LN.Bd 1000 y ∧ ∀ (s r : Nat) (x' y' : Int), x = x' * p ^ s → ¬ p ∣ x' → y = y' * p ^ r → ¬ p ∣ y' → ∀ (t : Addr) (H' : Hp), Same H H' → FrAt H' t x' y' → Q (.ref t) H'
def spXo : Sp := fun vs H Q _ => ∃ (p x y : Int) (c : Addr), vs = [.int p, .ref c] ∧ Pr p ∧ FrAt H c x y ∧ x ≠ 0 ∧ y ≠ 0 ∧ LN.Bd 1000 x ∧ LN.Bd 1000 y ∧ ∀ (s r : Nat), LN.Exq p x s → LN.Exq p y r → ∀ H' : Hp, Same H H' → Q (.int ((s : Int) - (r : Int))) H'
def spRefP (K : PySem.W.Frag) (N : Addr) : Sp := fun vs H Q E => ∃ v : V, vs = [v] ∧ Thing K H v ∧ ((¬ ∃ n : Nat, v = .int (n : Int) ∧ 1 ≤ n ∧ n ≤ 1000) → E (.ref N) none H) ∧ ((∃ n : Nat, v = .int (n : Int) ∧ 1 ≤ n ∧ n ≤ 1000) → Q .non H)
def spRefQ (K : PySem.W.Frag) (U N : Addr) : Sp := fun vs H Q E => ∃ (a b : Addr) (p l p' l' : Int) (fs fs' : List Int), vs = [.ref a, .ref b] ∧ Lf K H a p l fs ∧ Lf K H b p' l' fs' ∧ (p ≠ p' → E (.ref U) none H) ∧ (p = p' → fs' = [] → ∀ H', Same H H' → E (.ref N) none H') ∧ (p = p' → fs' ≠ [] → ∀ H', Same H H' → Q .non H')
def spPR : Sp := fun vs H Q _ => ∃ (x W : Int) (n : Nat), vs = [.int x, .int (n : Int), .int W] ∧ LN.Bd 20000 x ∧ 2 ≤ W ∧ LN.Bd 20000 W ∧ n ≤ 5000 ∧ Q (.int (x ^ n % W)) H
theorem FrT.true_at {K : PySem.W.Frag} {H : Hp} {v : V} (fr : FrT K H v true) : ∃ c x y, v = .ref c ∧ FrAt H c x y ∧ 1 ≤ y := by
  cases fr with
  | two h e =>
    rename_i a x y
    have e := e.symm
    rw [Bool.and_eq_true] at e
    exact ⟨a, x, y, rfl, h, of_decide_eq_true e.1⟩
/-- rests of powers, by squares -/
theorem rest_sq {x W : Int} {k : Nat} : x ^ k % W * (x ^ k % W) % W = x ^ (k + k) % W := by
  rw [Int.pow_add, ← Int.mul_emod]
theorem rest_sq1 {x W : Int} {k : Nat} : x ^ k % W * x % W = x ^ (k + 1) % W := by
  rw [Int.pow_succ, Int.mul_emod (x ^ k % W), Int.emod_emod, ← Int.mul_emod]
/-- which figures are taken for a power -/
def chF (p : Int) (fs : List Int) (n : Int) : List Int := if p = 2 ∧ fs.length = 1 ∧ n % 2 = 0 then fs ++ [0] else fs
def spChosen (K : PySem.W.Frag) : Sp := fun vs H Q _ => ∃ (a : Addr) (p l n : Int) (fs : List Int), vs = [.ref a, .int n] ∧ Lf K H a p l fs ∧ ∀ (c : Addr) (H' : Hp), Same H H' → Lf K H' c p l (chF p fs n) → Q (.ref c) H'
theorem even_exq {n : Int} {t : Nat} (ex : LN.Exq 2 n t) : n % 2 = 0 ↔ 0 < t := by
  obtain ⟨m, rfl, nm⟩ := ex
  cases t with
  | zero =>
    rw [Int.pow_zero, Int.mul_one]
    exact ⟨fun z => absurd (Int.dvd_of_emod_eq_zero z) nm, fun z => absurd z (Nat.lt_irrefl _)⟩
  | succ t =>
    refine ⟨fun _ => Nat.succ_pos _, fun _ => ?_⟩
    rw [Int.pow_succ, ← Int.mul_assoc, Int.mul_emod_left]
structure Chn (p : Int) (fs cs : List Int) (t : Nat) : Prop where
  ne : cs ≠ []
  top : cs.head? ≠ some 0
  fig : Figs p cs
  un' : un p cs = un p fs
  len : knownW p fs.length t = cs.length + t
  ok : p ≠ 2 ∨ 2 ≤ cs.length ∨ t = 0
  goes : ∃ ts, cs = fs ++ ts ∧ ts.length ≤ 1
theorem head_app {fs gs : List Int} (ne : fs ≠ []) : (fs ++ gs).head? = fs.head? := by
  cases fs with
  | nil => exact absurd rfl ne
  | cons f fs => rfl
theorem chn {p n : Int} {fs : List Int} {t : Nat} (hp : 2 ≤ p) (ff : Figs p fs) (top : fs.head? ≠ some 0) (ne : fs ≠ []) (ex : LN.Exq p n t) : Chn p fs (chF p fs n) t := by
  have k1 : 1 ≤ fs.length := List.length_pos_iff.mpr ne
  unfold chF
  by_cases c : p = 2 ∧ fs.length = 1 ∧ n % 2 = 0
  · rw [if_pos c]
    obtain ⟨rfl, c2, c3⟩ := c
    have t1 := (even_exq ex).mp c3
    refine ⟨List.append_ne_nil_of_left_ne_nil ne _, by rw [head_app ne]; exact top, ff.app (Figs.one (Int.le_refl _) (by decide)), by rw [un_snoc]; omega, ?_, .inr (.inl ?_), [0], rfl, Nat.le_refl _⟩
    · rw [List.length_append, c2]
      unfold knownW
      rw [if_neg (by decide), if_pos ⟨rfl, rfl, t1⟩]
      show 1 + t + 1 = 1 + 1 + t
      omega
    · rw [List.length_append, c2]
      exact Nat.le_refl _
  · rw [if_neg c]
    have c' : ¬ (p = 2 ∧ fs.length = 1 ∧ 0 < t) := fun ⟨z1, z2, z3⟩ => by
      subst z1
      exact c ⟨rfl, z2, (even_exq ex).mpr z3⟩
    refine ⟨ne, top, ff, rfl, ?_, by omega, [], by rw [List.append_nil], Nat.zero_le _⟩
    unfold knownW
    rw [if_neg (by omega), if_neg c', Nat.add_zero]
theorem chF_lf {K : PySem.W.Frag} {H H' : Hp} {a c : Addr} {p l n : Int} {fs : List Int} (la : Lf K H a p l fs) (lc : LeftAt K H' c p l (chF p fs n)) : Lf K H' c p l (chF p fs n) := by
  have few := la.few
  have p2 := la.pr.two
  unfold chF at *
  split
  · rename_i c1
    rw [if_pos c1] at lc
    have ne : fs ≠ [] := fun z => by rw [z] at c1; exact absurd c1.2.1 (by decide)
    exact ⟨lc, la.pr, la.bd, la.fig.app (Figs.one (Int.le_refl _) (by omega)), by rw [List.length_append, c1.2.1]; decide, by rw [head_app ne]; exact la.top⟩
  · rename_i c1
    rw [if_neg c1] at lc
    exact ⟨lc, la.pr, la.bd, la.fig, la.few, la.top⟩
theorem iteIF {a b : Int} {A B : Prop} (h : a ≠ b) (hb : B) : if decide (V.int a = V.int b) = true then A else B := iteI (fun e => absurd e h) (fun _ => hb)
/-- the number that the figures of a tuple make -/
def spNumOf : Sp := fun vs H Q _ => ∃ (p : Int) (c : Addr) (fs : List Int), vs = [.int p, .ref c] ∧ H c = some (.tup (fs.map V.int)) ∧ Pr p ∧ Figs p fs ∧ fs.length ≤ 1500 ∧ ∀ H' : Hp, Same H H' → Q (.int (un p fs)) H'
/-- what brings a number that the prime doesn't divide back to 1 -/
def spBackOf : Sp := fun vs H Q _ => ∃ p b : Int, vs = [.int p, .int b] ∧ Pr p ∧ ∀ H' : Hp, Same H H' → Q (.int (backOf p b)) H'
end L2
set_option Elab.async false
set_option linter.all false
set_option maxRecDepth 100000
namespace L2
open PySem
/-! ### the doubts of products, quotients and powers -/
abbrev lgL (l f : Int) (fs : List Int) : Int := l + lead (fs ++ [f])
abbrev lgF (f : Int) (fs : List Int) : List Int := (fs ++ [f]).drop (lead (fs ++ [f]))
theorem lg_any {p l f : Int} {fs : List Int} (top : fs.head? ≠ some 0) (ne : fs ≠ []) : lgL l f fs = l ∧ lgF f fs = fs ++ [f] := by
  have e : lead (fs ++ [f]) = 0 := lead_none (fun z => top (by
    cases fs with
    | nil => exact absurd rfl ne
    | cons g gs => exact z))
  unfold lgL lgF
  rw [e, List.drop_zero]
  exact ⟨Int.add_zero _, rfl⟩
/-! ### powers -/
end L2
set_option Elab.async false
set_option linter.all false
set_option maxRecDepth 100000
namespace L2
open PySem
/-! ### fractions found again -/
/-- two fractions of one row of figures, both within the size, are the same -/
theorem fnd_uniq {W u t b t' b' S : Int} (h : W ∣ t - u * b) (h' : W ∣ t' - u * b') (ht : t.natAbs ≤ S.natAbs) (hb : b.natAbs ≤ S.natAbs) (ht' : t'.natAbs ≤ S.natAbs) (hb' : b'.natAbs ≤ S.natAbs) (hS : 2 * (S.natAbs * S.natAbs) < W.natAbs) : t * b' = t' * b := by
  have d : W ∣ t * b' - t' * b := by
    obtain ⟨x, hx⟩ := h
    obtain ⟨y, hy⟩ := h'
    exact ⟨x * b' - y * b, by grind⟩
  have e1 : (t * b').natAbs ≤ S.natAbs * S.natAbs := by rw [Int.natAbs_mul]; exact Nat.mul_le_mul ht hb'
  have e2 : (t' * b).natAbs ≤ S.natAbs * S.natAbs := by rw [Int.natAbs_mul]; exact Nat.mul_le_mul ht' hb
  have z : t * b' - t' * b = 0 := by
    by_cases z : t * b' - t' * b = 0
    · exact z
    · have := Nat.le_of_dvd (Int.natAbs_pos.mpr z) (Int.natAbs_dvd_natAbs.mpr d)
      omega
  omega
/-- a paper: what it tells -/
structure Paper (p W u S r s v w : Int) : Prop where
  dr : W ∣ r - u * s
  dv : W ∣ v - u * w
  det : r * w - v * s = W ∨ r * w - v * s = -W
  sw : s * w ≤ 0
  big : S < r
  v0 : 0 ≤ v
  v1 : v ≤ S
  bad : S < (w.natAbs : Int) ∨ p ∣ w
/-- what begins so comes of both rows -/
theorem Paper.comes {p W u S r s v w t b : Int} (P : Paper p W u S r s v w) (W0 : 0 < W) (h : W ∣ t - u * b) : ∃ m n : Int, t = m * r + n * v ∧ b = m * s + n * w := by
  obtain ⟨x, hx⟩ := P.dr
  obtain ⟨y, hy⟩ := P.dv
  obtain ⟨z, hz⟩ := h
  have e1 : t * w - b * v = W * (z * w - b * y) := by grind
  have e2 : r * b - t * s = W * (x * b - z * s) := by grind
  rcases P.det with d | d
  · refine ⟨z * w - b * y, x * b - z * s, ?_, ?_⟩
    · refine Int.eq_of_mul_eq_mul_left (show W ≠ 0 by omega) ?_
      have : W * ((z * w - b * y) * r + (x * b - z * s) * v) = (t * w - b * v) * r + (r * b - t * s) * v := by rw [e1, e2]; grind
      rw [this]
      grind
    · refine Int.eq_of_mul_eq_mul_left (show W ≠ 0 by omega) ?_
      have : W * ((z * w - b * y) * s + (x * b - z * s) * w) = (t * w - b * v) * s + (r * b - t * s) * w := by rw [e1, e2]; grind
      rw [this]
      grind
  · refine ⟨-(z * w - b * y), -(x * b - z * s), ?_, ?_⟩
    · refine Int.eq_of_mul_eq_mul_left (show W ≠ 0 by omega) ?_
      have : W * (-(z * w - b * y) * r + -(x * b - z * s) * v) = -((t * w - b * v) * r + (r * b - t * s) * v) := by rw [e1, e2]; grind
      rw [this]
      grind
    · refine Int.eq_of_mul_eq_mul_left (show W ≠ 0 by omega) ?_
      have : W * (-(z * w - b * y) * s + -(x * b - z * s) * w) = -((t * w - b * v) * s + (r * b - t * s) * w) := by rw [e1, e2]; grind
      rw [this]
      grind
theorem abs_pos {m : Int} (h : m ≠ 0) : 1 ≤ m.natAbs := Int.natAbs_pos.mpr h
/-- so where there is a paper, nothing within the size begins so -/
theorem Paper.none {p W u S r s v w t b : Int} (P : Paper p W u S r s v w) (hS : 0 < S) (hW : 2 * (S * S) < W) (h : W ∣ t - u * b) (nb : ¬ p ∣ b) (ht : (t.natAbs : Int) ≤ S) (hb : (b.natAbs : Int) ≤ S) : False := by
  have SS : 0 ≤ S * S := Int.mul_nonneg (by omega) (by omega)
  have W0 : 0 < W := by omega
  obtain ⟨m, n, et, eb⟩ := P.comes W0 h
  have r0 := P.big
  have v0 := P.v0
  have v1 := P.v1
  by_cases m0 : m = 0
  · subst m0
    rw [Int.zero_mul, Int.zero_add] at et eb
    rcases P.bad with z | z
    · have n0 : n ≠ 0 := fun e => nb (by rw [eb, e, Int.zero_mul]; exact Int.dvd_zero _)
      have := abs_pos n0
      have e : b.natAbs = n.natAbs * w.natAbs := by rw [eb, Int.natAbs_mul]
      have : w.natAbs ≤ n.natAbs * w.natAbs := Nat.le_mul_of_pos_left _ this
      omega
    · exact nb (by rw [eb]; exact Int.dvd_trans z (Int.dvd_mul_left _ _))
  by_cases n0 : n = 0
  · subst n0
    rw [Int.zero_mul, Int.add_zero] at et
    have e : t.natAbs = m.natAbs * r.natAbs := by rw [et, Int.natAbs_mul]
    have := Nat.le_mul_of_pos_left r.natAbs (abs_pos m0)
    omega
  have hm := abs_pos m0
  have hn := abs_pos n0
  -- the numbers without their signs
  generalize eM : (m.natAbs : Int) = M at *
  generalize eN : (n.natAbs : Int) = N at *
  have M1 : 1 ≤ M := by omega
  have N1 : 1 ≤ N := by omega
  by_cases same : (0 < m ∧ 0 < n) ∨ (m < 0 ∧ n < 0)
  · -- t is greater than the size
    have Mr : r ≤ M * r := by
      have := Int.mul_le_mul_of_nonneg_right M1 (show 0 ≤ r by omega)
      rwa [Int.one_mul] at this
    have Nv : 0 ≤ N * v := Int.mul_nonneg (by omega) v0
    rcases same with ⟨a, c⟩ | ⟨a, c⟩
    · have e1 : m = M := by omega
      have e2 : n = N := by omega
      rw [e1, e2] at et
      omega
    · have e1 : m = -M := by omega
      have e2 : n = -N := by omega
      rw [e1, e2, Int.neg_mul, Int.neg_mul] at et
      omega
  · -- b is the sum of both
    have sgn : (0 < m ∧ n < 0) ∨ (m < 0 ∧ 0 < n) := by omega
    obtain ⟨σ, hs⟩ : ∃ σ : Int, (s.natAbs : Int) = σ := ⟨_, rfl⟩
    obtain ⟨ω, hw⟩ : ∃ ω : Int, (w.natAbs : Int) = ω := ⟨_, rfl⟩
    have σ0 : 0 ≤ σ := by omega
    have ω0 : 0 ≤ ω := by omega
    -- signs of s and w
    have sw : (0 ≤ s ∧ w ≤ 0) ∨ (s ≤ 0 ∧ 0 ≤ w) := by
      have q := P.sw
      rcases Int.lt_trichotomy s 0 with a | a | a
      · rcases Int.lt_or_le w 0 with c | c
        · have := Int.mul_pos (show 0 < -s by omega) (show 0 < -w by omega)
          rw [Int.neg_mul_neg] at this
          omega
        · exact .inr ⟨by omega, c⟩
      · rcases Int.le_total w 0 with c | c
        · exact .inl ⟨by omega, c⟩
        · exact .inr ⟨by omega, c⟩
      · rcases Int.lt_or_le 0 w with c | c
        · have := Int.mul_pos a c
          omega
        · exact .inl ⟨by omega, c⟩
    have hB : (b.natAbs : Int) = M * σ + N * ω := by
      have p1 : 0 ≤ M * σ := Int.mul_nonneg (by omega) σ0
      have p2 : 0 ≤ N * ω := Int.mul_nonneg (by omega) ω0
      rcases sgn with ⟨a, c⟩ | ⟨a, c⟩ <;> rcases sw with ⟨x, y⟩ | ⟨x, y⟩
      · have e1 : m = M := by omega
        have e2 : n = -N := by omega
        have e3 : s = σ := by omega
        have e4 : w = -ω := by omega
        rw [e1, e2, e3, e4, Int.neg_mul_neg] at eb
        omega
      · have e1 : m = M := by omega
        have e2 : n = -N := by omega
        have e3 : s = -σ := by omega
        have e4 : w = ω := by omega
        rw [e1, e2, e3, e4, Int.mul_neg, Int.neg_mul] at eb
        omega
      · have e1 : m = -M := by omega
        have e2 : n = N := by omega
        have e3 : s = σ := by omega
        have e4 : w = -ω := by omega
        rw [e1, e2, e3, e4, Int.mul_neg, Int.neg_mul] at eb
        omega
      · have e1 : m = -M := by omega
        have e2 : n = N := by omega
        have e3 : s = -σ := by omega
        have e4 : w = ω := by omega
        rw [e1, e2, e3, e4, Int.neg_mul_neg] at eb
        omega
    have hT : (t.natAbs : Int) = M * r - N * v ∨ (t.natAbs : Int) = N * v - M * r := by
      rcases sgn with ⟨a, c⟩ | ⟨a, c⟩
      · have e1 : m = M := by omega
        have e2 : n = -N := by omega
        rw [e1, e2, Int.neg_mul] at et
        omega
      · have e1 : m = -M := by omega
        have e2 : n = N := by omega
        rw [e1, e2, Int.neg_mul] at et
        omega
    have hD : r * ω + v * σ = W := by
      have p1 : 0 ≤ r * ω := Int.mul_nonneg (by omega) ω0
      have p2 : 0 ≤ v * σ := Int.mul_nonneg v0 σ0
      have d := P.det
      rcases sw with ⟨x, y⟩ | ⟨x, y⟩
      · have e3 : s = σ := by omega
        have e4 : w = -ω := by omega
        rw [e3, e4, Int.mul_neg] at d
        omega
      · have e3 : s = -σ := by omega
        have e4 : w = ω := by omega
        rw [e3, e4, Int.mul_neg] at d
        omega
    have Nω : ω ≤ N * ω := by
      have := Int.mul_le_mul_of_nonneg_right N1 ω0
      rwa [Int.one_mul] at this
    have Mσ : σ ≤ M * σ := by
      have := Int.mul_le_mul_of_nonneg_right M1 σ0
      rwa [Int.one_mul] at this
    have Mσ0 : 0 ≤ M * σ := Int.mul_nonneg (by omega) σ0
    have ωS : ω ≤ S := by omega
    -- t without its sign, times ω, is more than the size, twice
    have Mr : r * ω ≤ M * r * ω := by
      have := Int.mul_le_mul_of_nonneg_right M1 (Int.mul_nonneg (show 0 ≤ r by omega) ω0)
      rw [Int.one_mul, ← Int.mul_assoc] at this
      exact this
    have vB : v * (M * σ + N * ω) ≤ S * S := by
      refine Int.mul_le_mul v1 (by omega) (by omega) (by omega)
    have vσ : v * σ ≤ v * (M * σ) := Int.mul_le_mul_of_nonneg_left Mσ v0
    have key : S * S < (M * r - N * v) * ω := by
      have e : (M * r - N * v) * ω = M * r * ω - v * (N * ω) := by grind
      have e' : v * (M * σ + N * ω) = v * (M * σ) + v * (N * ω) := Int.mul_add ..
      rw [e]
      omega
    have tω : (M * r - N * v) * ω ≤ S * S := by
      rcases hT with z | z
      · rw [z] at ht
        rcases Int.lt_or_le (M * r - N * v) 0 with g | g
        · have := Int.mul_nonneg (show 0 ≤ -(M * r - N * v) by omega) ω0
          rw [Int.neg_mul] at this
          omega
        · exact Int.mul_le_mul ht ωS ω0 (by omega)
      · have := Int.mul_nonneg (show 0 ≤ -(M * r - N * v) by omega) ω0
        rw [Int.neg_mul] at this
        omega
    omega
/-! ### the rows of Euclid's way -/
structure Rows (W u S r s v w : Int) : Prop where
  dr : W ∣ r - u * s
  dv : W ∣ v - u * w
  det : r * w - v * s = W ∨ r * w - v * s = -W
  sw : s * w ≤ 0
  big : S < r
  v0 : 0 ≤ v
  lt : v < r
theorem Rows.start {W u S : Int} (hS : S < W) (u0 : 0 ≤ u) (u1 : u < W) : Rows W u S W 0 u 1 :=
  ⟨⟨1, by omega⟩, ⟨0, by omega⟩, .inl (by omega), by omega, hS, u0, u1⟩
theorem Rows.step {W u S r s v w : Int} (R : Rows W u S r s v w) (hS : 0 < S) (h : S < v) : Rows W u S v w (r - r / v * v) (s - r / v * w) := by
  have v0 : 0 < v := by omega
  have em := Int.mul_ediv_add_emod r v
  have m0 := Int.emod_nonneg r (show v ≠ 0 by omega)
  have m1 := Int.emod_lt_of_pos r v0
  have q0 : 0 ≤ r / v := Int.ediv_nonneg (by have := R.lt; omega) (by omega)
  have e : r - r / v * v = r % v := by rw [Int.mul_comm]; omega
  refine ⟨R.dv, ?_, ?_, ?_, h, by omega, by omega⟩
  · obtain ⟨x, hx⟩ := R.dr
    obtain ⟨y, hy⟩ := R.dv
    exact ⟨x - r / v * y, by grind⟩
  · have : v * (s - r / v * w) - (r - r / v * v) * w = -(r * w - v * s) := by grind
    rw [this]
    rcases R.det with d | d
    · exact .inr (by rw [d])
    · exact .inl (by rw [d]; omega)
  · have a : 0 ≤ r / v * (w * w) := Int.mul_nonneg q0 (by
      rcases Int.le_total 0 w with z | z
      · exact Int.mul_nonneg z z
      · have := Int.mul_nonneg (show 0 ≤ -w by omega) (show 0 ≤ -w by omega)
        rwa [Int.neg_mul_neg] at this)
    have b := R.sw
    have : w * (s - r / v * w) = s * w - r / v * (w * w) := by grind
    omega
theorem Rows.paper {p W u S r s v w : Int} (R : Rows W u S r s v w) (h : v ≤ S) (bad : S < (w.natAbs : Int) ∨ p ∣ w) : Paper p W u S r s v w :=
  ⟨R.dr, R.dv, R.det, R.sw, R.big, R.v0, h, bad⟩
theorem Rows.low {p u S r s v w : Int} {k : Nat} (hp : Pr p) (R : Rows (p ^ k) u S r s v w) (nw : ¬ p ∣ w) : Nat.gcd v.natAbs w.natAbs = 1 := by
  have d1 := Nat.gcd_dvd_left v.natAbs w.natAbs
  have d2 := Nat.gcd_dvd_right v.natAbs w.natAbs
  generalize Nat.gcd v.natAbs w.natAbs = g at *
  have a : (g : Int) ∣ v := Int.ofNat_dvd_left.mpr d1
  have b : (g : Int) ∣ w := Int.ofNat_dvd_left.mpr d2
  have c : (g : Int) ∣ p ^ k := by
    have z : (g : Int) ∣ r * w - v * s := Int.dvd_sub (Int.dvd_trans b (Int.dvd_mul_left _ _)) (Int.dvd_trans a (Int.dvd_mul_right _ _))
    rcases R.det with d | d
    · rwa [d] at z
    · rw [d] at z
      exact Int.dvd_neg.mp z
  have cp := cop_pow hp nw k
  have e := Nat.dvd_gcd d2 (Int.natAbs_dvd_natAbs.mpr c)
  rw [show Nat.gcd w.natAbs (p ^ k).natAbs = 1 from cp] at e
  exact Nat.dvd_one.mp e
theorem Rows.free {p u S r s v w : Int} {k : Nat} (hp : Pr p) (hk : 1 ≤ k) (R : Rows (p ^ k) u S r s v w) (nu : ¬ p ∣ u) (nw : ¬ p ∣ w) : ¬ p ∣ v := fun z => by
  have d : p ∣ p ^ k := by
    have := pow_split (p := p) hk
    rwa [Int.pow_one] at this
  have e := Int.dvd_sub z (Int.dvd_trans d R.dv)
  rw [show v - (v - u * w) = u * w by omega] at e
  exact hp.free nu nw e
end L2
set_option Elab.async false
set_option linter.all false
set_option maxRecDepth 100000
namespace L2
open PySem PySem.Spec PyProof.Rows
/-! ### == of things that are alike all the way down: tuples in tuples, numbers, texts -/
inductive Like (H : Hp) : Nat → V → V → Prop where
  | flat {k : Nat} {x y : V} (fx : flatV x = true) (fy : flatV y = true) (e : eqV x y = true) : Like H k x y
  | tup {k : Nat} {a b : Addr} {xs ys : List V} (ha : H a = some (.tup xs)) (hb : H b = some (.tup ys)) (n : xs.length = ys.length) (h : ∀ j (h1 : j < xs.length) (h2 : j < ys.length), Like H k xs[j] ys[j]) : Like H (k + 1) (.ref a) (.ref b)
theorem same_true {xs ys : List V} (n : xs.length = ys.length) : sameE (fun _ => true) xs ys = true := by
  unfold sameE
  rw [show (xs.length == ys.length) = true from beq_iff_eq.mpr n, Bool.and_true, List.all_eq_true]
  exact fun _ _ => rfl
section
variable {X : Cx}
theorem Like.eqs {H : Hp} {k : Nat} {x y : V} (h : Like H k x y) : Eqs X k H x y true := by
  induction h with
  | @flat k x y fx fy e =>
    have := Eqs.flat (X := X) (H := H) (k := k) fx fy
    rw [e] at this
    exact this
  | tup ha hb n h ih =>
    have := Eqs.tup (X := X) (e := fun _ => true) (SqT.of ha) (SqT.of hb) (fun j h1 h2 => ih j h1 h2) (fun _ => same_true n)
    rw [same_true n] at this
    exact this
def rEqS (K : PySem.W.Frag) (neg : Bool) : R2 := fun x y H Q => ∃ (a b : Addr) (xs ys : List V), x = .ref a ∧ y = .ref b ∧ ((SqT K H a xs ∧ SqT K H b ys) ∨ (SqL K H a xs ∧ SqL K H b ys)) ∧ xs.length = ys.length ∧ (∀ j (h1 : j < xs.length) (h2 : j < ys.length), Like H 32 xs[j] ys[j]) ∧ Q (.bl (!neg)) H
theorem rEqS.d {neg : Bool} {x y : V} {H : Hp} {Q : VK} (h : rEqS X.K neg x y H Q) : rEqD X neg x y H Q := by
  obtain ⟨a, b, xs, ys, rfl, rfl, hab, n, l, q⟩ := h
  refine ⟨a, b, xs, ys, fun _ => true, rfl, rfl, hab, fun j h1 h2 => (l j h1 h2).eqs, ?_⟩
  rw [same_true n]
  cases neg with
  | false => exact q
  | true => exact q
theorem op_neS (hu : X.A.units + 40 < cLine) : OpR X (compareOp .NotEq) (rEqS X.K true) := (op_neD hu).of fun _ _ _ _ h => h.d
end
/-! ### what is told of a fraction sought -/
/-- ("fraction", (x, y)) or ("none", ((r, s), (v, w))) -/
inductive Fnd where
  | frac (x y : Int) : Fnd
  | none (r s v w : Int) : Fnd
def sFrac : Str := Str.ofString "fraction"
def sNone : Str := Str.ofString "none"
def FndAt (H : Hp) (t : Addr) : Fnd → Prop
  | .frac x y => ∃ c, H t = some (.tup [.str sFrac, .ref c]) ∧ H c = some (.tup [.int x, .int y])
  | .none r s v w => ∃ c a b, H t = some (.tup [.str sNone, .ref c]) ∧ H c = some (.tup [.ref a, .ref b]) ∧ H a = some (.tup [.int r, .int s]) ∧ H b = some (.tup [.int v, .int w])
theorem FndAt.same {H H' : Hp} {t : Addr} {f : Fnd} (h : FndAt H t f) (g : Same H H') : FndAt H' t f := by
  cases f with
  | frac x y => exact ⟨h.choose, g _ _ h.choose_spec.1, g _ _ h.choose_spec.2⟩
  | none r s v w =>
    obtain ⟨c, a, b, h1, h2, h3, h4⟩ := h
    exact ⟨c, a, b, g _ _ h1, g _ _ h2, g _ _ h3, g _ _ h4⟩
theorem like_int {H : Hp} {k : Nat} {i : Int} : Like H k (.int i) (.int i) := .flat rfl rfl (beq_self_eq_true i)
theorem like_two {H : Hp} {k : Nat} {a b : Addr} {x y : Int} (h : H a = some (.tup [.int x, .int y])) (h' : H b = some (.tup [.int x, .int y])) : Like H (k + 1) (.ref a) (.ref b) :=
  .tup h h' rfl fun j h1 _ => match j, h1 with
    | 0, _ => like_int
    | 1, _ => like_int
    | j + 2, h1 => absurd h1 (by simp)
/-- found_again(one, size): D is what is told, of a size that the figures let -/
def isSize (v : V) : Prop := ∃ S : Int, v = .int S ∧ 1 ≤ S
def spFound (K : PySem.W.Frag) (N F : Addr) (D : Int → Int → List Int → Int → Fnd) : Sp := fun vs H Q E => ∃ (a : Addr) (p l : Int) (fs : List Int) (v : V), vs = [.ref a, v] ∧ Lf K H a p l fs ∧ fs.length ≤ 300 ∧ -450 ≤ l ∧ l ≤ 450 ∧ Thing K H v ∧ (∀ i : Int, v = .int i → LN.Bd 700 i) ∧
  (¬ isSize v → ∀ H', Same H H' → E (.ref N) none H') ∧
  (∀ S : Int, v = .int S → 1 ≤ S → p ^ fs.length ≤ 2 * (S * S) → ∀ H', Same H H' → E (.ref F) none H') ∧
  (∀ S : Int, v = .int S → 1 ≤ S → 2 * (S * S) < p ^ fs.length → ∀ (t : Addr) (H' : Hp), Same H H' → FndAt H' t (D p l fs S) → Q (.ref t) H')
end L2
set_option Elab.async false
set_option linter.all false
set_option maxRecDepth 100000
namespace L2
open PySem
/-! ### found_again as this program does it: the rows of Euclid's way down to the size -/
def eucl (S : Int) : Nat → Int → Int → Int → Int → Int × Int × Int × Int
  | 0, r, s, v, w => (r, s, v, w)
  | n + 1, r, s, v, w => if S < v then eucl S n v w (r - r / v * v) (s - r / v * w) else (r, s, v, w)
theorem eucl_stop {S r s v w : Int} (h : ¬ S < v) (n : Nat) : eucl S n r s v w = (r, s, v, w) := by
  cases n with
  | zero => rfl
  | succ n => exact if_neg h
theorem eucl_step {S r s v w : Int} (h : S < v) (n : Nat) : eucl S (n + 1) r s v w = eucl S n v w (r - r / v * v) (s - r / v * w) := if_pos h
theorem eucl_rows {W u S : Int} (hS : 0 < S) : ∀ (n : Nat) {r s v w : Int}, Rows W u S r s v w → v.toNat ≤ n → Rows W u S (eucl S n r s v w).1 (eucl S n r s v w).2.1 (eucl S n r s v w).2.2.1 (eucl S n r s v w).2.2.2 ∧ (eucl S n r s v w).2.2.1 ≤ S
  | 0, r, s, v, w, R, h => ⟨R, by show v ≤ S; omega⟩
  | n + 1, r, s, v, w, R, h => by
    by_cases c : S < v
    · rw [eucl_step c]
      have R' := R.step hS c
      exact eucl_rows hS n R' (by have := R'.lt; have := R'.v0; omega)
    · rw [eucl_stop c]
      exact ⟨R, by show v ≤ S; omega⟩
def euclOf (p : Int) (fs : List Int) (S : Int) : Int × Int × Int × Int := eucl S (un p fs).toNat (p ^ fs.length) 0 (un p fs) 1
def dFound (p l : Int) (fs : List Int) (S : Int) : Fnd :=
  if S < ((euclOf p fs S).2.2.2.natAbs : Int) ∨ p ∣ (euclOf p fs S).2.2.2 then .none (euclOf p fs S).1 (euclOf p fs S).2.1 (euclOf p fs S).2.2.1 (euclOf p fs S).2.2.2
  else .frac ((euclOf p fs S).2.2.1 * (euclOf p fs S).2.2.2.sign * p ^ l.toNat) ((euclOf p fs S).2.2.2.natAbs * p ^ (-l).toNat)
theorem sq_lt {S W : Int} (hS : 1 ≤ S) (h : 2 * (S * S) < W) : S < W := by
  have := Int.mul_le_mul_of_nonneg_left hS (show 0 ≤ S by omega)
  omega
theorem euclOf_rows {p S : Int} {fs : List Int} (hp : Pr p) (ff : Figs p fs) (hS : 1 ≤ S) (h : 2 * (S * S) < p ^ fs.length) :
    Rows (p ^ fs.length) (un p fs) S (euclOf p fs S).1 (euclOf p fs S).2.1 (euclOf p fs S).2.2.1 (euclOf p fs S).2.2.2 ∧ (euclOf p fs S).2.2.1 ≤ S := by
  have p2 := hp.two
  exact eucl_rows (by omega) _ (Rows.start (sq_lt hS h) (un_nn (by omega) ff) (un_lt (by omega) ff)) (Nat.le_refl _)
theorem sign_cases {w : Int} (h : w ≠ 0) : (w.sign = 1 ∧ (w.natAbs : Int) = w) ∨ (w.sign = -1 ∧ (w.natAbs : Int) = -w) := by
  rcases Int.lt_or_lt_of_ne h with z | z
  · exact .inr ⟨Int.sign_eq_neg_one_of_neg z, by omega⟩
  · exact .inl ⟨Int.sign_eq_one_of_pos z, by omega⟩
theorem pow_small {p n : Int} {k N : Nat} (hp : 2 ≤ p) (h : p ^ k ≤ n) (b : LN.Bd N n) : k < N := by
  have h2 := two_pow hp k
  unfold LN.Bd at b
  have h3 : (2 ^ k : Nat) ≤ n.natAbs := by
    have e : ((2 ^ k : Nat) : Int) = (2 : Int) ^ k := by push_cast; rfl
    have := Int.pow_pos (n := p) (m := k) (show 0 < p by omega)
    omega
  exact (Nat.pow_lt_pow_iff_right (by decide)).mp (Nat.lt_of_le_of_lt h3 b)
theorem low_found {p l v w x y : Int} (hp : Pr p) (w0 : w ≠ 0) (nv : l < 0 → ¬ p ∣ v) (nw : ¬ p ∣ w) (g : Nat.gcd v.natAbs w.natAbs = 1) (low : LN.Low (v * p ^ l.toNat) (w * p ^ (-l).toNat) x y) : x = v * w.sign * p ^ l.toNat ∧ y = w.natAbs * p ^ (-l).toNat := by
  have p2 := hp.two
  have pw : ∀ n : Nat, 0 < p ^ n := fun n => Int.pow_pos (by omega)
  have wa : 0 < (w.natAbs : Int) := by omega
  have sg : w.sign.natAbs = 1 := by rcases sign_cases w0 with z | z <;> rw [z.1] <;> rfl
  refine low.one (Int.mul_ne_zero w0 (by have := pw (-l).toNat; omega)) ⟨Int.mul_pos wa (pw _), ?_, ?_, ?_, ?_⟩
  · have c1 : Nat.Coprime v.natAbs w.natAbs := g
    have c2 : Nat.Coprime w.natAbs (p ^ l.toNat).natAbs := cop_pow hp nw _
    have ax : (v * w.sign * p ^ l.toNat).natAbs = v.natAbs * (p ^ l.toNat).natAbs := by rw [Int.natAbs_mul, Int.natAbs_mul, sg, Nat.mul_one]
    have ay : ((w.natAbs : Int) * p ^ (-l).toNat).natAbs = w.natAbs * (p ^ (-l).toNat).natAbs := by rw [Int.natAbs_mul, Int.natAbs_natCast]
    rw [ax, ay]
    rcases Int.lt_or_le l 0 with z | z
    · rw [show l.toNat = 0 by omega, Int.pow_zero]
      show Nat.Coprime (v.natAbs * 1) _
      rw [Nat.mul_one]
      exact Nat.Coprime.mul_right c1 (cop_pow hp (nv z) _)
    · rw [show (-l).toNat = 0 by omega, Int.pow_zero]
      show Nat.Coprime _ (w.natAbs * 1)
      rw [Nat.mul_one]
      exact Nat.Coprime.mul_left c1 c2.symm
  · rcases sign_cases w0 with z | z <;> rw [z.1, z.2] <;> grind
  · exact ⟨w.sign, by rcases sign_cases w0 with z | z <;> rw [z.1] <;> grind⟩
  · exact ⟨w.sign, by rcases sign_cases w0 with z | z <;> rw [z.1, z.2] <;> grind⟩
theorem rows_le {W u S r s v w : Int} (R : Rows W u S r s v w) (W0 : 0 < W) (r0 : 0 < r) (v0 : 0 < v) : (w.natAbs : Int) ≤ W := by
  obtain ⟨σ, hs⟩ : ∃ σ : Int, (s.natAbs : Int) = σ := ⟨_, rfl⟩
  obtain ⟨ω, hw⟩ : ∃ ω : Int, (w.natAbs : Int) = ω := ⟨_, rfl⟩
  have p1 : 0 ≤ r * ω := Int.mul_nonneg (by omega) (by omega)
  have p2 : 0 ≤ v * σ := Int.mul_nonneg (by omega) (by omega)
  have p3 : ω ≤ r * ω := by
    have := Int.mul_le_mul_of_nonneg_right (show 1 ≤ r by omega) (show 0 ≤ ω by omega)
    rwa [Int.one_mul] at this
  have sw : (0 ≤ s ∧ w ≤ 0) ∨ (s ≤ 0 ∧ 0 ≤ w) := by
    have q := R.sw
    rcases Int.lt_trichotomy s 0 with a | a | a
    · rcases Int.lt_or_le w 0 with c | c
      · have := Int.mul_pos (show 0 < -s by omega) (show 0 < -w by omega)
        rw [Int.neg_mul_neg] at this
        omega
      · exact .inr ⟨by omega, c⟩
    · rcases Int.le_total w 0 with c | c
      · exact .inl ⟨by omega, c⟩
      · exact .inr ⟨by omega, c⟩
    · rcases Int.lt_or_le 0 w with c | c
      · have := Int.mul_pos a c
        omega
      · exact .inl ⟨by omega, c⟩
  rw [hw]
  have d := R.det
  rcases sw with ⟨x, y⟩ | ⟨x, y⟩
  · have e3 : s = σ := by omega
    have e4 : w = -ω := by omega
    rw [e3, e4, Int.mul_neg] at d
    omega
  · have e3 : s = -σ := by omega
    have e4 : w = ω := by omega
    rw [e3, e4, Int.mul_neg] at d
    omega
theorem abs_nat (w : Int) : (if w < 0 then -w else w) = (w.natAbs : Int) := by split <;> omega
def spPaper : Sp := fun vs H Q _ => ∃ W u S : Int, vs = [.int W, .int u, .int S] ∧ LN.Bd 3000 W ∧ 0 ≤ u ∧ u < W ∧ 1 ≤ S ∧ S < W ∧ ∀ (c a b : Addr) (r s v w : Int) (H' : Hp), Same H H' → H' c = some (.tup [.ref a, .ref b]) → H' a = some (.tup [.int r, .int s]) → H' b = some (.tup [.int v, .int w]) → eucl S u.toNat W 0 u 1 = (r, s, v, w) → Q (.ref c) H'
def spTimesP : Sp := fun vs H Q _ => ∃ p v w l : Int, vs = [.int p, .int v, .int w, .int l] ∧ Pr p ∧ LN.Bd 800 v ∧ LN.Bd 800 w ∧ w ≠ 0 ∧ -450 ≤ l ∧ l ≤ 450 ∧ ∀ (a : Addr) (x y : Int) (H' : Hp), Same H H' → FrAt H' a x y → LN.Low (v * p ^ l.toNat) (w * p ^ (-l).toNat) x y → Q (.ref a) H'
/-- both within a size, of one row of figures, in lowest terms: the same -/
theorem same_low {W u t b v w S : Int} (h : W ∣ t - u * b) (h' : W ∣ v - u * w) (ht : (t.natAbs : Int) ≤ S) (hb : (b.natAbs : Int) ≤ S) (hv : (v.natAbs : Int) ≤ S) (hw : (w.natAbs : Int) ≤ S) (hS : 2 * (S * S) < W) (b0 : 0 < b) (w0 : w ≠ 0) (g : Nat.gcd t.natAbs b.natAbs = 1) (g' : Nat.gcd v.natAbs w.natAbs = 1) : v * w.sign = t ∧ (w.natAbs : Int) = b := by
  have e : t * w = v * b := fnd_uniq (S := S) h h' (by omega) (by omega) (by omega) (by omega) (by
    rw [← Int.natAbs_mul]
    have : 0 ≤ S * S := Int.mul_nonneg (by omega) (by omega)
    omega)
  have sg : w.sign.natAbs = 1 := by rcases sign_cases w0 with z | z <;> rw [z.1] <;> rfl
  have := LN.cross_one (x := v * w.sign) (y := (w.natAbs : Int)) (x' := t) (y' := b) (by omega) b0 (by rw [Int.natAbs_mul, sg, Nat.mul_one, Int.natAbs_natCast]; exact g') g (by
    rcases sign_cases w0 with z | z <;> rw [z.1, z.2] <;> grind)
  exact this
theorem dfound_due {p l S t b : Int} {fs : List Int} (hp : Pr p) (ff : Figs p fs) (hS : 1 ≤ S) (h2 : 2 * (S * S) < p ^ fs.length) (h : p ^ fs.length ∣ t - un p fs * b) (ht : (t.natAbs : Int) ≤ S) (b0 : 0 < b) (hb : b ≤ S) (nb : ¬ p ∣ b) (g : Nat.gcd t.natAbs b.natAbs = 1) :
    dFound p l fs S = .frac (t * p ^ l.toNat) (b * p ^ (-l).toNat) := by
  obtain ⟨R, vS⟩ := euclOf_rows hp ff hS h2
  unfold dFound
  obtain ⟨⟨r, s, v, w⟩, eu⟩ : ∃ x, euclOf p fs S = x := ⟨_, rfl⟩
  rw [eu] at R vS ⊢
  dsimp only at R vS ⊢
  by_cases bad : S < (w.natAbs : Int) ∨ p ∣ w
  · exact absurd (Paper.none (R.paper vS bad) (by omega) h2 h nb ht (by omega)) id
  · rw [if_neg bad]
    have nw : ¬ p ∣ w := fun z => bad (.inr z)
    have w0 : w ≠ 0 := fun z => nw (by rw [z]; exact Int.dvd_zero _)
    have v0 := R.v0
    obtain ⟨e1, e2⟩ := same_low h R.dv ht (by omega) (by omega) (by omega) h2 b0 w0 g (R.low hp nw)
    rw [e1, e2]
end L2
set_option Elab.async false
set_option linter.all false
set_option maxRecDepth 100000
namespace L2
open PySem
/-! ### what found_again's answers are worth, for the laws that look at them -/
end L2
set_option Elab.async false
set_option linter.all false
set_option maxRecDepth 100000
namespace L2
open PySem
/-- the list of what comes, where an item may make new things; what is known of each -/
theorem comp_rel {J : It} {xs : List V} {Hs : Hp → Prop} {p : St} {te : TE} {Q : V → Hp → Prop} {H1 : Hp} {D : Addr} (R0 : V → V → Hp → Prop) (st : ∀ x v ys H H', H D = some (.lst ys) → (∀ b o, b ≠ D → H b = some o → H' b = some o) → R0 x v H → R0 x v H') (P : Plain J xs Hs) (hz : xs.length < sizeLine) (hD : H1 D = none) (hs : ∀ H, Same H1 H → Hs H)
    (he : ∀ x ∈ xs, ∀ (H : Hp) (R : V → Hp → Prop), Same H1 H → (∀ v H', Same H H' → R0 x v H' → R v H') → te (some x :: p) H R)
    (q : ∀ ys H', Same H1 H' → H' D = some (.lst ys) → ys.length = xs.length → (∀ (i : Nat) (x v : V), xs[i]? = some x → ys[i]? = some v → R0 x v H') → Q (.ref D) H') : CompW J D p tAlways te Q H1 := by
  refine ⟨fun i m ys H => m = xs.length - i ∧ i ≤ xs.length ∧ Same H1 H ∧ H D = some (.lst ys) ∧ ys.length = i ∧ ∀ (j : Nat) (x v : V), xs[j]? = some x → ys[j]? = some v → R0 x v H, ⟨xs.length, by simp, Nat.zero_le _, same_new hD _, upd_same, rfl, fun j x v _ h => by simp at h⟩, ?_⟩
  rintro i m ys H ⟨rfl, hi, g, hy, ly, hR⟩
  refine ⟨hy, ?_⟩
  by_cases hlt : i < xs.length
  · refine .inr ⟨P.go i _ hlt (hs H g), fun x H' y => ?_⟩
    obtain ⟨rfl, hx⟩ := P.yld i _ x H' hlt (hs H g) y
    have hm : x ∈ xs := List.mem_of_getElem? hx
    dsimp only [tAlways]
    first | rw [if_pos rfl] | skip
    refine he x hm _ _ g fun v H5 g5 rv => ?_
    refine ⟨g5 _ _ hy, by omega, xs.length - (i + 1), by omega, rfl, hlt, same_upd hD (g.trans g5), upd_same, by rw [List.length_append, ly]; rfl, ?_⟩
    have up : ∀ {x' v'}, R0 x' v' H5 → R0 x' v' (upd H5 D (.lst (ys ++ [v]))) := fun {x' v'} r => st x' v' ys H5 _ (g5 _ _ hy) (fun b o nb h => by rw [upd_ne nb]; exact h) r
    intro j x' v' hx' hv'
    by_cases jl : j < ys.length
    · rw [List.getElem?_append_left jl] at hv'
      exact up (st x' v' ys _ H5 hy (fun b o _ h => g5 b o h) (hR j x' v' hx' hv'))
    · rw [List.getElem?_append_right (by omega)] at hv'
      have j0 : j = i := by
        have := (List.getElem?_eq_some_iff.mp hv').1
        simp at this
        omega
      subst j0
      rw [ly, Nat.sub_self] at hv'
      rw [hx] at hx'
      cases hx'
      cases hv'
      exact up rv
  · have e : i = xs.length := by omega
    refine .inl ⟨?_, q ys H g hy (by omega) hR⟩
    rw [e]
    exact P.stop _ (hs H g)
/-! ### a fraction, by its numbers without the prime -/
structure Fr5 (p x y t b l : Int) : Prop where
  ex : x = t * p ^ l.toNat
  ey : y = b * p ^ (-l).toNat
  b0 : 0 < b
  nt : ¬ p ∣ t
  nb : ¬ p ∣ b
  cop : Nat.gcd t.natAbs b.natAbs = 1
theorem Fr5.t0 {p x y t b l : Int} (h : Fr5 p x y t b l) : t ≠ 0 := fun z => h.nt (by rw [z]; exact Int.dvd_zero _)
theorem Fr5.y0 {p x y t b l : Int} (hp : Pr p) (h : Fr5 p x y t b l) : 0 < y := by
  rw [h.ey]
  exact Int.mul_pos h.b0 (Int.pow_pos (by have := hp.two; omega))
theorem Fr5.x0 {p x y t b l : Int} (hp : Pr p) (h : Fr5 p x y t b l) : x ≠ 0 := by
  rw [h.ex]
  exact Int.mul_ne_zero h.t0 (Int.ne_of_gt (Int.pow_pos (by have := hp.two; omega)))
theorem Fr5.low {p x y t b l : Int} (hp : Pr p) (h : Fr5 p x y t b l) : Nat.gcd x.natAbs y.natAbs = 1 := by
  rw [h.ex, h.ey]
  exact seen_cop hp h.nt h.nb h.cop (by omega)
theorem Fr5.ux {p x y t b l m : Int} {k : Nat} (hp : Pr p) (h : Fr5 p x y t b l) (e : x = m * p ^ k) (nm : ¬ p ∣ m) : m = t ∧ k = l.toNat := by
  have ij : l.toNat = k := LN.Exq.one (n := x) hp.two ⟨t, h.ex, h.nt⟩ ⟨m, e, nm⟩
  subst ij
  rw [h.ex] at e
  exact ⟨(Int.eq_of_mul_eq_mul_right (Int.ne_of_gt (Int.pow_pos (show 0 < p by have := hp.two; omega))) e).symm, rfl⟩
theorem Fr5.uy {p x y t b l m : Int} {k : Nat} (hp : Pr p) (h : Fr5 p x y t b l) (e : y = m * p ^ k) (nm : ¬ p ∣ m) : m = b ∧ k = (-l).toNat := by
  have ij : (-l).toNat = k := LN.Exq.one (n := y) hp.two ⟨b, h.ey, h.nb⟩ ⟨m, e, nm⟩
  subst ij
  rw [h.ey] at e
  exact ⟨(Int.eq_of_mul_eq_mul_right (Int.ne_of_gt (Int.pow_pos (show 0 < p by have := hp.two; omega))) e).symm, rfl⟩
/-- what is seen of it -/
theorem Fr5.seen {p x y t b l m : Int} {n : Nat} {gs : List Int} (hp : Pr p) (h : Fr5 p x y t b l) (n1 : 1 ≤ n) (s : IsSeen p x y (l + (n : Int)) m gs) : m = l ∧ gs.length = n ∧ p ^ gs.length ∣ un p gs * b - t := by
  obtain ⟨e, _, s⟩ := s
  obtain ⟨i, j, x', y', ex, nx, ey, ny, s⟩ := s (h.x0 hp)
  obtain ⟨rfl, rfl⟩ := h.ux hp ex nx
  obtain ⟨rfl, rfl⟩ := h.uy hp ey ny
  have ll : ((l.toNat : Nat) : Int) - (((-l).toNat : Nat) : Int) = l := by omega
  rw [ll] at s
  rcases s with ⟨z, _⟩ | ⟨_, em, d⟩
  · omega
  · unfold endL at e
    exact ⟨em, by omega, d⟩
/-- without the prime above and below: in lowest terms -/
theorem low_free {p A B : Int} (hp : Pr p) (nA : ¬ p ∣ A) (nB : ¬ p ∣ B) : ∃ t b : Int, 0 < b ∧ ¬ p ∣ t ∧ ¬ p ∣ b ∧ Nat.gcd t.natAbs b.natAbs = 1 ∧ t * B = A * b ∧ t ∣ A ∧ b ∣ B := by
  have B0 : B ≠ 0 := fun z => nB (by rw [z]; exact Int.dvd_zero _)
  have A0 : A ≠ 0 := fun z => nA (by rw [z]; exact Int.dvd_zero _)
  rcases Int.lt_or_lt_of_ne B0 with z | z
  · obtain ⟨t, b, low⟩ := low_ex (t := -A) (b := -B) (by omega)
    have e := low.eq
    exact ⟨t, b, low.pos, fun d => nA (Int.dvd_neg.mp (Int.dvd_trans d low.xd)), fun d => nB (Int.dvd_neg.mp (Int.dvd_trans d low.yd)), low.cop, by grind, Int.dvd_neg.mp low.xd, Int.dvd_neg.mp low.yd⟩
  · obtain ⟨t, b, low⟩ := low_ex (t := A) (b := B) z
    exact ⟨t, b, low.pos, fun d => nA (Int.dvd_trans d low.xd), fun d => nB (Int.dvd_trans d low.yd), low.cop, low.eq, low.xd, low.yd⟩
theorem fr_made {p A B T D x y l : Int} {i j : Nat} (hp : Pr p) (nA : ¬ p ∣ A) (nB : ¬ p ∣ B) (eT : T = A * p ^ i) (eD : D = B * p ^ j) (hl : l = (i : Int) - (j : Int)) (low : LN.Low T D x y) :
    ∃ t b : Int, Fr5 p x y t b l ∧ t * B = A * b ∧ t ∣ A ∧ b ∣ B := by
  have p0 : 0 < p := by have := hp.two; omega
  have pw : ∀ n : Nat, 0 < p ^ n := fun n => Int.pow_pos p0
  obtain ⟨t, b, b0, nt, nb, cop, e, ta, bb⟩ := low_free hp nA nB
  have B0 : B ≠ 0 := fun z => nB (by rw [z]; exact Int.dvd_zero _)
  have D0 : D ≠ 0 := by rw [eD]; exact Int.mul_ne_zero B0 (Int.ne_of_gt (pw j))
  have y0 : 0 < b * p ^ (-l).toNat := Int.mul_pos b0 (pw _)
  have lw := LN.Low.self y0 (seen_cop (s := l.toNat) (r := (-l).toNat) hp nt nb cop (by omega))
  have pe : p ^ i * p ^ (-l).toNat = p ^ l.toNat * p ^ j := by
    rw [← Int.pow_add, ← Int.pow_add]
    congr 1
    omega
  have lw := low_ratio (A := T) (B := D) D0 y0 (by
    rw [eT, eD]
    have : A * p ^ i * (b * p ^ (-l).toNat) = A * b * (p ^ i * p ^ (-l).toNat) := by grind
    rw [this, pe, ← e]
    grind) lw
  obtain ⟨e1, e2⟩ := LN.Low.one D0 low lw
  exact ⟨t, b, ⟨e1, e2, b0, nt, nb, cop⟩, e, ta, bb⟩
theorem pow_free5 {p a : Int} (hp : Pr p) (na : ¬ p ∣ a) : ∀ n : Nat, ¬ p ∣ a ^ n
  | 0 => fun z => by
    rw [Int.pow_zero] at z
    have := Int.le_of_dvd (by decide) z
    have := hp.two
    omega
  | n + 1 => by
    rw [Int.pow_succ]
    exact hp.free (pow_free5 hp na n) na
theorem Fr5.power {p x y t b l : Int} (hp : Pr p) (h : Fr5 p x y t b l) (n : Nat) : Fr5 p (x ^ n) (y ^ n) (t ^ n) (b ^ n) ((n : Int) * l) where
  ex := by
    rw [h.ex, Int.mul_pow, ← Int.pow_mul]
    congr 2
    rcases Int.le_total 0 l with z | z
    · obtain ⟨k, rfl⟩ := Int.eq_ofNat_of_zero_le z
      rw [← Int.natCast_mul, Int.toNat_natCast, Int.toNat_natCast, Nat.mul_comm]
    · have := Int.mul_nonneg (show 0 ≤ (n : Int) by omega) (show 0 ≤ -l by omega)
      rw [Int.mul_neg] at this
      rw [show l.toNat = 0 by omega, Nat.zero_mul]
      omega
  ey := by
    rw [h.ey, Int.mul_pow, ← Int.pow_mul]
    congr 2
    rcases Int.le_total 0 (-l) with z | z
    · obtain ⟨k, hk⟩ := Int.eq_ofNat_of_zero_le z
      rw [← Int.mul_neg, hk, ← Int.natCast_mul, Int.toNat_natCast, Int.toNat_natCast, Nat.mul_comm]
    · have := Int.mul_nonneg (show 0 ≤ (n : Int) by omega) (show 0 ≤ l by omega)
      rw [show (-l).toNat = 0 by omega, Nat.zero_mul]
      omega
  b0 := Int.pow_pos h.b0
  nt := pow_free5 hp h.nt n
  nb := pow_free5 hp h.nb n
  cop := by
    rw [Int.natAbs_pow, Int.natAbs_pow]
    exact Nat.Coprime.pow n n h.cop
/-- the figures of what is seen are just one row -/
theorem seen_one {p t b : Int} {f g : List Int} (hp : Pr p) (nb : ¬ p ∣ b) (ff : Figs p f) (fg : Figs p g) (e : f.length = g.length) (h1 : p ^ f.length ∣ un p f * b - t) (h2 : p ^ g.length ∣ un p g * b - t) : f = g := by
  refine un_near (by have := hp.two; omega) ff fg e (dvd_off hp nb ?_)
  rw [← e] at h2
  have := Int.dvd_sub h1 h2
  rwa [show un p f * b - t - (un p g * b - t) = (un p f - un p g) * b by grind] at this
theorem seen_quot {p t b t1 b1 t2 b2 u1 u2 u : Int} {n : Nat} (hp : Pr p) (nb1 : ¬ p ∣ b1) (nt2 : ¬ p ∣ t2) (h1 : p ^ n ∣ u1 * b1 - t1) (h2 : p ^ n ∣ u2 * b2 - t2) (h : p ^ n ∣ u * u2 - u1) (e : t * (b1 * t2) = t1 * b2 * b) : p ^ n ∣ u * b - t := by
  refine dvd_off hp (hp.free nb1 nt2) ?_
  obtain ⟨x, hx⟩ := h1
  obtain ⟨y, hy⟩ := h2
  obtain ⟨z, hz⟩ := h
  refine ⟨b * (z * b1 * b2 + x * b2 - u * b1 * y), ?_⟩
  have : (u * b - t) * (b1 * t2) = b * (u * b1 * t2 - t1 * b2) := by grind
  rw [this]
  have : t2 = u2 * b2 - p ^ n * y := by omega
  have : t1 = u1 * b1 - p ^ n * x := by omega
  grind
theorem seen_prod {p t b t1 b1 t2 b2 u1 u2 u : Int} {n : Nat} (hp : Pr p) (nb1 : ¬ p ∣ b1) (nb2 : ¬ p ∣ b2) (h1 : p ^ n ∣ u1 * b1 - t1) (h2 : p ^ n ∣ u2 * b2 - t2) (h : p ^ n ∣ u1 * u2 - u) (e : t * (b1 * b2) = t1 * t2 * b) : p ^ n ∣ u * b - t := by
  refine dvd_off hp (hp.free nb1 nb2) ?_
  obtain ⟨x, hx⟩ := h1
  obtain ⟨y, hy⟩ := h2
  obtain ⟨z, hz⟩ := h
  refine ⟨b * (u1 * b1 * y + x * t2 - z * b1 * b2), ?_⟩
  have : (u * b - t) * (b1 * b2) = b * (u * b1 * b2 - t1 * t2) := by grind
  rw [this]
  grind
theorem seen_power {p t1 b1 u1 u : Int} {n N k t : Nat} (hp : Pr p) (n1 : 1 ≤ n) (nt1 : ¬ p ∣ t1) (ex : LN.Exq p (k : Int) t) (h1 : p ^ n ∣ u1 * b1 - t1) (eN : N = knownW p n t) (h : p ^ N ∣ u - u1 ^ k) : p ^ N ∣ u * b1 ^ k - t1 ^ k := by
  have a := pow_known hp.two n1 ex nt1 h1
  rw [← eN, Int.mul_pow] at a
  have c := Int.dvd_add (Int.dvd_trans h (Int.dvd_mul_right _ (b1 ^ k))) a
  rwa [show (u - u1 ^ k) * b1 ^ k + (u1 ^ k * b1 ^ k - t1 ^ k) = u * b1 ^ k - t1 ^ k by grind] at c
end L2
set_option Elab.async false
set_option linter.all false
set_option maxRecDepth 100000
set_option maxHeartbeats 8000000
namespace K55
open PySem L2
def top (i : Nat) : Stmt := PySem.Challenge.pw_leftnumbers_k55_whole_found_behind_deeds.main.body.getD i (.Pass ⟨0, 0, 0, 0⟩)
abbrev s_is_whole : Stmt := top 13
abbrev s_is_prime : Stmt := top 14
abbrev s_exponent : Stmt := top 15
abbrev s_power_of : Stmt := top 16
abbrev s_common_divisor : Stmt := top 18
abbrev s_fraction : Stmt := top 19
abbrev s_is_fraction : Stmt := top 20
abbrev s_exponent_of : Stmt := top 21
abbrev s_without_prime : Stmt := top 22
abbrev s_are_figures : Stmt := top 24
abbrev s_left_number : Stmt := top 25
abbrev s_refuse_unlike : Stmt := top 26
abbrev s_known_of : Stmt := top 27
abbrev s_number_of : Stmt := top 28
abbrev s_unit_of : Stmt := top 29
abbrev s_back_of : Stmt := top 30
abbrev s_first_figures : Stmt := top 31
abbrev s_of_whole : Stmt := top 32
abbrev s_paper_of : Stmt := top 34
abbrev s_times_power : Stmt := top 35
abbrev s_found_again : Stmt := top 36
abbrev s_lengthened : Stmt := top 38
abbrev s_refuse_power : Stmt := top 41
abbrev s_power_rest : Stmt := top 42
abbrev s_with_chosen_sign : Stmt := top 43
abbrev s_raised : Stmt := top 44
abbrev s_multiplied : Stmt := top 46
abbrev s_refuse_divisor : Stmt := top 48
abbrev s_divided : Stmt := top 49
abbrev s_seen_left : Stmt := top 51
abbrev s_size_of : Stmt := top 52
abbrev s_l_cell_at : Stmt := top 54
abbrev s_l_power : Stmt := top 56
abbrev s_l_prime : Stmt := top 57
abbrev s_l_divisor : Stmt := top 58
abbrev s_l_without : Stmt := top 59
abbrev s_l_lowest : Stmt := top 60
abbrev s_l_part : Stmt := top 61
abbrev s_l_exponent : Stmt := top 62
abbrev s_l_enough : Stmt := top 63
abbrev s_l_too_few : Stmt := top 64
abbrev s_l_made : Stmt := top 65
abbrev s_l_told : Stmt := top 66
abbrev s_law : Stmt := top 67
theorem sc_is_whole : FnScope ["thing"] ["thing"] (defScope s_is_whole) := ⟨rfl, rfl, rfl, by decide +kernel, rfl, by decide +kernel, by decide +kernel⟩
theorem sc_is_prime : FnScope ["thing"] ["thing"] (defScope s_is_prime) := ⟨rfl, rfl, rfl, by decide +kernel, rfl, by decide +kernel, by decide +kernel⟩
theorem sc_exponent : FnScope ["p", "number", "powers", "power", "times"] ["p", "number"] (defScope s_exponent) := ⟨rfl, rfl, rfl, by decide +kernel, rfl, by decide +kernel, by decide +kernel⟩
theorem sc_power_of : FnScope ["p", "times", "power", "bit"] ["p", "times"] (defScope s_power_of) := ⟨rfl, rfl, rfl, by decide +kernel, rfl, by decide +kernel, by decide +kernel⟩
theorem sc_common_divisor : FnScope ["one", "other", "rest"] ["one", "other"] (defScope s_common_divisor) := ⟨rfl, rfl, rfl, by decide +kernel, rfl, by decide +kernel, by decide +kernel⟩
theorem sc_fraction : FnScope ["top", "bottom", "common"] ["top", "bottom"] (defScope s_fraction) := ⟨rfl, rfl, rfl, by decide +kernel, rfl, by decide +kernel, by decide +kernel⟩
theorem sc_is_fraction : FnScope ["thing"] ["thing"] (defScope s_is_fraction) := ⟨rfl, rfl, rfl, by decide +kernel, rfl, by decide +kernel, by decide +kernel⟩
theorem sc_exponent_of : FnScope ["p", "one"] ["p", "one"] (defScope s_exponent_of) := ⟨rfl, rfl, rfl, by decide +kernel, rfl, by decide +kernel, by decide +kernel⟩
theorem sc_without_prime : FnScope ["p", "one"] ["p", "one"] (defScope s_without_prime) := ⟨rfl, rfl, rfl, by decide +kernel, rfl, by decide +kernel, by decide +kernel⟩
theorem sc_are_figures : FnScope ["p", "things"] ["p", "things"] (defScope s_are_figures) := ⟨rfl, rfl, rfl, by decide +kernel, rfl, by decide +kernel, by decide +kernel⟩
theorem sc_left_number : FnScope ["p", "least", "figures", "noughts"] ["p", "least", "figures"] (defScope s_left_number) := ⟨rfl, rfl, rfl, by decide +kernel, rfl, by decide +kernel, by decide +kernel⟩
theorem sc_refuse_unlike : FnScope ["one", "other"] ["one", "other"] (defScope s_refuse_unlike) := ⟨rfl, rfl, rfl, by decide +kernel, rfl, by decide +kernel, by decide +kernel⟩
theorem sc_known_of : FnScope ["one"] ["one"] (defScope s_known_of) := ⟨rfl, rfl, rfl, by decide +kernel, rfl, by decide +kernel, by decide +kernel⟩
theorem sc_number_of : FnScope ["p", "figures", "number", "figure"] ["p", "figures"] (defScope s_number_of) := ⟨rfl, rfl, rfl, by decide +kernel, rfl, by decide +kernel, by decide +kernel⟩
theorem sc_unit_of : FnScope ["one"] ["one"] (defScope s_unit_of) := ⟨rfl, rfl, rfl, by decide +kernel, rfl, by decide +kernel, by decide +kernel⟩
theorem sc_back_of : FnScope ["p", "number"] ["p", "number"] (defScope s_back_of) := ⟨rfl, rfl, rfl, by decide +kernel, rfl, by decide +kernel, by decide +kernel⟩
theorem sc_first_figures : FnScope ["p", "top", "bottom", "many", "back", "figures", "figure"] ["p", "top", "bottom", "many"] (defScope s_first_figures) := ⟨rfl, rfl, rfl, by decide +kernel, rfl, by decide +kernel, by decide +kernel⟩
theorem sc_of_whole : FnScope ["p", "least", "number", "many", "noughts", "rest"] ["p", "least", "number", "many"] (defScope s_of_whole) := ⟨rfl, rfl, rfl, by decide +kernel, rfl, by decide +kernel, by decide +kernel⟩
theorem sc_paper_of : FnScope ["power", "unit", "size", "above", "below", "times", "rest"] ["power", "unit", "size"] (defScope s_paper_of) := ⟨rfl, rfl, rfl, by decide +kernel, rfl, by decide +kernel, by decide +kernel⟩
theorem sc_times_power : FnScope ["p", "top", "bottom", "times"] ["p", "top", "bottom", "times"] (defScope s_times_power) := ⟨rfl, rfl, rfl, by decide +kernel, rfl, by decide +kernel, by decide +kernel⟩
theorem sc_found_again : FnScope ["one", "size", "p", "power", "paper", "top", "bottom"] ["one", "size"] (defScope s_found_again) := ⟨rfl, rfl, rfl, by decide +kernel, rfl, by decide +kernel, by decide +kernel⟩
theorem sc_lengthened : FnScope ["one", "figure"] ["one", "figure"] (defScope s_lengthened) := ⟨rfl, rfl, rfl, by decide +kernel, rfl, by decide +kernel, by decide +kernel⟩
theorem sc_refuse_power : FnScope ["n"] ["n"] (defScope s_refuse_power) := ⟨rfl, rfl, rfl, by decide +kernel, rfl, by decide +kernel, by decide +kernel⟩
theorem sc_power_rest : FnScope ["number", "times", "divisor", "rest", "bit"] ["number", "times", "divisor"] (defScope s_power_rest) := ⟨rfl, rfl, rfl, by decide +kernel, rfl, by decide +kernel, by decide +kernel⟩
theorem sc_with_chosen_sign : FnScope ["one", "n"] ["one", "n"] (defScope s_with_chosen_sign) := ⟨rfl, rfl, rfl, by decide +kernel, rfl, by decide +kernel, by decide +kernel⟩
theorem sc_raised : FnScope ["one", "n", "p", "many"] ["one", "n"] (defScope s_raised) := ⟨rfl, rfl, rfl, by decide +kernel, rfl, by decide +kernel, by decide +kernel⟩
theorem sc_multiplied : FnScope ["one", "other", "many"] ["one", "other"] (defScope s_multiplied) := ⟨rfl, rfl, rfl, by decide +kernel, rfl, by decide +kernel, by decide +kernel⟩
theorem sc_refuse_divisor : FnScope ["one", "other"] ["one", "other"] (defScope s_refuse_divisor) := ⟨rfl, rfl, rfl, by decide +kernel, rfl, by decide +kernel, by decide +kernel⟩
theorem sc_divided : FnScope ["one", "other", "many"] ["one", "other"] (defScope s_divided) := ⟨rfl, rfl, rfl, by decide +kernel, rfl, by decide +kernel, by decide +kernel⟩
theorem sc_seen_left : FnScope ["p", "part", "place", "least", "rest"] ["p", "part", "place"] (defScope s_seen_left) := ⟨rfl, rfl, rfl, by decide +kernel, rfl, by decide +kernel, by decide +kernel⟩
theorem sc_size_of : FnScope ["p", "part", "rest"] ["p", "part"] (defScope s_size_of) := ⟨rfl, rfl, rfl, by decide +kernel, rfl, by decide +kernel, by decide +kernel⟩
theorem sc_l_cell_at : FnScope ["_law_script", "_law_k"] ["_law_script", "_law_k"] (defScope s_l_cell_at) := ⟨rfl, rfl, rfl, by decide +kernel, rfl, by decide +kernel, by decide +kernel⟩
theorem sc_l_power : FnScope ["_law_p", "_law_times", "_law_number", "_law_k"] ["_law_p", "_law_times"] (defScope s_l_power) := ⟨rfl, rfl, rfl, by decide +kernel, rfl, by decide +kernel, by decide +kernel⟩
theorem sc_l_prime : FnScope ["_law_cell", "_law_some"] ["_law_cell"] (defScope s_l_prime) := ⟨rfl, rfl, rfl, by decide +kernel, rfl, by decide +kernel, by decide +kernel⟩
theorem sc_l_divisor : FnScope ["_law_one", "_law_other"] ["_law_one", "_law_other"] (defScope s_l_divisor) := ⟨rfl, rfl, rfl, by decide +kernel, rfl, by decide +kernel, by decide +kernel⟩
theorem sc_l_without : FnScope ["_law_p", "_law_number"] ["_law_p", "_law_number"] (defScope s_l_without) := ⟨rfl, rfl, rfl, by decide +kernel, rfl, by decide +kernel, by decide +kernel⟩
theorem sc_l_lowest : FnScope ["_law_top", "_law_bottom", "_law_share"] ["_law_top", "_law_bottom"] (defScope s_l_lowest) := ⟨rfl, rfl, rfl, by decide +kernel, rfl, by decide +kernel, by decide +kernel⟩
theorem sc_l_part : FnScope ["_law_p", "_law_cells", "_law_most", "_law_top", "_law_bottom", "_law_least"] ["_law_p", "_law_cells"] (defScope s_l_part) := ⟨rfl, rfl, rfl, by decide +kernel, rfl, by decide +kernel, by decide +kernel⟩
theorem sc_l_exponent : FnScope ["_law_p", "_law_part_here", "_law_many", "_law_k", "_law_number"] ["_law_p", "_law_part_here"] (defScope s_l_exponent) := ⟨rfl, rfl, rfl, by decide +kernel, rfl, by decide +kernel, by decide +kernel⟩
theorem sc_l_enough : FnScope ["_law_p", "_law_size", "_law_many", "_law_whole_here"] ["_law_p", "_law_size"] (defScope s_l_enough) := ⟨rfl, rfl, rfl, by decide +kernel, rfl, by decide +kernel, by decide +kernel⟩
theorem sc_l_too_few : FnScope ["_law_one", "_law_size", "_law_refused"] ["_law_one", "_law_size"] (defScope s_l_too_few) := ⟨rfl, rfl, rfl, by decide +kernel, rfl, by decide +kernel, by decide +kernel⟩
theorem sc_l_made : FnScope ["_law_way", "_law_one", "_law_other", "_law_times", "_law_part_here", "_law_k"] ["_law_way", "_law_one", "_law_other", "_law_times"] (defScope s_l_made) := ⟨rfl, rfl, rfl, by decide +kernel, rfl, by decide +kernel, by decide +kernel⟩
theorem sc_l_told : FnScope ["_law_way", "_law_p", "_law_parts", "_law_times", "_law_more", "_law_due", "_law_size", "_law_many", "_law_seen", "_law_told_here", "_law_shorter", "_law_beyond"] ["_law_way", "_law_p", "_law_parts", "_law_times", "_law_more"] (defScope s_l_told) := ⟨rfl, rfl, rfl, by decide +kernel, rfl, by decide +kernel, by decide +kernel⟩
theorem sc_law : FnScope ["_law_script", "_law_cells", "_law_p", "_law_parts", "_law_times", "_law_way"] ["_law_script"] (defScope s_law) := ⟨rfl, rfl, rfl, by decide +kernel, rfl, by decide +kernel, by decide +kernel⟩
set_option genInjectivity false
set_option genSizeOfSpec false
structure Txt (K : PySem.W.Frag) (mg : Str → Option Value) where
  f_is_whole : Addr
  d_is_whole : FuncData
  F_is_whole : Fun K "is_whole" "is_whole" s_is_whole f_is_whole d_is_whole
  b_is_whole : Binds K d_is_whole ["thing"] []
  m_is_whole : mg "is_whole" = some (.ref f_is_whole)
  k_is_whole : PySem.W.keepIn K (.ref f_is_whole) = true
  f_is_prime : Addr
  d_is_prime : FuncData
  F_is_prime : Fun K "is_prime" "is_prime" s_is_prime f_is_prime d_is_prime
  b_is_prime : Binds K d_is_prime ["thing"] []
  m_is_prime : mg "is_prime" = some (.ref f_is_prime)
  k_is_prime : PySem.W.keepIn K (.ref f_is_prime) = true
  f_exponent : Addr
  d_exponent : FuncData
  F_exponent : Fun K "exponent" "exponent" s_exponent f_exponent d_exponent
  b_exponent : Binds K d_exponent ["p", "number"] []
  m_exponent : mg "exponent" = some (.ref f_exponent)
  k_exponent : PySem.W.keepIn K (.ref f_exponent) = true
  f_power_of : Addr
  d_power_of : FuncData
  F_power_of : Fun K "power_of" "power_of" s_power_of f_power_of d_power_of
  b_power_of : Binds K d_power_of ["p", "times"] []
  m_power_of : mg "power_of" = some (.ref f_power_of)
  k_power_of : PySem.W.keepIn K (.ref f_power_of) = true
  f_common_divisor : Addr
  d_common_divisor : FuncData
  F_common_divisor : Fun K "common_divisor" "common_divisor" s_common_divisor f_common_divisor d_common_divisor
  b_common_divisor : Binds K d_common_divisor ["one", "other"] []
  m_common_divisor : mg "common_divisor" = some (.ref f_common_divisor)
  k_common_divisor : PySem.W.keepIn K (.ref f_common_divisor) = true
  f_fraction : Addr
  d_fraction : FuncData
  F_fraction : FunD K "fraction" "fraction" s_fraction f_fraction d_fraction
  b_fraction : Binds K d_fraction ["top", "bottom"] []
  m_fraction : mg "fraction" = some (.ref f_fraction)
  k_fraction : PySem.W.keepIn K (.ref f_fraction) = true
  bd_fraction : ∃ us : List Value, Vals [.int 1] us ∧ Binds K d_fraction ["top", "bottom"] us
  f_is_fraction : Addr
  d_is_fraction : FuncData
  F_is_fraction : Fun K "is_fraction" "is_fraction" s_is_fraction f_is_fraction d_is_fraction
  b_is_fraction : Binds K d_is_fraction ["thing"] []
  m_is_fraction : mg "is_fraction" = some (.ref f_is_fraction)
  k_is_fraction : PySem.W.keepIn K (.ref f_is_fraction) = true
  f_exponent_of : Addr
  d_exponent_of : FuncData
  F_exponent_of : Fun K "exponent_of" "exponent_of" s_exponent_of f_exponent_of d_exponent_of
  b_exponent_of : Binds K d_exponent_of ["p", "one"] []
  m_exponent_of : mg "exponent_of" = some (.ref f_exponent_of)
  k_exponent_of : PySem.W.keepIn K (.ref f_exponent_of) = true
  f_without_prime : Addr
  d_without_prime : FuncData
  F_without_prime : Fun K "without_prime" "without_prime" s_without_prime f_without_prime d_without_prime
  b_without_prime : Binds K d_without_prime ["p", "one"] []
  m_without_prime : mg "without_prime" = some (.ref f_without_prime)
  k_without_prime : PySem.W.keepIn K (.ref f_without_prime) = true
  f_are_figures : Addr
  d_are_figures : FuncData
  F_are_figures : Fun K "are_figures" "are_figures" s_are_figures f_are_figures d_are_figures
  b_are_figures : Binds K d_are_figures ["p", "things"] []
  m_are_figures : mg "are_figures" = some (.ref f_are_figures)
  k_are_figures : PySem.W.keepIn K (.ref f_are_figures) = true
  f_left_number : Addr
  d_left_number : FuncData
  F_left_number : Fun K "left_number" "left_number" s_left_number f_left_number d_left_number
  b_left_number : Binds K d_left_number ["p", "least", "figures"] []
  m_left_number : mg "left_number" = some (.ref f_left_number)
  k_left_number : PySem.W.keepIn K (.ref f_left_number) = true
  f_refuse_unlike : Addr
  d_refuse_unlike : FuncData
  F_refuse_unlike : Fun K "refuse_unlike" "refuse_unlike" s_refuse_unlike f_refuse_unlike d_refuse_unlike
  b_refuse_unlike : Binds K d_refuse_unlike ["one", "other"] []
  m_refuse_unlike : mg "refuse_unlike" = some (.ref f_refuse_unlike)
  k_refuse_unlike : PySem.W.keepIn K (.ref f_refuse_unlike) = true
  f_known_of : Addr
  d_known_of : FuncData
  F_known_of : Fun K "known_of" "known_of" s_known_of f_known_of d_known_of
  b_known_of : Binds K d_known_of ["one"] []
  m_known_of : mg "known_of" = some (.ref f_known_of)
  k_known_of : PySem.W.keepIn K (.ref f_known_of) = true
  f_number_of : Addr
  d_number_of : FuncData
  F_number_of : Fun K "number_of" "number_of" s_number_of f_number_of d_number_of
  b_number_of : Binds K d_number_of ["p", "figures"] []
  m_number_of : mg "number_of" = some (.ref f_number_of)
  k_number_of : PySem.W.keepIn K (.ref f_number_of) = true
  f_unit_of : Addr
  d_unit_of : FuncData
  F_unit_of : Fun K "unit_of" "unit_of" s_unit_of f_unit_of d_unit_of
  b_unit_of : Binds K d_unit_of ["one"] []
  m_unit_of : mg "unit_of" = some (.ref f_unit_of)
  k_unit_of : PySem.W.keepIn K (.ref f_unit_of) = true
  f_back_of : Addr
  d_back_of : FuncData
  F_back_of : Fun K "back_of" "back_of" s_back_of f_back_of d_back_of
  b_back_of : Binds K d_back_of ["p", "number"] []
  m_back_of : mg "back_of" = some (.ref f_back_of)
  k_back_of : PySem.W.keepIn K (.ref f_back_of) = true
  f_first_figures : Addr
  d_first_figures : FuncData
  F_first_figures : Fun K "first_figures" "first_figures" s_first_figures f_first_figures d_first_figures
  b_first_figures : Binds K d_first_figures ["p", "top", "bottom", "many"] []
  m_first_figures : mg "first_figures" = some (.ref f_first_figures)
  k_first_figures : PySem.W.keepIn K (.ref f_first_figures) = true
  f_of_whole : Addr
  d_of_whole : FuncData
  F_of_whole : Fun K "of_whole" "of_whole" s_of_whole f_of_whole d_of_whole
  b_of_whole : Binds K d_of_whole ["p", "least", "number", "many"] []
  m_of_whole : mg "of_whole" = some (.ref f_of_whole)
  k_of_whole : PySem.W.keepIn K (.ref f_of_whole) = true
  f_paper_of : Addr
  d_paper_of : FuncData
  F_paper_of : Fun K "paper_of" "paper_of" s_paper_of f_paper_of d_paper_of
  b_paper_of : Binds K d_paper_of ["power", "unit", "size"] []
  m_paper_of : mg "paper_of" = some (.ref f_paper_of)
  k_paper_of : PySem.W.keepIn K (.ref f_paper_of) = true
  f_times_power : Addr
  d_times_power : FuncData
  F_times_power : Fun K "times_power" "times_power" s_times_power f_times_power d_times_power
  b_times_power : Binds K d_times_power ["p", "top", "bottom", "times"] []
  m_times_power : mg "times_power" = some (.ref f_times_power)
  k_times_power : PySem.W.keepIn K (.ref f_times_power) = true
  f_found_again : Addr
  d_found_again : FuncData
  F_found_again : Fun K "found_again" "found_again" s_found_again f_found_again d_found_again
  b_found_again : Binds K d_found_again ["one", "size"] []
  m_found_again : mg "found_again" = some (.ref f_found_again)
  k_found_again : PySem.W.keepIn K (.ref f_found_again) = true
  f_lengthened : Addr
  d_lengthened : FuncData
  F_lengthened : Fun K "lengthened" "lengthened" s_lengthened f_lengthened d_lengthened
  b_lengthened : Binds K d_lengthened ["one", "figure"] []
  m_lengthened : mg "lengthened" = some (.ref f_lengthened)
  k_lengthened : PySem.W.keepIn K (.ref f_lengthened) = true
  f_refuse_power : Addr
  d_refuse_power : FuncData
  F_refuse_power : Fun K "refuse_power" "refuse_power" s_refuse_power f_refuse_power d_refuse_power
  b_refuse_power : Binds K d_refuse_power ["n"] []
  m_refuse_power : mg "refuse_power" = some (.ref f_refuse_power)
  k_refuse_power : PySem.W.keepIn K (.ref f_refuse_power) = true
  f_power_rest : Addr
  d_power_rest : FuncData
  F_power_rest : Fun K "power_rest" "power_rest" s_power_rest f_power_rest d_power_rest
  b_power_rest : Binds K d_power_rest ["number", "times", "divisor"] []
  m_power_rest : mg "power_rest" = some (.ref f_power_rest)
  k_power_rest : PySem.W.keepIn K (.ref f_power_rest) = true
  f_with_chosen_sign : Addr
  d_with_chosen_sign : FuncData
  F_with_chosen_sign : Fun K "with_chosen_sign" "with_chosen_sign" s_with_chosen_sign f_with_chosen_sign d_with_chosen_sign
  b_with_chosen_sign : Binds K d_with_chosen_sign ["one", "n"] []
  m_with_chosen_sign : mg "with_chosen_sign" = some (.ref f_with_chosen_sign)
  k_with_chosen_sign : PySem.W.keepIn K (.ref f_with_chosen_sign) = true
  f_raised : Addr
  d_raised : FuncData
  F_raised : Fun K "raised" "raised" s_raised f_raised d_raised
  b_raised : Binds K d_raised ["one", "n"] []
  m_raised : mg "raised" = some (.ref f_raised)
  k_raised : PySem.W.keepIn K (.ref f_raised) = true
  f_multiplied : Addr
  d_multiplied : FuncData
  F_multiplied : Fun K "multiplied" "multiplied" s_multiplied f_multiplied d_multiplied
  b_multiplied : Binds K d_multiplied ["one", "other"] []
  m_multiplied : mg "multiplied" = some (.ref f_multiplied)
  k_multiplied : PySem.W.keepIn K (.ref f_multiplied) = true
  f_refuse_divisor : Addr
  d_refuse_divisor : FuncData
  F_refuse_divisor : Fun K "refuse_divisor" "refuse_divisor" s_refuse_divisor f_refuse_divisor d_refuse_divisor
  b_refuse_divisor : Binds K d_refuse_divisor ["one", "other"] []
  m_refuse_divisor : mg "refuse_divisor" = some (.ref f_refuse_divisor)
  k_refuse_divisor : PySem.W.keepIn K (.ref f_refuse_divisor) = true
  f_divided : Addr
  d_divided : FuncData
  F_divided : Fun K "divided" "divided" s_divided f_divided d_divided
  b_divided : Binds K d_divided ["one", "other"] []
  m_divided : mg "divided" = some (.ref f_divided)
  k_divided : PySem.W.keepIn K (.ref f_divided) = true
  f_seen_left : Addr
  d_seen_left : FuncData
  F_seen_left : Fun K "seen_left" "seen_left" s_seen_left f_seen_left d_seen_left
  b_seen_left : Binds K d_seen_left ["p", "part", "place"] []
  m_seen_left : mg "seen_left" = some (.ref f_seen_left)
  k_seen_left : PySem.W.keepIn K (.ref f_seen_left) = true
  f_size_of : Addr
  d_size_of : FuncData
  F_size_of : Fun K "size_of" "size_of" s_size_of f_size_of d_size_of
  b_size_of : Binds K d_size_of ["p", "part"] []
  m_size_of : mg "size_of" = some (.ref f_size_of)
  k_size_of : PySem.W.keepIn K (.ref f_size_of) = true
  f_l_cell_at : Addr
  d_l_cell_at : FuncData
  F_l_cell_at : Fun K "_law_cell_at" "_law_cell_at" s_l_cell_at f_l_cell_at d_l_cell_at
  b_l_cell_at : Binds K d_l_cell_at ["_law_script", "_law_k"] []
  m_l_cell_at : mg "_law_cell_at" = some (.ref f_l_cell_at)
  k_l_cell_at : PySem.W.keepIn K (.ref f_l_cell_at) = true
  f_l_power : Addr
  d_l_power : FuncData
  F_l_power : Fun K "_law_power" "_law_power" s_l_power f_l_power d_l_power
  b_l_power : Binds K d_l_power ["_law_p", "_law_times"] []
  m_l_power : mg "_law_power" = some (.ref f_l_power)
  k_l_power : PySem.W.keepIn K (.ref f_l_power) = true
  f_l_prime : Addr
  d_l_prime : FuncData
  F_l_prime : Fun K "_law_prime" "_law_prime" s_l_prime f_l_prime d_l_prime
  b_l_prime : Binds K d_l_prime ["_law_cell"] []
  m_l_prime : mg "_law_prime" = some (.ref f_l_prime)
  k_l_prime : PySem.W.keepIn K (.ref f_l_prime) = true
  f_l_divisor : Addr
  d_l_divisor : FuncData
  F_l_divisor : Fun K "_law_divisor" "_law_divisor" s_l_divisor f_l_divisor d_l_divisor
  b_l_divisor : Binds K d_l_divisor ["_law_one", "_law_other"] []
  m_l_divisor : mg "_law_divisor" = some (.ref f_l_divisor)
  k_l_divisor : PySem.W.keepIn K (.ref f_l_divisor) = true
  f_l_without : Addr
  d_l_without : FuncData
  F_l_without : Fun K "_law_without" "_law_without" s_l_without f_l_without d_l_without
  b_l_without : Binds K d_l_without ["_law_p", "_law_number"] []
  m_l_without : mg "_law_without" = some (.ref f_l_without)
  k_l_without : PySem.W.keepIn K (.ref f_l_without) = true
  f_l_lowest : Addr
  d_l_lowest : FuncData
  F_l_lowest : Fun K "_law_lowest" "_law_lowest" s_l_lowest f_l_lowest d_l_lowest
  b_l_lowest : Binds K d_l_lowest ["_law_top", "_law_bottom"] []
  m_l_lowest : mg "_law_lowest" = some (.ref f_l_lowest)
  k_l_lowest : PySem.W.keepIn K (.ref f_l_lowest) = true
  f_l_part : Addr
  d_l_part : FuncData
  F_l_part : Fun K "_law_part" "_law_part" s_l_part f_l_part d_l_part
  b_l_part : Binds K d_l_part ["_law_p", "_law_cells"] []
  m_l_part : mg "_law_part" = some (.ref f_l_part)
  k_l_part : PySem.W.keepIn K (.ref f_l_part) = true
  f_l_exponent : Addr
  d_l_exponent : FuncData
  F_l_exponent : Fun K "_law_exponent" "_law_exponent" s_l_exponent f_l_exponent d_l_exponent
  b_l_exponent : Binds K d_l_exponent ["_law_p", "_law_part_here"] []
  m_l_exponent : mg "_law_exponent" = some (.ref f_l_exponent)
  k_l_exponent : PySem.W.keepIn K (.ref f_l_exponent) = true
  f_l_enough : Addr
  d_l_enough : FuncData
  F_l_enough : Fun K "_law_enough" "_law_enough" s_l_enough f_l_enough d_l_enough
  b_l_enough : Binds K d_l_enough ["_law_p", "_law_size"] []
  m_l_enough : mg "_law_enough" = some (.ref f_l_enough)
  k_l_enough : PySem.W.keepIn K (.ref f_l_enough) = true
  f_l_too_few : Addr
  d_l_too_few : FuncData
  F_l_too_few : Fun K "_law_too_few" "_law_too_few" s_l_too_few f_l_too_few d_l_too_few
  b_l_too_few : Binds K d_l_too_few ["_law_one", "_law_size"] []
  m_l_too_few : mg "_law_too_few" = some (.ref f_l_too_few)
  k_l_too_few : PySem.W.keepIn K (.ref f_l_too_few) = true
  f_l_made : Addr
  d_l_made : FuncData
  F_l_made : Fun K "_law_made" "_law_made" s_l_made f_l_made d_l_made
  b_l_made : Binds K d_l_made ["_law_way", "_law_one", "_law_other", "_law_times"] []
  m_l_made : mg "_law_made" = some (.ref f_l_made)
  k_l_made : PySem.W.keepIn K (.ref f_l_made) = true
  f_l_told : Addr
  d_l_told : FuncData
  F_l_told : Fun K "_law_told" "_law_told" s_l_told f_l_told d_l_told
  b_l_told : Binds K d_l_told ["_law_way", "_law_p", "_law_parts", "_law_times", "_law_more"] []
  m_l_told : mg "_law_told" = some (.ref f_l_told)
  k_l_told : PySem.W.keepIn K (.ref f_l_told) = true
  a_PRIMES : Addr
  m_PRIMES : mg "PRIMES" = some (.ref a_PRIMES)
  t_PRIMES : ∀ H : Hp, SqT K H a_PRIMES (primesL.map V.int)
  t_MOST_TIMES : Tok
  m_MOST_TIMES : mg "MOST_TIMES" = some (.int 1000 t_MOST_TIMES)
  a_LeftError : Addr
  m_LeftError : mg "LeftError" = some (.ref a_LeftError)
  a_NoPrime : Addr
  m_NoPrime : mg "NoPrime" = some (.ref a_NoPrime)
  a_NoFraction : Addr
  m_NoFraction : mg "NoFraction" = some (.ref a_NoFraction)
  a_NoPlace : Addr
  m_NoPlace : mg "NoPlace" = some (.ref a_NoPlace)
  a_NoFigures : Addr
  m_NoFigures : mg "NoFigures" = some (.ref a_NoFigures)
  a_Unlike : Addr
  m_Unlike : mg "Unlike" = some (.ref a_Unlike)
  a_NoQuotient : Addr
  m_NoQuotient : mg "NoQuotient" = some (.ref a_NoQuotient)
  a_NoPower : Addr
  m_NoPower : mg "NoPower" = some (.ref a_NoPower)
  a_TooFew : Addr
  m_TooFew : mg "TooFew" = some (.ref a_TooFew)
  a_NoSize : Addr
  m_NoSize : mg "NoSize" = some (.ref a_NoSize)
  x_NoPrime : PySem.W.excIn K a_NoPrime bmVE "ValueError.__new__" = true
  x_NoPlace : PySem.W.excIn K a_NoPlace bmVE "ValueError.__new__" = true
  x_NoFigures : PySem.W.excIn K a_NoFigures bmVE "ValueError.__new__" = true
  x_Unlike : PySem.W.excIn K a_Unlike bmVE "ValueError.__new__" = true
  x_NoQuotient : PySem.W.excIn K a_NoQuotient bmVE "ValueError.__new__" = true
  x_NoPower : PySem.W.excIn K a_NoPower bmVE "ValueError.__new__" = true
  x_NoFraction : PySem.W.excIn K a_NoFraction bmVE "ValueError.__new__" = true
  x_NoSize : PySem.W.excIn K a_NoSize bmVE "ValueError.__new__" = true
  x_TooFew : PySem.W.excIn K a_TooFew bmVE "ValueError.__new__" = true
  z_abs : mg "abs" = none
  z_all : mg "all" = none
  z_bool : mg "bool" = none
  z_int : mg "int" = none
  z_isinstance : mg "isinstance" = none
  z_len : mg "len" = none
  z_list : mg "list" = none
  z_max : mg "max" = none
  z_min : mg "min" = none
  z_range : mg "range" = none
  z_reversed : mg "reversed" = none
  z_tuple : mg "tuple" = none
theorem bd_small {n : Nat} {i : Int} (hn : 64 ≤ n) (h1 : -(2 ^ 63) ≤ i) (h2 : i ≤ 2 ^ 63) : LN.Bd n i :=
  LN.Bd.mono (m := 64) (LN.Bd.of_abs (b := 2 ^ 63) (by omega) (by omega) (by decide)) hn
theorem dsm {i j : Int} (h : 0 < j) (h2 : j ≤ 1000) : CDivB i j := ⟨h, bd_small (by decide) (by omega) (by omega)⟩
def primes32 : List Int := primesL ++ [2, 2, 2, 3, 3, 5, 97]
theorem primes32_at : ∀ v ∈ primes32.map V.int, ∃ p : Int, v = .int p ∧ Pr p := fun v hv => by
  obtain ⟨p, h, rfl⟩ := List.mem_map.mp hv
  rcases List.mem_append.mp h with h | h
  · exact ⟨p, rfl, h⟩
  · exact ⟨p, rfl, (by decide : ∀ x ∈ [2, 2, 2, 3, 3, 5, (97 : Int)], x ∈ primesL) p h⟩
def spRefQ (K : PySem.W.Frag) : Sp := fun vs H Q _ => ∃ (a b : Addr) (p l p' l' : Int) (fs fs' : List Int), vs = [.ref a, .ref b] ∧ Lf K H a p l fs ∧ Lf K H b p' l' fs' ∧ (p ≠ p' ∨ fs' = []) ∧ ∀ (D : Addr) (H' : Hp), Same H H' → H' D = some (.lst ((if p = p' then [0, 1] else [0, 2] : List Int).map V.int)) → Q (.ref D) H'
def spPow51 : Sp := fun vs H Q _ => ∃ (p : Int) (k : Nat), vs = [.int p, .int (k : Int)] ∧ Pr p ∧ k ≤ 1000 ∧ Q (.int (p ^ k)) H
def spDiv51 : Sp := fun vs H Q _ => ∃ x y : Int, vs = [.int x, .int y] ∧ 0 ≤ x ∧ 0 ≤ y ∧ Q (.int ((Nat.gcd x.natAbs y.natAbs : Nat) : Int)) H
def spWithout53 : Sp := fun vs H Q _ => ∃ p n : Int, vs = [.int p, .int n] ∧ 2 ≤ p ∧ p ≤ 97 ∧ n ≠ 0 ∧ ∀ (m : Int) (k : Nat), n = m * p ^ k → ¬ p ∣ m → Q (.int m) H
def spEnough55 : Sp := fun vs H Q _ => ∃ p S : Int, vs = [.int p, .int S] ∧ Pr p ∧ 1 ≤ S ∧ LN.Bd 110 S ∧ ∀ k : Nat, 2 * (S * S) < p ^ k → k ≤ 250 → LN.Bd 240 (p ^ k) → Q (.int (k : Int)) H
def spLow55 : Sp := fun vs H Q _ => ∃ T D : Int, vs = [.int T, .int D] ∧ D ≠ 0 ∧ LN.Bd 4000 D ∧ ∀ (a : Addr) (x y : Int) (H' : Hp), Same H H' → H' a = some (.tup [.int x, .int y]) → LN.Low T D x y → Q (.ref a) H'
/-- a fraction at a, not great -/
structure At55 (H : Hp) (a : Addr) (p x y t b l N : Int) (L : Int) : Prop where
  at' : H a = some (.tup [.int x, .int y])
  fr : Fr5 p x y t b l
  tN : (t.natAbs : Int) ≤ N
  bN : b ≤ N
  l0 : -L ≤ l
  l1 : l ≤ L
def spPart55 : Sp := fun vs H Q _ => ∃ (p : Int) (cl : Addr) (c0 c1 c2 : Int), vs = [.int p, .ref cl] ∧ Pr p ∧ H cl = some (.lst [.int c0, .int c1, .int c2]) ∧ ∀ (a : Addr) (x y t b l : Int) (H' : Hp), Same H H' → At55 H' a p x y t b l 1000000 2 → Q (.ref a) H'
def spExp55 : Sp := fun vs H Q _ => ∃ (p : Int) (a : Addr) (x y t b l : Int), vs = [.int p, .ref a] ∧ Pr p ∧ H a = some (.tup [.int x, .int y]) ∧ Fr5 p x y t b l ∧ ∀ H', Same H H' → Q (.int l) H'
def spTooFew55 (K : PySem.W.Frag) : Sp := fun vs H Q _ => ∃ (a : Addr) (p l S : Int) (fs : List Int), vs = [.ref a, .int S] ∧ Lf K H a p l fs ∧ fs.length ≤ 300 ∧ -450 ≤ l ∧ l ≤ 450 ∧ LN.Bd 700 S ∧ 1 ≤ S ∧ p ^ fs.length ≤ 2 * (S * S) ∧ ∀ H', Same H H' → Q (.bl true) H'
def Rel55 (way : Int) (n : Nat) (t1 b1 l1 t2 b2 l2 t b l : Int) : Prop := (way = 0 ∧ l = l1 - l2 ∧ t * (b1 * t2) = t1 * b2 * b) ∨ (way = 1 ∧ l = l1 + l2 ∧ t * (b1 * b2) = t1 * t2 * b) ∨ (way = 2 ∧ l = (n : Int) * l1 ∧ t = t1 ^ n ∧ b = b1 ^ n)
def spMade55 : Sp := fun vs H Q _ => ∃ (way p x1 y1 t1 b1 l1 x2 y2 t2 b2 l2 : Int) (a c : Addr) (n : Nat), vs = [.int way, .ref a, .ref c, .int (n : Int)] ∧ (way = 0 ∨ way = 1 ∨ way = 2) ∧ Pr p ∧ At55 H a p x1 y1 t1 b1 l1 1000000 2 ∧ At55 H c p x2 y2 t2 b2 l2 1000000 2 ∧ 1 ≤ n ∧ n ≤ 4 ∧
  ∀ (d : Addr) (x y t b l : Int) (H' : Hp), Same H H' → At55 H' d p x y t b l 1000000000000000000000000 8 → Rel55 way n t1 b1 l1 t2 b2 l2 t b l → Q (.ref d) H'
def spTold55 : Sp := fun vs H Q _ => ∃ (way p x1 y1 t1 b1 l1 x2 y2 t2 b2 l2 more : Int) (D a c : Addr) (n : Nat), vs = [.int way, .int p, .ref D, .int (n : Int), .int more] ∧ (way = 0 ∨ way = 1 ∨ way = 2) ∧ Pr p ∧ H D = some (.lst [.ref a, .ref c]) ∧ At55 H a p x1 y1 t1 b1 l1 1000000 2 ∧ At55 H c p x2 y2 t2 b2 l2 1000000 2 ∧ 1 ≤ n ∧ n ≤ 4 ∧ 0 ≤ more ∧ more ≤ 4 ∧ ∀ H', Same H H' → Q (.bl true) H'
def Txt.cls {K : PySem.W.Frag} {mg : Str → Option Value} (T : Txt K mg) : Nat → Addr
  | 0 => T.a_NoPrime
  | 1 => T.a_NoPlace
  | _ => T.a_NoFigures
def spPrimeQ (K : PySem.W.Frag) : Sp := fun vs H Q _ => ∃ v, vs = [v] ∧ Thing K H v ∧ Q (.bl (isPr v)) H
def spAreFigs (K : PySem.W.Frag) : Sp := fun vs H Q _ => ∃ (p : Int) (a : Addr) (zs : List V), vs = [.int p, .ref a] ∧ (SqL K H a zs ∨ SqT K H a zs) ∧ (∀ z ∈ zs, Thing K H z) ∧ zs.length ≤ 3000 ∧ ∀ H' : Hp, Same H H' → Q (.bl (zs.all (isFig p))) H'
def spPow : Sp := fun vs H Q _ => ∃ (p : Int) (t : Nat), vs = [.int p, .int (t : Int)] ∧ LN.Bd 100 p ∧ t ≤ 5000 ∧ Q (.int (p ^ t)) H
def spExp : Sp := fun vs H Q _ => ∃ p n : Int, vs = [.int p, .int n] ∧ 2 ≤ p ∧ n ≠ 0 ∧ LN.Bd 8000 n ∧ ∀ (t : Nat) (m : Int) (H' : Hp), Same H H' → n = m * p ^ t → ¬ p ∣ m → Q (.int (t : Int)) H'
def spRefU (K : PySem.W.Frag) (C : Addr) : Sp := fun vs H Q E => ∃ (a b : Addr) (p l p' l' : Int) (fs fs' : List Int), vs = [.ref a, .ref b] ∧ Lf K H a p l fs ∧ Lf K H b p' l' fs' ∧ (p ≠ p' → E (.ref C) none H) ∧ (p = p' → Q .non H)
def spLonger (K : PySem.W.Frag) : Sp := fun vs H Q _ => ∃ (a : Addr) (p l f : Int) (fs : List Int), vs = [.ref a, .int f] ∧ Lf K H a p l fs ∧ 0 ≤ f ∧ f < p ∧ ∀ (c : Addr) (H' : Hp), Same H H' → LeftAt K H' c p (l + lead (fs ++ [f])) ((fs ++ [f]).drop (lead (fs ++ [f]))) → Q (.ref c) H'
section
variable {P : Program} {w : World} {K : PySem.W.Frag} {mg : Str → Option Value} {base : Heap}
theorem ok_is_whole (T : Txt K mg) : FnOk P w K mg base CX0 1 T.f_is_whole T.d_is_whole ["thing"] (spWhole K) := by
  refine T.F_is_whole.okq sc_is_whole (fun vs H Q E h => ?_) (fun cdv A outer s H vs Q E hr h => ?_)
  · obtain ⟨v, rfl, _⟩ := h
    rfl
  obtain ⟨v, rfl, ⟨t, i, b, u, kd, ty, ei⟩, q⟩ := h
  refine ⟨_, (qpss_one (qps_ret (qpe_and (qpe_callB call_inst rfl T.z_isinstance bt_isinstance (qpa_cons (hs := star_Name) (qpv 0) (qpa_cons (hs := star_Name) (qpe_bltn (v := .ty "int") rfl T.z_int bt_int rfl) qpa_nil))) (qpe_one (qpe_not (qpe_callB call_inst rfl T.z_isinstance bt_isinstance (qpa_cons (hs := star_Name) (qpv 0) (qpa_cons (hs := star_Name) (qpe_bltn (v := .ty "bool") rfl T.z_bool bt_bool rfl) qpa_nil)))))))), ?_⟩
  refine ⟨_, rfl, _, _, _, i, rfl, ty, kd.kit_int, _, rfl, ?_⟩
  rw [← ei] at q
  cases i with
  | false => exact iteF q
  | true => exact iteT ⟨_, rfl, _, _, _, b, rfl, ty, kd.kit_bool, _, rfl, q⟩
theorem primesL_flat : (primesL.map V.int).all flatV = true := by decide
theorem ok_is_prime (T : Txt K mg) : FnOk P w K mg base CX0 2 T.f_is_prime T.d_is_prime ["thing"] (spPrimeQ K) := by
  have G_is_whole := ok_is_whole (P := P) (w := w) (base := base) T
  refine T.F_is_prime.okq sc_is_prime (fun vs H Q E h => ?_) (fun cdv A outer s H vs Q E hr h => ?_)
  · obtain ⟨v, rfl, _⟩ := h
    rfl
  obtain ⟨v, rfl, th, q⟩ := h
  refine ⟨_, (qpss_one (qps_ret (qpe_and (qpe_call G_is_whole hr rfl T.m_is_whole T.k_is_whole T.b_is_whole .nil pass0 (qpa_cons (hs := star_Name) (qpv 0) qpa_nil)) (qpe_one (qpe_cmpR op_in_seq (qpv 0) (qpe_glob (v := .ref T.a_PRIMES) rfl T.m_PRIMES rfl) (by rfl)))))), ?_⟩
  refine ⟨_, rfl, v, rfl, th, _, rfl, ?_⟩
  cases v with
  | int i =>
    refine iteT ⟨_, rfl, _, _, rfl, .inr (T.t_PRIMES _), rfl, primesL_flat, ?_⟩
    rw [inV_primes]
    exact q
  | _ => exact iteF q
theorem ok_are_figures (T : Txt K mg) : FnOk P w K mg base CX0 2 T.f_are_figures T.d_are_figures ["p", "things"] (spAreFigs K) := by
  have G_is_whole := ok_is_whole (P := P) (w := w) (base := base) T
  refine T.F_are_figures.okq sc_are_figures (fun vs H Q E h => ?_) (fun cdv A outer s H vs Q E hr h => ?_)
  · obtain ⟨p, a, zs, rfl, _⟩ := h
    rfl
  obtain ⟨p, a, zs, rfl, hs, th, few, q⟩ := h
  refine ⟨_, (qpss_one (qps_ret (qpe_callB (call_allL rfl) rfl T.z_all bt_all (qpa_cons (hs := star_ListComp) (qpe_comp (caps := ["p"]) (idx := [0]) rfl ⟨rfl, by decide +kernel, rfl, by decide +kernel, rfl, by decide +kernel, rfl, ⟨⟨rfl, rfl⟩, trivial⟩, by decide +kernel, rfl, by decide +kernel⟩ (qpi_seq (qpv 1)) (fun _ _ _ _ => qif_none) (fun _ _ _ _ => (qpe_and (qpe_call G_is_whole hr rfl T.m_is_whole T.k_is_whole T.b_is_whole .nil pass0 (qpa_cons (hs := star_Name) (qpv 0) qpa_nil)) (qpe_one (qpe_chain op_le op_lt qpe_int (qpv 0) (qpv 1)))))) qpa_nil)))), ?_⟩
  have step : ∀ (D : Addr) (hD : H D = none) (x : V), x ∈ zs → ∀ (ys : List V), Thing K (upd H D (.lst ys)) x := fun D hD x hx ys => (th x hx).same (same_new hD _)
  have last : ∀ D, H D = none → ∃ (b : Addr) (bs : List Bool), [V.ref D] = [.ref b] ∧ SqL K (upd H D (.lst ((zs.filter fun _ => true).map fun v => .bl (isFig p v)))) b (bs.map V.bl) ∧ Q (.bl (bs.all id)) (upd H D (.lst ((zs.filter fun _ => true).map fun v => .bl (isFig p v)))) := fun D hD => by
    rw [filter_all]
    refine ⟨D, zs.map (isFig p), rfl, ?_, ?_⟩
    · rw [List.map_map]
      exact SqL.of upd_same
    · rw [List.all_map]
      exact q _ (same_new hD _)
  rcases hs with hs | hs
  · refine .inl ⟨_, rfl, a, rfl, ⟨_, hs⟩, fun D hD => ?_⟩
    refine comp_plain (c := fun _ => true) (f := fun v => .bl (isFig p v)) plain_list (small3001 (by omega)) hD (fun ys => (same_new hD _).seq hs) (fun x _ ys R r => r) (fun x hx _ ys R r => ?_) (last D hD)
    refine ⟨_, rfl, x, rfl, step D hD x hx ys, _, rfl, ?_⟩
    cases x with
    | int f =>
      refine iteT ⟨_, rfl, _, _, rfl, rfl, _, rfl, ?_⟩
      by_cases h0 : 0 ≤ f
      · rw [show isFig p (.int f) = (decide (0 ≤ f) && decide (f < p)) from rfl, decide_eq_true h0] at r
        rw [if_pos (decide_eq_true h0)]
        exact ⟨_, rfl, _, _, rfl, rfl, r⟩
      · rw [show isFig p (.int f) = (decide (0 ≤ f) && decide (f < p)) from rfl, decide_eq_false h0] at r
        rw [if_neg (by rw [decide_eq_false h0]; decide)]
        exact r
    | _ => exact iteF r
  · refine .inr ⟨_, rfl, a, rfl, ⟨_, hs⟩, fun D hD => ?_⟩
    refine comp_plain (c := fun _ => true) (f := fun v => .bl (isFig p v)) plain_tup (small3001 (by omega)) hD (fun ys => (same_new hD _).seqT hs) (fun x _ ys R r => r) (fun x hx _ ys R r => ?_) (last D hD)
    refine ⟨_, rfl, x, rfl, step D hD x hx ys, _, rfl, ?_⟩
    cases x with
    | int f =>
      refine iteT ⟨_, rfl, _, _, rfl, rfl, _, rfl, ?_⟩
      by_cases h0 : 0 ≤ f
      · rw [show isFig p (.int f) = (decide (0 ≤ f) && decide (f < p)) from rfl, decide_eq_true h0] at r
        rw [if_pos (decide_eq_true h0)]
        exact ⟨_, rfl, _, _, rfl, rfl, r⟩
      · rw [show isFig p (.int f) = (decide (0 ≤ f) && decide (f < p)) from rfl, decide_eq_false h0] at r
        rw [if_neg (by rw [decide_eq_false h0]; decide)]
        exact r
    | _ => exact iteF r
theorem ok_left_number (T : Txt K mg) : FnOk P w K mg base (CX2 P w) 3 T.f_left_number T.d_left_number ["p", "least", "figures"] (spLeftNum K T.cls) := by
  have G_is_whole := (ok_is_whole (P := P) (w := w) (base := base) T).mono (k := 2) (by decide)
  have G_is_prime := ok_is_prime (P := P) (w := w) (base := base) T
  have G_are_figures := ok_are_figures (P := P) (w := w) (base := base) T
  refine T.F_left_number.toD.ok2 sc_left_number (fun vs H Q E h => ?_) (fun cdv A outer s H vs Q E hr h => ?_)
  · obtain ⟨v1, v2, v3, o, rfl, _⟩ := h
    rfl
  obtain ⟨v1, v2, v3, o, rfl, li, hE, q⟩ := h
  refine ⟨_, (qpss_cons (qps_if (qpt_not (qpt_val (qpe_call G_is_prime hr rfl T.m_is_prime T.k_is_prime T.b_is_prime .nil pass0 (qpa_cons (hs := star_Name) (qpv 0) qpa_nil)))) (qpss_one (qps_raise throws_new2 rfl T.m_NoPrime T.x_NoPrime rfl (qpa_cons (hs := star_Constant) qpe_str qpa_nil))) qpss_nil)
    (qpss_cons (qps_if (qpt_not (qpt_val (qpe_call G_is_whole hr rfl T.m_is_whole T.k_is_whole T.b_is_whole .nil pass0 (qpa_cons (hs := star_Name) (qpv 1) qpa_nil)))) (qpss_one (qps_raise throws_new2 rfl T.m_NoPlace T.x_NoPlace rfl (qpa_cons (hs := star_Constant) qpe_str qpa_nil))) qpss_nil)
    (qpss_cons (qps_if (QW.pt (qpw_or (qpt_not (qpt_val (qpe_callB call_instS rfl T.z_isinstance bt_isinstance (qpa_cons (hs := star_Name) (qpv 2) (qpa_cons (hs := star_Tuple) (qpe_tup (qpa_cons (hs := star_Name) (qpe_bltn (v := .ty "list") rfl T.z_list bt_list rfl) (qpa_cons (hs := star_Name) (qpe_bltn (v := .ty "tuple") rfl T.z_tuple bt_tuple rfl) qpa_nil))) qpa_nil))))) (qpw_or1 (qpt_not (qpt_val (qpe_call G_are_figures hr rfl T.m_are_figures T.k_are_figures T.b_are_figures .nil pass0 (qpa_cons (hs := star_Name) (qpv 0) (qpa_cons (hs := star_Name) (qpv 2) qpa_nil)))))))) (qpss_one (qps_raise throws_new2 rfl T.m_NoFigures T.x_NoFigures rfl (qpa_cons (hs := star_Constant) qpe_str qpa_nil))) qpss_nil)
    (qpss_cons (qps_set (i := 3) sc_left_number.nd rfl (Or.inl rfl) qpe_int)
    (qpss_cons (qps_nox (qps_while PassesOwn.never (QW.pt (qpw_and (qpt_cmpR op_lt (qpv 3) (qpe_callB call_len_seq rfl T.z_len bt_len (qpa_cons (hs := star_Name) (qpv 2) qpa_nil)) (nomark _)) (qpw_and1 (qpt_cmpR op_eq (qpe_ix ix_seq (qpv 2) (qpv 3) (fun _ _ => rfl)) qpe_int (nomark _))))) (qpss_one (qps_set (i := 3) sc_left_number.nd rfl (Or.inl rfl) (qpe_op op_add (qpv 3) qpe_int)))))
    (qpss_one (qps_ret (qpe_tup (qpa_cons (hs := star_Name) (qpv 0) (qpa_cons (hs := star_BinOp) (qpe_op op_add (qpv 1) (qpv 3)) (qpa_cons (hs := star_Call) (qpe_callTy call_tuple_of rfl T.z_tuple bt_tuple (qpa_cons (hs := star_Subscript) (qpe_slice sl_seq (qpv 2) (qpo_some (qpv 3)) qpo_none) qpa_nil)) qpa_nil))))))))))), ?_⟩
  have s1 : ∀ {x : V}, ([x] : List V).length ≤ sizeLine := small (by show 1 ≤ 1000; decide)
  cases li with
  | prime t1 n1 =>
    refine ⟨_, rfl, v1, rfl, t1, _, rfl, ?_⟩
    rw [n1]
    exact iteT ⟨s1, hE 0 rfl _ (Same.refl _)⟩
  | @place p _ _ hp t2 n2 =>
    refine ⟨_, rfl, _, rfl, Thing.int p, _, rfl, ?_⟩
    rw [show isPr (.int p) = true from decide_eq_true hp]
    refine iteF ⟨_, rfl, v2, rfl, t2, _, rfl, ?_⟩
    rw [n2]
    exact iteT ⟨s1, hE 1 rfl _ (Same.refl _)⟩
  | @figs p l _ hp f =>
    refine ⟨_, rfl, _, rfl, Thing.int p, _, rfl, ?_⟩
    rw [show isPr (.int p) = true from decide_eq_true hp]
    refine iteF ⟨_, rfl, _, rfl, Thing.int l, _, rfl, iteF ?_⟩
    refine ⟨_, rfl, small (by show 2 ≤ 1000; decide), fun tp kt => ?_⟩
    have gt := same_new kt (.tup [.ty "list", .ty "tuple"])
    cases f with
    | @bad a zs h t n b =>
      have h' := h.imp gt.seq gt.seqT
      refine ⟨_, tp, true, rfl, upd_same, h'.elim .l .t, _, rfl, iteF ?_⟩
      refine ⟨_, rfl, _, rfl, p, a, zs, rfl, h', fun z hz => (t z hz).same gt, n, fun H2 g2 => ⟨_, rfl, ?_⟩⟩
      rw [b]
      exact iteT ⟨s1, hE 2 rfl _ (gt.trans g2)⟩
    | non => exact ⟨_, tp, false, rfl, upd_same, .non, _, rfl, iteT (iteT ⟨s1, hE 2 rfl _ gt⟩)⟩
    | str => exact ⟨_, tp, false, rfl, upd_same, .str, _, rfl, iteT (iteT ⟨s1, hE 2 rfl _ gt⟩)⟩
    | int => exact ⟨_, tp, false, rfl, upd_same, .int, _, rfl, iteT (iteT ⟨s1, hE 2 rfl _ gt⟩)⟩
  | @good p l _ gs hp hl f =>
    refine ⟨_, rfl, _, rfl, Thing.int p, _, rfl, ?_⟩
    rw [show isPr (.int p) = true from decide_eq_true hp]
    refine iteF ⟨_, rfl, _, rfl, Thing.int l, _, rfl, iteF ?_⟩
    refine ⟨_, rfl, small (by show 2 ≤ 1000; decide), fun tp kt => ?_⟩
    have gt := same_new kt (.tup [.ty "list", .ty "tuple"])
    cases f with
    | @ok a _ h fg n =>
      have h0 := h.imp gt.seq (gt _ _)
      have h' := h0.imp id (SqT.of (K := K))
      refine ⟨_, tp, true, rfl, upd_same, h'.elim .l .t, _, rfl, iteF ?_⟩
      refine ⟨_, rfl, _, rfl, p, a, _, rfl, h', ints_things gs, (by rw [List.length_map]; exact n), fun H2 g2 => ⟨_, rfl, ?_⟩⟩
      rw [figs_all fg]
      refine iteF ?_
      have h2 := h0.imp g2.seq (g2 _ _)
      have h2' := h2.imp id (SqT.of (K := K))
      have g02 := gt.trans g2
      have le := lead_le gs
      change tSeq (tWhile _ _) _ _ _ _
      refine seq_of (fun σ H' => σ = [some (.int p), some (.int l), some (.ref a), some (.int (lead gs : Int))] ∧ H' = H2) ?_ (fun nx tail => ?_)
      rotate_left
      · refine ⟨fun m σ H' => ∃ i : Nat, σ = [some (.int p), some (.int l), some (.ref a), some (.int (i : Int))] ∧ H' = H2 ∧ i ≤ lead gs ∧ m = lead gs - i, ⟨_, 0, rfl, rfl, Nat.zero_le _, rfl⟩, ?_⟩
        rintro m σ H' ⟨i, rfl, rfl, hi, rfl⟩
        refine ⟨_, rfl, _, rfl, a, _, rfl, h2', _, _, rfl, rfl, _, rfl, iteL (fun lt => ?_) (fun ge => ?_)⟩
        · rw [List.length_map] at lt
          have lt : i < gs.length := by omega
          refine ⟨_, rfl, _, rfl, rIx_of h2' (cell_there lt) ⟨rfl, _, rfl, iteI (fun e => ?_) (fun e => ?_)⟩⟩
          · have hi' : i < lead gs := by
              refine Nat.lt_of_le_of_ne hi fun z => ?_
              subst z
              obtain ⟨f, h1, h2⟩ := lead_next lt
              rw [List.getD_eq_getElem?_getD, h1] at e
              exact h2 e
            refine ⟨_, fun σ' H' h => h, ?_⟩
            exact ⟨_, rfl, _, _, rfl, rfl, _, by omega, i + 1, rfl, rfl, hi', rfl⟩
          · refine tail _ _ ⟨?_, rfl⟩
            have : i = lead gs := by
              refine Nat.le_antisymm hi (Nat.le_of_not_lt fun z => e ?_)
              rw [List.getD_eq_getElem?_getD, lead_at z]
              rfl
            rw [this]
        · rw [List.length_map] at ge
          refine iteF (tail _ _ ⟨?_, rfl⟩)
          have : i = lead gs := by omega
          rw [this]
      rintro σ H' ⟨rfl, rfl⟩
      refine ⟨_, rfl, _, rfl, _, rfl, _, _, rfl, rfl, _, rfl, _, rfl, _, rfl, ?_⟩
      have s3 : ∀ {x y z : V}, ([x, y, z] : List V).length ≤ sizeLine := small (by show 3 ≤ 1000; decide)
      have ec : cutV (gs.map V.int) (some (lead gs : Int)) none = (gs.drop (lead gs)).map V.int := by rw [cut_from (by omega), map_drop, Int.toNat_natCast]
      rcases h2 with h2 | h2
      · refine .inl ⟨a, _, rfl, h2, fun r kr => ?_⟩
        rw [ec]
        refine ⟨r, _, rfl, .inl ⟨SqL.of upd_same, fun c kc => ⟨s3, fun d kd => ?_⟩⟩⟩
        exact q p l gs rfl d _ (g02.trans ((same_new kr _).trans ((same_new kc _).trans (same_new kd _)))) ⟨c, upd_same, (same_new kd _) _ _ upd_same⟩
      · refine .inr ⟨a, _, rfl, SqT.of h2, fun hw => ⟨a, _, rfl, .inr ⟨SqT.of h2, s3, fun d kd => ?_⟩⟩, fun hw r kr => ?_⟩
        · have l0 : lead gs = 0 := by
            have e := hw.1
            rw [HT.sIx_nat, List.length_map] at e
            omega
          refine q p l gs rfl d _ (g02.trans (same_new kd _)) ⟨a, upd_same, ?_⟩
          rw [l0]
          exact (same_new kd _) _ _ h2
        · rw [ec]
          refine ⟨r, _, rfl, .inr ⟨SqT.of upd_same, s3, fun d kd => ?_⟩⟩
          exact q p l gs rfl d _ (g02.trans ((same_new kr _).trans (same_new kd _))) ⟨r, upd_same, (same_new kd _) _ _ upd_same⟩
/-! ### power_of -/
theorem shr_cast (t r : Nat) : (t : Int) / 2 ^ r = ((t / 2 ^ r : Nat) : Int) := by
  rw [Int.natCast_ediv, Int.natCast_pow]
  rfl
theorem bits_top (t : Nat) : t / 2 ^ Builtin.Int.intBits (t : Int) = 0 := by
  have h := (intBits_le_iff (m := Builtin.Int.intBits (t : Int)) (x := (t : Int))).mp (Nat.le_refl _)
  exact Nat.div_eq_of_lt h
theorem bits_le {t : Nat} (h : t ≤ 5000) : Builtin.Int.intBits (t : Int) ≤ 13 := intBits_le_iff.mpr (by show t < 2 ^ 13; omega)
theorem bd_pow {p : Int} {e : Nat} (h : LN.Bd 100 p) (he : e ≤ 5000) : LN.Bd 1000000 (p ^ e) := (h.pow e).mono (by omega)
theorem half_le {t b : Nat} (h : t ≤ 5000) : t / 2 ^ (b + 1) + t / 2 ^ (b + 1) ≤ 5000 := by
  have := LN.half_step t b
  have := Nat.div_le_self t (2 ^ b)
  omega
theorem ok_power_of (T : Txt K mg) : FnOk P w K mg base CX0 1 T.f_power_of T.d_power_of ["p", "times"] spPow := by
  refine T.F_power_of.okq sc_power_of (fun vs H Q E h => ?_) (fun cdv A outer s H vs Q E hr h => ?_)
  · obtain ⟨p, t, rfl, _⟩ := h
    rfl
  obtain ⟨p, t, rfl, hp, ht, q⟩ := h
  refine ⟨_, (qpss_cons (qps_set (i := 2) sc_power_of.nd rfl (Or.inl rfl) qpe_int)
    (qpss_cons (qps_for PassesOwn.never rfl (qpi_rangeD rfl T.z_range (qpa_cons (hs := star_BinOp) (qpe_op op_sub (qpe_bm0 PySem.F.plainAttrs_int PySem.F.slot_int_bit_length PySem.F.type_int_bit_length mt_bitlen (qpv 1)) qpe_int) (qpa_cons (hs := star_UnaryOp) (qpe_un un_neg qpe_int) (qpa_cons (hs := star_UnaryOp) (qpe_un un_neg qpe_int) qpa_nil)))) (qpg_name (i := 3) sc_power_of.nd rfl (Or.inl rfl)) (qpss_cons (qps_set (i := 2) sc_power_of.nd rfl (Or.inl rfl) (qpe_op op_mulB (qpv 2) (qpv 2)))
    (qpss_one (qps_if (qpt_cmpR op_eq (qpe_op op_mod (qpe_op op_shr (qpv 1) (qpv 3)) qpe_int) qpe_int (nomark _)) (qpss_one (qps_set (i := 2) sc_power_of.nd rfl (Or.inl rfl) (qpe_op op_mulB (qpv 2) (qpv 0)))) qpss_nil))))
    (qpss_one (qps_ret (qpv 2))))), ?_⟩
  have hb := bits_le ht
  have h0 := bits_top t
  generalize eb : Builtin.Int.intBits (t : Int) = b at hb h0
  refine ⟨_, rfl, rfl, _, rfl, rfl, _, _, rfl, rfl, _, rfl, _, rfl, _, _, rfl, ⟨by omega, by omega, by decide, by decide⟩, ?_⟩
  rw [eb]
  have en : ((b : Int) - 1 - (-1)).toNat = b := by omega
  rw [en]
  refine for_down (fun i σ H2 => ∃ v : Option V, σ = [some (.int p), some (.int (t : Int)), some (.int (p ^ (t / 2 ^ (b - i)))), v] ∧ H2 = H) ⟨none, by rw [Nat.sub_zero, h0, Int.pow_zero] <;> rfl, rfl⟩ ?_ ?_
  · rintro i σ H2 hi ⟨v, rfl, rfl⟩
    obtain ⟨r, hr⟩ : ∃ r, b - i = r + 1 := ⟨b - i - 1, by omega⟩
    have hr' : b - (i + 1) = r := by omega
    have et : ((b : Int) - 1 - (i : Int)).toNat = r := by omega
    rw [hr, hr']
    have e1 : t / 2 ^ (r + 1) ≤ 5000 := by have := half_le (b := r) ht; omega
    refine ⟨_, rfl, _, rfl, _, _, rfl, rfl, ⟨bd_pow hp e1, bd_pow hp e1⟩, ?_⟩
    refine ⟨_, rfl, _, rfl, _, _, rfl, rfl, (by show (0 : Int) ≤ (b : Int) - 1 - (i : Int); omega), _, _, rfl, rfl, (by show (0 : Int) < 2; decide), rfl, _, rfl, ?_⟩
    rw [et, shr_cast]
    refine iteI (fun c => ?_) (fun c => ?_)
    · refine ⟨_, rfl, _, rfl, _, _, rfl, rfl, ⟨by rw [← Int.pow_add]; exact bd_pow hp (half_le ht), hp.mono (by decide)⟩, some (.int ((b : Int) - 1 - (i : Int))), ?_, rfl⟩
      show ([some (V.int p), some (V.int (t : Int)), some (V.int (p ^ (t / 2 ^ (r + 1)) * p ^ (t / 2 ^ (r + 1)) * p)), some (V.int ((b : Int) - 1 - (i : Int)))] : List (Option V)) = _
      rw [LN.pow_odd p t r (by omega)]
    · refine ⟨some (.int ((b : Int) - 1 - (i : Int))), ?_, rfl⟩
      show ([some (V.int p), some (V.int (t : Int)), some (V.int (p ^ (t / 2 ^ (r + 1)) * p ^ (t / 2 ^ (r + 1)))), some (V.int ((b : Int) - 1 - (i : Int)))] : List (Option V)) = _
      rw [LN.pow_even p t r (by omega)]
  · rintro σ H2 ⟨v, rfl, rfl⟩
    refine ⟨_, rfl, ?_⟩
    rw [Nat.sub_self, Nat.pow_zero, Nat.div_one]
    exact q
/-! ### exponent -/
theorem ex_dvd {p n m : Int} {r t : Nat} (h : LN.Ex p n r t m) : m ∣ n := ⟨_, h.eq⟩
theorem ok_exponent (T : Txt K mg) : FnOk P w K mg base CX0 1 T.f_exponent T.d_exponent ["p", "number"] spExp := by
  refine T.F_exponent.okq sc_exponent (fun vs H Q E h => ?_) (fun cdv A outer s H vs Q E hr h => ?_)
  · obtain ⟨p, n, rfl, _⟩ := h
    rfl
  obtain ⟨p, n, rfl, hp, hn, bn, q⟩ := h
  refine ⟨_, (qpss_cons (qps_if (qpt_cmpR op_eq (qpv 1) qpe_int (nomark _)) (qpss_one qps_never) qpss_nil)
    (qpss_cons (qps_set (i := 2) sc_exponent.nd rfl (Or.inl rfl) (qpe_lst qpa_nil))
    (qpss_cons (qps_set (i := 3) sc_exponent.nd rfl (Or.inl rfl) (qpv 0))
    (qpss_cons (qps_while PassesOwn.never (qpt_cmpR op_eq (qpe_op op_mod (qpv 1) (qpv 3)) qpe_int (nomark _)) (qpss_cons (qps_expr (qpe_bm PySem.F.plainAttrs_list PySem.F.slot_list_append PySem.F.type_list_append mt_append (qpv 2) (qpa_cons (hs := star_Name) (qpv 3) qpa_nil)))
    (qpss_one (qps_set (i := 3) sc_exponent.nd rfl (Or.inl rfl) (qpe_op op_mulB (qpv 3) (qpv 3))))))
    (qpss_cons (qps_set (i := 4) sc_exponent.nd rfl (Or.inl rfl) qpe_int)
    (qpss_cons (qps_for PassesOwn.never rfl (qpi_rev rfl T.z_reversed (qpa_cons (hs := star_Name) (qpv 2) qpa_nil)) (qpg_name (i := 3) sc_exponent.nd rfl (Or.inl rfl)) (qpss_cons (qps_set (i := 4) sc_exponent.nd rfl (Or.inl rfl) (qpe_op op_mul (qpv 4) qpe_int))
    (qpss_one (qps_if (qpt_cmpR op_eq (qpe_op op_mod (qpv 1) (qpv 3)) qpe_int (nomark _)) (qpss_cons (qps_set (i := 1) sc_exponent.nd rfl (Or.inl rfl) (qpe_op op_fdivB (qpv 1) (qpv 3)))
    (qpss_one (qps_set (i := 4) sc_exponent.nd rfl (Or.inl rfl) (qpe_op op_add (qpv 4) qpe_int)))) qpss_nil))))
    (qpss_one (qps_ret (qpv 4))))))))), ?_⟩
  refine ⟨_, rfl, rfl, _, rfl, iteI (fun e => absurd e hn) (fun _ => ?_)⟩
  refine ⟨small (by show 0 ≤ 1000; decide), fun l hl => ⟨_, rfl, ?_⟩⟩
  have e0 : p = p ^ (2 ^ 0) := by rw [Nat.pow_zero, Int.pow_succ, Int.pow_zero, Int.one_mul]
  refine ⟨fun m σ H2 => ∃ k : Nat, σ = [some (.int p), some (.int n), some (.ref l), some (.int (p ^ (2 ^ k))), none] ∧ H2 l = some (.lst ((LN.sq p k).map V.int)) ∧ Same H H2 ∧ k ≤ 8000 ∧ m = n.natAbs + 1 - (p ^ (2 ^ k)).natAbs,
    ⟨_, 0, by rw [← e0] <;> rfl, upd_same, same_new hl _, by decide, rfl⟩, ?_⟩
  rintro m σ H2 ⟨k, rfl, h2, g2, hk, rfl⟩
  have pos := LN.pow_pos hp (2 ^ k)
  refine ⟨_, rfl, _, rfl, _, _, rfl, rfl, pos, rfl, _, rfl, ?_⟩
  refine iteI (fun e => ?_) (fun e => ?_)
  · have hd : p ^ (2 ^ k) ∣ n := Int.dvd_of_emod_eq_zero e
    have bd : LN.Bd 8000 (p ^ (2 ^ k)) := bn.dvd hd hn
    have hk' := LN.sq_short hp hn bn hd
    refine ⟨_, fun σ' H' h => h, ?_⟩
    refine ⟨_, rfl, .inl ⟨rfl, _, SqL.of h2⟩, _, rfl, l, _, _, rfl, rfl, h2, (by rw [List.length_map, LN.sq_len]; exact small9 hk), ?_⟩
    refine ⟨_, rfl, _, rfl, _, _, rfl, rfl, ⟨bd.mono (by decide), bd.mono (by decide)⟩, ?_⟩
    have grow := LN.sq_grow hp k
    have le := LN.le_of_dvd hd hn
    refine ⟨_, ?_, k + 1, congrArg (fun z : Int => ([some (V.int p), some (V.int n), some (V.ref l), some (V.int z), none] : List (Option V))) (LN.sq_mul p k), ?_, same_upd hl g2, by omega, rfl⟩
    · rw [← LN.sq_mul]
      omega
    · rw [upd_same, LN.sq_succ, List.map_append]
      rfl
  · have nd : ¬ p ^ (2 ^ k) ∣ n := fun z => e (Int.emod_eq_zero_of_dvd z)
    have hlen : ((LN.sq p k).map V.int).length = k := by rw [List.length_map, LN.sq_len]
    refine ⟨_, rfl, l, _, rfl, SqL.of h2, for_rev (fun i σ H3 => ∃ (t : Nat) (m : Int) (v : V), σ = [some (.int p), some (.int m), some (.ref l), some v, some (.int (t : Int))] ∧ H3 = H2 ∧ LN.Ex p n (k - i) t m)
      ⟨0, n, _, rfl, rfl, LN.Ex.start nd⟩ (fun i σ H3 _ ⟨_, _, _, _, e3, _⟩ => by rw [e3]; exact SqL.of h2) ?_ ?_⟩
    · rintro i x σ H3 hx hi ⟨t, m, v, rfl, rfl, ex⟩
      rw [hlen] at hx hi
      obtain ⟨r, hr⟩ : ∃ r, k - i = r + 1 := ⟨k - i - 1, by omega⟩
      have hr' : k - (i + 1) = r := by omega
      have er : k - 1 - i = r := by omega
      rw [hr] at ex
      rw [er, List.getElem?_map, LN.sq_get p (by omega)] at hx
      obtain rfl : V.int (p ^ (2 ^ r)) = x := Option.some.inj hx
      rw [hr']
      refine ⟨_, rfl, _, _, rfl, rfl, .inr ⟨by decide, by decide⟩, ?_⟩
      refine ⟨_, rfl, _, rfl, _, _, rfl, rfl, LN.pow_pos hp (2 ^ r), rfl, _, rfl, ?_⟩
      refine iteI (fun c => ?_) (fun c => ?_)
      · have hd : p ^ (2 ^ r) ∣ m := Int.dvd_of_emod_eq_zero c
        refine ⟨_, rfl, _, rfl, _, _, rfl, rfl, ⟨LN.pow_pos hp (2 ^ r), bn.dvd (Int.dvd_trans hd (ex_dvd ex)) hn⟩, ?_⟩
        refine ⟨_, rfl, _, _, rfl, rfl, t * 2 + 1, _, _, rfl, rfl, ex.yes hp hd⟩
      · exact ⟨t * 2, _, _, rfl, rfl, ex.nay fun z => c (Int.emod_eq_zero_of_dvd z)⟩
    · rintro σ H3 ⟨t, m, v, rfl, rfl, ex⟩
      rw [hlen, Nat.sub_self] at ex
      obtain ⟨h5, h6⟩ := ex.fin
      exact ⟨_, rfl, q t m H3 g2 h5 h6⟩
theorem ok_exponent2 (T : Txt K mg) : FnOk P w K mg base CX0 1 T.f_exponent T.d_exponent ["p", "number"] spExpU := by
  refine T.F_exponent.okq sc_exponent (fun vs H Q E h => ?_) (fun cdv A outer s H vs Q E hr h => ?_)
  · obtain ⟨p, n, rfl, _⟩ := h
    rfl
  obtain ⟨p, n, rfl, hp, nd, q⟩ := h
  have hn : n ≠ 0 := fun z => nd (by rw [z]; exact Int.dvd_zero _)
  refine ⟨_, (qpss_cons (qps_if (qpt_cmpR op_eq (qpv 1) qpe_int (nomark _)) (qpss_one qps_never) qpss_nil)
    (qpss_cons (qps_set (i := 2) sc_exponent.nd rfl (Or.inl rfl) (qpe_lst qpa_nil))
    (qpss_cons (qps_set (i := 3) sc_exponent.nd rfl (Or.inl rfl) (qpv 0))
    (qpss_cons (qps_while PassesOwn.never (qpt_cmpR op_eq (qpe_op op_mod (qpv 1) (qpv 3)) qpe_int (nomark _)) (qpss_cons (qps_expr (qpe_bm PySem.F.plainAttrs_list PySem.F.slot_list_append PySem.F.type_list_append mt_append (qpv 2) (qpa_cons (hs := star_Name) (qpv 3) qpa_nil)))
    (qpss_one (qps_set (i := 3) sc_exponent.nd rfl (Or.inl rfl) (qpe_op op_mulB (qpv 3) (qpv 3))))))
    (qpss_cons (qps_set (i := 4) sc_exponent.nd rfl (Or.inl rfl) qpe_int)
    (qpss_cons (qps_for PassesOwn.never rfl (qpi_rev rfl T.z_reversed (qpa_cons (hs := star_Name) (qpv 2) qpa_nil)) (qpg_name (i := 3) sc_exponent.nd rfl (Or.inl rfl)) (qpss_cons (qps_set (i := 4) sc_exponent.nd rfl (Or.inl rfl) (qpe_op op_mul (qpv 4) qpe_int))
    (qpss_one (qps_if (qpt_cmpR op_eq (qpe_op op_mod (qpv 1) (qpv 3)) qpe_int (nomark _)) (qpss_cons (qps_set (i := 1) sc_exponent.nd rfl (Or.inl rfl) (qpe_op op_fdivB (qpv 1) (qpv 3)))
    (qpss_one (qps_set (i := 4) sc_exponent.nd rfl (Or.inl rfl) (qpe_op op_add (qpv 4) qpe_int)))) qpss_nil))))
    (qpss_one (qps_ret (qpv 4))))))))), ?_⟩
  refine ⟨_, rfl, rfl, _, rfl, iteI (fun e => absurd e hn) (fun _ => ?_)⟩
  refine ⟨small (by show 0 ≤ 1000; decide), fun l hl => ⟨_, rfl, ?_⟩⟩
  have g0 := same_new hl (.lst [])
  refine ⟨fun m σ H2 => σ = [some (.int p), some (.int n), some (.ref l), some (.int p), none] ∧ H2 l = some (.lst []) ∧ Same H H2, ⟨0, rfl, upd_same, g0⟩, ?_⟩
  rintro m σ H2 ⟨rfl, h2, g2⟩
  refine ⟨_, rfl, _, rfl, _, _, rfl, rfl, (by show (0 : Int) < p; omega), rfl, _, rfl, iteI (fun e => absurd (Int.dvd_of_emod_eq_zero e) nd) (fun _ => ?_)⟩
  refine ⟨_, rfl, l, _, rfl, SqL.of h2, for_rev (fun i σ H3 => σ = [some (.int p), some (.int n), some (.ref l), some (.int p), some (.int 0)] ∧ H3 = H2) ⟨rfl, rfl⟩ (fun i σ H3 _ z => by rw [z.2]; exact SqL.of h2) (fun i x σ H3 hx hi _ => ?_) ?_⟩
  · exact absurd hi (Nat.not_lt_zero i)
  · rintro σ H3 ⟨rfl, rfl⟩
    exact ⟨_, rfl, q H3 g2⟩
theorem ok_back_of (T : Txt K mg) : FnOk P w K mg base CX0 2 T.f_back_of T.d_back_of ["p", "number"] spBackOf := by
  have G_power_of := ok_power_of (P := P) (w := w) (base := base) T
  refine T.F_back_of.okq sc_back_of (fun vs H Q E h => ?_) (fun cdv A outer s H vs Q E hr h => ?_)
  · obtain ⟨p, b, rfl, _⟩ := h
    rfl
  obtain ⟨p, b, rfl, hp, q⟩ := h
  have p2 := hp.two
  have p97 := hp.most
  have p0 : 0 < p := by omega
  have small7 : ∀ {x : Int}, 0 ≤ x → x < p → LN.Bd 7 x := fun {x} h0 h1 => LN.Bd.of_abs (b := 97) (by omega) (by omega) (by decide)
  refine ⟨_, (qpss_one (qps_ret (qpe_op op_mod (qpe_call G_power_of hr rfl T.m_power_of T.k_power_of T.b_power_of .nil pass0 (qpa_cons (hs := star_BinOp) (qpe_op op_mod (qpv 1) (qpv 0)) (qpa_cons (hs := star_BinOp) (qpe_op op_sub (qpv 0) qpe_int) qpa_nil))) (qpv 0)))), ?_⟩
  refine ⟨_, rfl, _, rfl, _, _, rfl, rfl, p0, _, rfl, _, _, rfl, rfl, b % p, (p - 2).toNat, ?_, (small7 (Int.emod_nonneg _ (by omega)) (Int.emod_lt_of_pos _ p0)).mono (by decide), by omega, ?_⟩
  · rw [Int.toNat_of_nonneg (by omega)]
    rfl
  exact ⟨_, rfl, _, _, rfl, rfl, p0, q _ (Same.refl _)⟩
theorem ok_first_figures3 (T : Txt K mg) : FnOk P w K mg base CX0 3 T.f_first_figures T.d_first_figures ["p", "top", "bottom", "many"] spFirstQ := by
  have G_back_of := ok_back_of (P := P) (w := w) (base := base) T
  refine T.F_first_figures.okq sc_first_figures (fun vs H Q E h => ?_) (fun cdv A outer s H vs Q E hr h => ?_)
  · obtain ⟨p, n, b, m, rfl, _⟩ := h
    rfl
  obtain ⟨p, n, b, m, rfl, hp, hm, nb, bn, bb, q⟩ := h
  have p2 := hp.two
  have p97 := hp.most
  have p0 : 0 < p := by omega
  have hc := back_ok hp nb
  obtain ⟨c0, c1⟩ := back_lt (p := p) (b := b) p0
  have small7 : ∀ {x : Int}, 0 ≤ x → x < p → LN.Bd 7 x := fun {x} h0 h1 => LN.Bd.of_abs (b := 97) (by omega) (by omega) (by decide)
  refine ⟨_, (qpss_cons (qps_set (i := 4) sc_first_figures.nd rfl (Or.inl rfl) (qpe_call G_back_of hr rfl T.m_back_of T.k_back_of T.b_back_of .nil pass0 (qpa_cons (hs := star_Name) (qpv 0) (qpa_cons (hs := star_Name) (qpv 2) qpa_nil))))
    (qpss_cons (qps_set (i := 5) sc_first_figures.nd rfl (Or.inl rfl) (qpe_lst qpa_nil))
    (qpss_cons (qps_while PassesOwn.never (qpt_cmpR op_lt (qpe_callB call_len_seq rfl T.z_len bt_len (qpa_cons (hs := star_Name) (qpv 5) qpa_nil)) (qpv 3) (nomark _)) (qpss_cons (qps_set (i := 6) sc_first_figures.nd rfl (Or.inl rfl) (qpe_op op_mod (qpe_op op_mulB (qpv 1) (qpv 4)) (qpv 0)))
    (qpss_cons (qps_expr (qpe_bm PySem.F.plainAttrs_list PySem.F.slot_list_append PySem.F.type_list_append mt_append (qpv 5) (qpa_cons (hs := star_Name) (qpv 6) qpa_nil)))
    (qpss_one (qps_set (i := 1) sc_first_figures.nd rfl (Or.inl rfl) (qpe_op op_fdivB (qpe_op op_sub (qpv 1) (qpe_op op_mulB (qpv 6) (qpv 2))) (qpv 0)))))))
    (qpss_one (qps_ret (qpv 5)))))), ?_⟩
  refine ⟨_, rfl, _, rfl, p, b, rfl, hp, fun H0 g0 => ?_⟩
  obtain ⟨c, ec⟩ : ∃ c, backOf p b = c := ⟨_, rfl⟩
  rw [ec] at hc c0 c1 q
  refine ⟨small (by show 0 ≤ 1000; decide), fun a ka => ?_⟩
  change tSeq (tWhile _ _) _ _ _ _
  refine ⟨fun u σ H' => ∃ (ys : List Int) (r : Int) (o : Option V), σ = [some (.int p), some (.int r), some (.int b), some (.int (m : Int)), some (.int c), some (.ref a), o] ∧ H' a = some (.lst (ys.map V.int)) ∧ Same H H' ∧ u = m - ys.length ∧ ys.length ≤ m ∧ qdigs p b c m n = ys ++ qdigs p b c (m - ys.length) r ∧ LN.Bd 100000 r,
    ⟨_, [], n, none, by rw [← ec]; rfl, upd_same, g0.trans (same_new ka _), rfl, Nat.zero_le _, rfl, bn⟩, ?_⟩
  rintro u σ H' ⟨ys, r, o, rfl, hb, g, rfl, le, e, br⟩
  refine ⟨_, rfl, a, _, rfl, .inl (SqL.of hb), _, rfl, _, _, rfl, rfl, _, rfl, iteL (fun lt => ?_) (fun ge => ?_)⟩
  · rw [List.length_map] at lt
    have f0 := Int.emod_nonneg (r * c) (show p ≠ 0 by omega)
    have f1 := Int.emod_lt_of_pos (r * c) p0
    have bf := small7 f0 f1
    have dv := qd_dvd r hc
    have nx : LN.Bd 100000 ((r - r * c % p * b) / p) := qd_bd p0 f0 f1 (Int.mul_ediv_cancel' dv).symm br bb
    refine ⟨_, fun σ' H' h => h, ?_⟩
    refine ⟨_, rfl, _, rfl, _, _, rfl, rfl, ⟨br.mono (by decide), (small7 c0 c1).mono (by decide)⟩, _, rfl, _, _, rfl, rfl, p0, ?_⟩
    refine ⟨_, rfl, .inl ⟨rfl, _, SqL.of hb⟩, _, rfl, a, _, _, rfl, rfl, hb, (by rw [List.length_map]; exact small3001 (by omega)), ?_⟩
    refine ⟨_, rfl, _, rfl, _, rfl, _, _, rfl, rfl, ⟨bf.mono (by decide), bb.mono (by decide)⟩, _, _, rfl, rfl, _, rfl, _, _, rfl, rfl, ⟨p0, hp.bd.mono (by decide)⟩, m - (ys.length + 1), by omega, ys ++ [r * c % p], (r - r * c % p * b) / p, _, rfl, ?_, same_upd (none_of g0 ka) g, ?_, ?_, ?_, nx⟩
    · rw [upd_same, List.map_append]
      rfl
    · rw [List.length_append]
      rfl
    · rw [List.length_append]
      show ys.length + 1 ≤ m
      omega
    · rw [e, List.length_append, show m - ys.length = (m - (ys.length + [r * c % p].length)) + 1 by show m - ys.length = (m - (ys.length + 1)) + 1; omega, List.append_assoc]
      rfl
  · rw [List.length_map] at ge
    refine ⟨_, rfl, q a _ g ?_⟩
    rw [e, show m - ys.length = 0 by omega]
    show _ = some (HO.lst (List.map V.int (ys ++ [])))
    rw [List.append_nil]
    exact hb
theorem ok_common_divisor (T : Txt K mg) : FnOk P w K mg base CX0 1 T.f_common_divisor T.d_common_divisor ["one", "other"] spGcd := by
  refine T.F_common_divisor.okq sc_common_divisor (fun vs H Q E h => ?_) (fun cdv A outer s H vs Q E hr h => ?_)
  · obtain ⟨x, y, rfl, _⟩ := h
    rfl
  obtain ⟨x, y, rfl, hx, hy, q⟩ := h
  refine ⟨_, (qpss_cons (qps_while PassesOwn.never (qpt_cmpR op_ne (qpv 1) qpe_int (nomark _)) (qpss_cons (qps_set (i := 2) sc_common_divisor.nd rfl (Or.inl rfl) (qpe_op op_mod (qpv 0) (qpv 1)))
    (qpss_cons (qps_set (i := 0) sc_common_divisor.nd rfl (Or.inl rfl) (qpv 1))
    (qpss_one (qps_set (i := 1) sc_common_divisor.nd rfl (Or.inl rfl) (qpv 2))))))
    (qpss_one (qps_ret (qpv 0)))), ?_⟩
  generalize eg : Nat.gcd x.natAbs y.natAbs = g at q
  refine ⟨fun m σ H2 => ∃ (x y : Int) (r : Option V), σ = [some (.int x), some (.int y), r] ∧ H2 = H ∧ 0 ≤ x ∧ 0 ≤ y ∧ Nat.gcd x.natAbs y.natAbs = g ∧ m = y.natAbs, ⟨_, x, y, none, rfl, rfl, hx, hy, eg, rfl⟩, ?_⟩
  clear hx hy eg x y
  rintro m σ H2 ⟨x, y, r, rfl, rfl, hx, hy, eg, rfl⟩
  refine ⟨_, rfl, rfl, _, rfl, iteN (fun hn => ?_) (fun h0 => ?_)⟩
  · have hp : 0 < y := by omega
    refine ⟨_, fun σ' H' h => h, ?_⟩
    refine ⟨_, rfl, _, rfl, _, _, rfl, rfl, hp, _, rfl, _, rfl, _, LN.mod_lt (x := x) hp, y, x % y, _, rfl, rfl, hy, Int.emod_nonneg _ hn, (LN.gcd_turnI hx hp).trans eg, rfl⟩
  · refine ⟨_, rfl, ?_⟩
    subst h0
    rw [← eg, LN.gcd_zero hx] at q
    exact q
theorem ok_is_fraction (T : Txt K mg) : FnOk P w K mg base CX0 2 T.f_is_fraction T.d_is_fraction ["thing"] (spFrT K) := by
  have G_is_whole := ok_is_whole (P := P) (w := w) (base := base) T
  have G_common_divisor := ok_common_divisor (P := P) (w := w) (base := base) T
  refine T.F_is_fraction.okq sc_is_fraction (fun vs H Q E h => ?_) (fun cdv A outer s H vs Q E hr h => ?_)
  · obtain ⟨v, b, rfl, _⟩ := h
    rfl
  obtain ⟨v, b, rfl, fr, q⟩ := h
  refine ⟨_, (qpss_cons (qps_if (QW.pt (qpw_or (qpt_not (qpt_val (qpe_callB call_inst rfl T.z_isinstance bt_isinstance (qpa_cons (hs := star_Name) (qpv 0) (qpa_cons (hs := star_Name) (qpe_bltn (v := .ty "tuple") rfl T.z_tuple bt_tuple rfl) qpa_nil))))) (qpw_or1 (qpt_cmpR op_ne (qpe_callB call_len_seq rfl T.z_len bt_len (qpa_cons (hs := star_Name) (qpv 0) qpa_nil)) qpe_int (nomark _))))) (qpss_one (qps_ret qpe_bl)) qpss_nil)
    (qpss_cons (qps_if (QW.pt (qpw_or (qpt_not (qpt_val (qpe_call G_is_whole hr rfl T.m_is_whole T.k_is_whole T.b_is_whole .nil pass0 (qpa_cons (hs := star_Subscript) (qpe_ix ix_tup (qpv 0) qpe_int (fun _ _ => rfl)) qpa_nil)))) (qpw_or1 (qpt_not (qpt_val (qpe_call G_is_whole hr rfl T.m_is_whole T.k_is_whole T.b_is_whole .nil pass0 (qpa_cons (hs := star_Subscript) (qpe_ix ix_tup (qpv 0) qpe_int (fun _ _ => rfl)) qpa_nil))))))) (qpss_one (qps_ret qpe_bl)) qpss_nil)
    (qpss_one (qps_ret (qpe_and (qpe_cmpR op_ge (qpe_ix ix_tup (qpv 0) qpe_int (fun _ _ => rfl)) qpe_int (nomark _)) (qpe_one (qpe_cmpR op_eq (qpe_call G_common_divisor hr rfl T.m_common_divisor T.k_common_divisor T.b_common_divisor .nil pass0 (qpa_cons (hs := star_Call) (qpe_callB call_abs rfl T.z_abs bt_abs (qpa_cons (hs := star_Subscript) (qpe_ix ix_tup (qpv 0) qpe_int (fun _ _ => rfl)) qpa_nil)) (qpa_cons (hs := star_Subscript) (qpe_ix ix_tup (qpv 0) qpe_int (fun _ _ => rfl)) qpa_nil))) qpe_int (nomark _)))))))), ?_⟩
  cases fr with
  | no k ty => exact ⟨_, rfl, _, _, _, false, rfl, ty, k.kit_tuple, _, rfl, iteT (iteT q)⟩
  | len h n => exact ⟨_, rfl, _, _, _, true, rfl, TyOf.tup h, Kind.tup.kit_tuple, _, rfl, iteF ⟨_, rfl, _, _, rfl, .inr (SqT.of h), rfl, _, rfl, iteN (fun _ => q) (fun z => absurd (Int.ofNat.inj z) n)⟩⟩
  | @part a x y h tx ty n =>
    refine ⟨_, rfl, _, _, _, true, rfl, TyOf.tup h, Kind.tup.kit_tuple, _, rfl, iteF ⟨_, rfl, _, _, rfl, .inr (SqT.of h), rfl, _, rfl, iteNS rfl ?_⟩⟩
    refine ⟨_, rfl, a, _, _, _, rfl, rfl, SqT.of h, at0, x, rfl, tx, _, rfl, ?_⟩
    cases hx : isI x with
    | false => exact iteT (iteT q)
    | true =>
      refine iteF ⟨_, rfl, a, _, _, _, rfl, rfl, SqT.of h, at1, y, rfl, ty, _, rfl, ?_⟩
      rw [hx] at n
      rw [n.resolve_left (fun z => nomatch z)]
      exact iteT q
  | @two a x y h b e =>
    refine ⟨_, rfl, _, _, _, true, rfl, TyOf.tup h, Kind.tup.kit_tuple, _, rfl, iteF ⟨_, rfl, _, _, rfl, .inr (SqT.of h), rfl, _, rfl, iteNS rfl ?_⟩⟩
    refine ⟨_, rfl, a, _, _, _, rfl, rfl, SqT.of h, at0, _, rfl, Thing.int x, _, rfl, iteF ?_⟩
    refine ⟨_, rfl, a, _, _, _, rfl, rfl, SqT.of h, at1, _, rfl, Thing.int y, _, rfl, iteF ?_⟩
    refine ⟨_, rfl, a, _, _, _, rfl, rfl, SqT.of h, at1, _, _, rfl, rfl, _, rfl, iteG (fun z => ?_) (fun z => ?_)⟩
    · refine ⟨_, rfl, a, _, _, _, rfl, rfl, SqT.of h, at0, x, rfl, _, rfl, a, _, _, _, rfl, rfl, SqT.of h, at1, _, _, rfl, LN.abs_nn x, by omega, rfl, ?_⟩
      have e2 : decide (V.int ((Nat.gcd (if x < 0 then -x else x).natAbs y.natAbs : Nat) : Int) = V.int 1) = b := by
        rw [LN.abs_abs, e, decide_eq_true z, Bool.true_and, decide_eq_decide]
        exact ⟨fun q => Int.ofNat.inj (V.int.inj q), fun q => by rw [q]; rfl⟩
      rw [← e2] at q
      exact q
    · rw [decide_eq_false z, Bool.false_and] at e
      rw [e] at q
      exact q
theorem ok_without_prime (T : Txt K mg) : FnOk P w K mg base CX0 2 T.f_without_prime T.d_without_prime ["p", "one"] spWo := by
  have G_exponent := ok_exponent (P := P) (w := w) (base := base) T
  have G_power_of := ok_power_of (P := P) (w := w) (base := base) T
  refine T.F_without_prime.okq sc_without_prime (fun vs H Q E h => ?_) (fun cdv A outer s H vs Q E hr h => ?_)
  · obtain ⟨p, x, y, c, rfl, _⟩ := h
    rfl
  obtain ⟨p, x, y, c, rfl, hp, hc, hx, hy, bx, by', q⟩ := h
  have p2 := hp.two
  have p0 : 0 < p := by omega
  refine ⟨_, (qpss_one (qps_ret (qpe_tup (qpa_cons (hs := star_BinOp) (qpe_op op_fdivB (qpe_ix ix_tup (qpv 1) qpe_int (fun _ _ => rfl)) (qpe_call G_power_of hr rfl T.m_power_of T.k_power_of T.b_power_of .nil pass0 (qpa_cons (hs := star_Name) (qpv 0) (qpa_cons (hs := star_Call) (qpe_call G_exponent hr rfl T.m_exponent T.k_exponent T.b_exponent .nil pass0 (qpa_cons (hs := star_Name) (qpv 0) (qpa_cons (hs := star_Subscript) (qpe_ix ix_tup (qpv 1) qpe_int (fun _ _ => rfl)) qpa_nil))) qpa_nil)))) (qpa_cons (hs := star_BinOp) (qpe_op op_fdivB (qpe_ix ix_tup (qpv 1) qpe_int (fun _ _ => rfl)) (qpe_call G_power_of hr rfl T.m_power_of T.k_power_of T.b_power_of .nil pass0 (qpa_cons (hs := star_Name) (qpv 0) (qpa_cons (hs := star_Call) (qpe_call G_exponent hr rfl T.m_exponent T.k_exponent T.b_exponent .nil pass0 (qpa_cons (hs := star_Name) (qpv 0) (qpa_cons (hs := star_Subscript) (qpe_ix ix_tup (qpv 1) qpe_int (fun _ _ => rfl)) qpa_nil))) qpa_nil)))) qpa_nil))))), ?_⟩
  refine ⟨_, rfl, c, _, _, _, rfl, rfl, SqT.of hc, rfl, _, rfl, _, rfl, _, rfl, c, _, _, _, rfl, rfl, SqT.of hc, rfl, p, x, rfl, p2, hx, bx.mono (by decide), fun s x' H1 g1 es ns => ?_⟩
  have ls := exq_le p2 hx ⟨x', es, ns⟩ bx
  refine ⟨p, s, rfl, hp.bd.mono (by decide), by omega, _, _, rfl, rfl, ⟨Int.pow_pos p0, (pow_bd hx es bx).mono (by decide)⟩, ?_⟩
  have hc1 := g1 _ _ hc
  refine ⟨_, rfl, c, _, _, _, rfl, rfl, SqT.of hc1, rfl, _, rfl, _, rfl, _, rfl, c, _, _, _, rfl, rfl, SqT.of hc1, rfl, p, y, rfl, p2, hy, by'.mono (by decide), fun r y' H2 g2 er nr => ?_⟩
  have lr := exq_le p2 hy ⟨y', er, nr⟩ by'
  refine ⟨p, r, rfl, hp.bd.mono (by decide), by omega, _, _, rfl, rfl, ⟨Int.pow_pos p0, (pow_bd hy er by').mono (by decide)⟩, ?_⟩
  refine ⟨small (by show 2 ≤ 1000; decide), fun t kt => q s r x' y' es ns er nr t _ (g1.trans (g2.trans (same_new kt _))) ?_⟩
  refine (show _ = some (HO.tup [.int x', .int y']) from upd_same.trans ?_)
  show some (HO.tup [.int (x / p ^ s), .int (y / p ^ r)]) = _
  rw [show x / p ^ s = x' by rw [es]; exact pow_div p0, show y / p ^ r = y' by rw [er]; exact pow_div p0]
theorem ok_exponent_of3 (T : Txt K mg) : FnOk P w K mg base CX0 2 T.f_exponent_of T.d_exponent_of ["p", "one"] spXo := by
  have G_exponent := ok_exponent (P := P) (w := w) (base := base) T
  refine T.F_exponent_of.okq sc_exponent_of (fun vs H Q E h => ?_) (fun cdv A outer s H vs Q E hr h => ?_)
  · obtain ⟨p, x, y, c, rfl, _⟩ := h
    rfl
  obtain ⟨p, x, y, c, rfl, hp, hc, hx, hy, bx, by', q⟩ := h
  have p2 := hp.two
  refine ⟨_, (qpss_one (qps_ret (qpe_op op_sub (qpe_call G_exponent hr rfl T.m_exponent T.k_exponent T.b_exponent .nil pass0 (qpa_cons (hs := star_Name) (qpv 0) (qpa_cons (hs := star_Subscript) (qpe_ix ix_tup (qpv 1) qpe_int (fun _ _ => rfl)) qpa_nil))) (qpe_call G_exponent hr rfl T.m_exponent T.k_exponent T.b_exponent .nil pass0 (qpa_cons (hs := star_Name) (qpv 0) (qpa_cons (hs := star_Subscript) (qpe_ix ix_tup (qpv 1) qpe_int (fun _ _ => rfl)) qpa_nil)))))), ?_⟩
  refine ⟨_, rfl, _, rfl, c, _, _, _, rfl, rfl, SqT.of hc, rfl, p, x, rfl, p2, hx, bx.mono (by decide), fun s x' H1 g1 es ns => ?_⟩
  have hc1 := g1 _ _ hc
  refine ⟨_, rfl, _, rfl, c, _, _, _, rfl, rfl, SqT.of hc1, rfl, p, y, rfl, p2, hy, by'.mono (by decide), fun r y' H2 g2 er nr => ?_⟩
  exact ⟨_, _, rfl, rfl, q s r ⟨x', es, ns⟩ ⟨y', er, nr⟩ H2 (g1.trans g2)⟩
theorem ok_seen_left (T : Txt K mg) : FnOk P w K mg base (CX2 P w) 4 T.f_seen_left T.d_seen_left ["p", "part", "place"] (spSeen K T.a_NoPrime T.a_NoPlace T.a_NoFraction (wSeen K)) := by
  have G_is_prime := (ok_is_prime (P := P) (w := w) (base := base) T).mono (k := 3) (by decide)
  have G_is_whole := (ok_is_whole (P := P) (w := w) (base := base) T).mono (k := 3) (by decide)
  have G_is_fraction := (ok_is_fraction (P := P) (w := w) (base := base) T).mono (k := 3) (by decide)
  have G_without_prime := (ok_without_prime (P := P) (w := w) (base := base) T).mono (k := 3) (by decide)
  have G_exponent_of := (ok_exponent_of3 (P := P) (w := w) (base := base) T).mono (k := 3) (by decide)
  have G_first_figures := (ok_first_figures3 (P := P) (w := w) (base := base) T).mono (k := 3) (by decide)
  have G_left_number := ok_left_number (P := P) (w := w) (base := base) T
  refine T.F_seen_left.toD.ok2 sc_seen_left (fun vs H Q E h => ?_) (fun cdv A outer s H vs Q E hr h => ?_)
  · obtain ⟨pv, v, ev, b, rfl, _⟩ := h
    rfl
  obtain ⟨pv, v, ev, b, rfl, tp, te, fr, hP, hN, hF, q⟩ := h
  have s1 : ∀ {x : V}, ([x] : List V).length ≤ sizeLine := small (by show 1 ≤ 1000; decide)
  refine ⟨_, (qpss_cons (qps_if (qpt_not (qpt_val (qpe_call G_is_prime hr rfl T.m_is_prime T.k_is_prime T.b_is_prime .nil pass0 (qpa_cons (hs := star_Name) (qpv 0) qpa_nil)))) (qpss_one (qps_raise throws_new2 rfl T.m_NoPrime T.x_NoPrime rfl (qpa_cons (hs := star_Constant) qpe_str qpa_nil))) qpss_nil)
    (qpss_cons (qps_if (qpt_not (qpt_val (qpe_call G_is_whole hr rfl T.m_is_whole T.k_is_whole T.b_is_whole .nil pass0 (qpa_cons (hs := star_Name) (qpv 2) qpa_nil)))) (qpss_one (qps_raise throws_new2 rfl T.m_NoPlace T.x_NoPlace rfl (qpa_cons (hs := star_Constant) qpe_str qpa_nil))) qpss_nil)
    (qpss_cons (qps_if (qpt_not (qpt_val (qpe_call G_is_fraction hr rfl T.m_is_fraction T.k_is_fraction T.b_is_fraction .nil pass0 (qpa_cons (hs := star_Name) (qpv 1) qpa_nil)))) (qpss_one (qps_raise throws_new2 rfl T.m_NoFraction T.x_NoFraction rfl (qpa_cons (hs := star_Constant) qpe_str qpa_nil))) qpss_nil)
    (qpss_cons (qps_if (QW.pt (qpw_or (qpt_cmpR op_eq (qpe_ix ix_tup (qpv 1) qpe_int (fun _ _ => rfl)) qpe_int (nomark _)) (qpw_or1 (qpt_cmpR op_ge (qpe_call G_exponent_of hr rfl T.m_exponent_of T.k_exponent_of T.b_exponent_of .nil pass0 (qpa_cons (hs := star_Name) (qpv 0) (qpa_cons (hs := star_Name) (qpv 1) qpa_nil))) (qpv 2) (nomark _))))) (qpss_one (qps_ret (qpe_tup (qpa_cons (hs := star_Name) (qpv 0) (qpa_cons (hs := star_Name) (qpv 2) (qpa_cons (hs := star_Tuple) (qpe_tup qpa_nil) qpa_nil)))))) qpss_nil)
    (qpss_cons (qps_set (i := 3) sc_seen_left.nd rfl (Or.inl rfl) (qpe_call G_exponent_of hr rfl T.m_exponent_of T.k_exponent_of T.b_exponent_of .nil pass0 (qpa_cons (hs := star_Name) (qpv 0) (qpa_cons (hs := star_Name) (qpv 1) qpa_nil))))
    (qpss_cons (qps_set (i := 4) sc_seen_left.nd rfl (Or.inl rfl) (qpe_call G_without_prime hr rfl T.m_without_prime T.k_without_prime T.b_without_prime .nil pass0 (qpa_cons (hs := star_Name) (qpv 0) (qpa_cons (hs := star_Name) (qpv 1) qpa_nil))))
    (qpss_one (qps_ret (qpe_call G_left_number hr rfl T.m_left_number T.k_left_number T.b_left_number .nil pass2 (qpa_cons (hs := star_Name) (qpv 0) (qpa_cons (hs := star_Name) (qpv 3) (qpa_cons (hs := star_Call) (qpe_call G_first_figures hr rfl T.m_first_figures T.k_first_figures T.b_first_figures .nil pass0 (qpa_cons (hs := star_Name) (qpv 0) (qpa_cons (hs := star_Subscript) (qpe_ix ix_tup (qpv 4) qpe_int (fun _ _ => rfl)) (qpa_cons (hs := star_Subscript) (qpe_ix ix_tup (qpv 4) qpe_int (fun _ _ => rfl)) (qpa_cons (hs := star_BinOp) (qpe_op op_sub (qpv 2) (qpv 3)) qpa_nil))))) qpa_nil)))))))))))), ?_⟩
  refine ⟨_, rfl, pv, rfl, tp, _, rfl, ?_⟩
  cases ip : isPr pv with
  | false => exact iteT ⟨s1, hP ip _ (Same.refl _)⟩
  | true =>
  refine iteF ⟨_, rfl, ev, rfl, te, _, rfl, ?_⟩
  cases ie : isI ev with
  | false => exact iteT ⟨s1, hN ip ie _ (Same.refl _)⟩
  | true =>
  refine iteF ⟨_, rfl, v, b, rfl, fr, _, rfl, ?_⟩
  cases b with
  | false => exact iteT ⟨s1, hF ip ie rfl _ (Same.refl _)⟩
  | true =>
  obtain ⟨c, x, y, rfl, hc, y1⟩ := fr.true_at
  obtain ⟨p, rfl, hp⟩ : ∃ p, pv = .int p ∧ Pr p := by
    cases pv with
    | int p => exact ⟨p, rfl, of_decide_eq_true ip⟩
    | _ => cases ip
  obtain ⟨e, rfl⟩ : ∃ e, ev = .int e := by
    cases ev with
    | int e => exact ⟨e, rfl⟩
    | _ => cases ie
  obtain ⟨e1, e2, bx, by', q⟩ := q p e x y c rfl hp rfl rfl hc rfl
  have hc' : H c = some (.tup [.int x, .int y]) := hc
  have p2 := hp.two
  have p0 : 0 < p := by omega
  have hy : y ≠ 0 := by omega
  have bare : ∀ {H1 : Hp} {d r : Addr}, Same H H1 → H1 d = none → upd H1 d (.tup []) r = none → IsSeen p x y e e [] → Q (.ref r) (upd (upd H1 d (.tup [])) r (.tup [.int p, .int e, .ref d])) := fun {H1 d r} g kd kr w => q _ _ (g.trans ((same_new kd _).trans (same_new kr _))) ⟨r, e, [], rfl, ⟨d, upd_same, (same_new kr _) _ _ upd_same⟩, Figs.nil, (fun z => nomatch z), w⟩
  have ee : endL e [] = e := Int.add_zero _
  refine iteF ⟨_, rfl, c, _, _, _, rfl, rfl, SqT.of hc', rfl, rfl, _, rfl, ?_⟩
  by_cases hx : x = 0
  · subst hx
    refine iteT (iteT ⟨_, rfl, _, rfl, small (by show 0 ≤ 1000; decide), fun d kd => ⟨small (by show 3 ≤ 1000; decide), fun r kr => bare (Same.refl _) kd kr ⟨ee, fun _ => rfl, fun z => absurd rfl z⟩⟩⟩)
  refine iteIF hx ⟨_, rfl, _, rfl, p, x, y, c, rfl, hp, hc, hx, hy, bx, by', fun s r es er H1 g1 => ⟨_, rfl, _, _, rfl, rfl, _, rfl, iteG (fun le => ?_) (fun gt => ?_)⟩⟩
  · obtain ⟨x', ex, nx⟩ := es
    obtain ⟨y', ey, ny⟩ := er
    exact ⟨_, rfl, _, rfl, small (by show 0 ≤ 1000; decide), fun d kd => ⟨small (by show 3 ≤ 1000; decide), fun r' kr => bare g1 kd kr ⟨ee, fun _ => rfl, fun _ => ⟨s, r, x', y', ex, nx, ey, ny, .inl ⟨le, rfl⟩⟩⟩⟩⟩
  refine ⟨_, rfl, _, rfl, p, x, y, c, rfl, hp, g1 _ _ hc', hx, hy, bx, by', fun s2 r2 es2 er2 H2 g2 => ?_⟩
  obtain rfl := LN.Exq.one p2 es2 es
  obtain rfl := LN.Exq.one p2 er2 er
  have g12 := g1.trans g2
  refine ⟨_, rfl, _, rfl, p, x, y, c, rfl, hp, g12 _ _ hc', hx, hy, bx, by', fun s3 r3 x' y' ex nx ey ny t H3 g3 ht => ?_⟩
  obtain rfl := LN.Exq.one p2 ⟨x', ex, nx⟩ es
  obtain rfl := LN.Exq.one p2 ⟨y', ey, ny⟩ er
  have ht' : H3 t = some (.tup [.int x', .int y']) := ht
  have lts := exq_le p2 hx es bx
  have ltr := exq_le p2 hy er by'
  obtain ⟨m, hm⟩ : ∃ m : Nat, e - ((s3 : Int) - (r3 : Int)) = (m : Int) := ⟨(e - ((s3 : Int) - (r3 : Int))).toNat, by omega⟩
  have hcb := back_ok hp ny
  have fg : Figs p (qdigs p y' (backOf p y') m x') := qdigs_figs p0
  refine ⟨_, rfl, _, rfl, _, rfl, _, rfl, t, _, _, _, rfl, rfl, SqT.of ht', rfl, _, rfl, t, _, _, _, rfl, rfl, SqT.of ht', rfl, _, rfl, _, rfl, _, _, rfl, rfl, p, x', y', m, ?_, hp, by omega, ny, (rest_bd hx ex bx).mono (by decide), (rest_bd hy ey by').mono (by decide), fun b H4 g4 hb => ?_⟩
  · rw [← hm]
    rfl
  refine ⟨.int p, .int ((s3 : Int) - (r3 : Int)), .ref b, .inr (p, (s3 : Int) - (r3 : Int), qdigs p y' (backOf p y') m x'), rfl, .good hp (LN.Bd.of_abs (b := 1000) (by omega) (by omega) (by decide)) (.ok (.inl (SqL.of hb)) fg (by rw [qdigs_len]; omega)), (fun k e => nomatch e), fun p' l' fs' ev a' H' g' lr => ?_⟩
  cases ev
  have top : (qdigs p y' (backOf p y') m x').head? ≠ some 0 := qdigs_top hcb nx _
  rw [lead_top top, List.drop_zero, show (s3 : Int) - (r3 : Int) + ((0 : Nat) : Int) = (s3 : Int) - (r3 : Int) by omega] at lr
  refine q _ _ (g12.trans (g3.trans (g4.trans g'))) ⟨a', _, _, rfl, lr, fg, top, ?_, fun z => absurd z hx, fun _ => ⟨s3, r3, x', y', ex, nx, ey, ny, .inr ⟨by omega, rfl, ?_⟩⟩⟩
  · unfold endL
    rw [qdigs_len]
    omega
  · rw [qdigs_len]
    obtain ⟨k, hk⟩ := qdigs_cong p0 hcb m x'
    exact ⟨-k, by grind⟩
theorem ok_size_of (T : Txt K mg) : FnOk P w K mg base CX0 3 T.f_size_of T.d_size_of ["p", "part"] spSize := by
  have G_without_prime := ok_without_prime (P := P) (w := w) (base := base) T
  refine T.F_size_of.okq sc_size_of (fun vs H Q E h => ?_) (fun cdv A outer s H vs Q E hr h => ?_)
  · obtain ⟨p, x, y, c, rfl, _⟩ := h
    rfl
  obtain ⟨p, x, y, c, rfl, hp, hc, hx, hy, bx, by', q⟩ := h
  refine ⟨_, (qpss_cons (qps_set (i := 2) sc_size_of.nd rfl (Or.inl rfl) (qpe_call G_without_prime hr rfl T.m_without_prime T.k_without_prime T.b_without_prime .nil pass0 (qpa_cons (hs := star_Name) (qpv 0) (qpa_cons (hs := star_Name) (qpv 1) qpa_nil))))
    (qpss_one (qps_ret (qpe_callB (call_max2 rfl) rfl T.z_max bt_max (qpa_cons (hs := star_Call) (qpe_callB call_abs rfl T.z_abs bt_abs (qpa_cons (hs := star_Subscript) (qpe_ix ix_tup (qpv 2) qpe_int (fun _ _ => rfl)) qpa_nil)) (qpa_cons (hs := star_Subscript) (qpe_ix ix_tup (qpv 2) qpe_int (fun _ _ => rfl)) qpa_nil)))))), ?_⟩
  refine ⟨_, rfl, _, rfl, p, x, y, c, rfl, hp, hc, hx, by omega, bx, by', fun s r x' y' ex nx ey ny t H1 g1 ht => ?_⟩
  have ht' : H1 t = some (.tup [.int x', .int y']) := ht
  exact ⟨_, rfl, t, _, _, _, rfl, rfl, SqT.of ht', rfl, x', rfl, _, rfl, t, _, _, _, rfl, rfl, SqT.of ht', rfl, _, _, rfl, q s r x' y' ex nx ey ny H1 g1⟩
theorem ok_fraction (T : Txt K mg) : FnOk P w K mg base (CX2 P w) 2 T.f_fraction T.d_fraction ["top", "bottom"] (spFrac K T.a_NoFraction) := by
  have G_is_whole := ok_is_whole (P := P) (w := w) (base := base) T
  have G_common_divisor := ok_common_divisor (P := P) (w := w) (base := base) T
  refine T.F_fraction.ok2 sc_fraction (fun vs H Q E h => ?_) (fun cdv A outer s H vs Q E hr h => ?_)
  · obtain ⟨x, y, rfl, _⟩ := h
    rfl
  obtain ⟨v1, v2, rfl, th1, th2, q, hE⟩ := h
  refine ⟨_, (qpss_cons (qps_if (QW.pt (qpw_or (qpt_not (qpt_val (qpe_call G_is_whole hr rfl T.m_is_whole T.k_is_whole T.b_is_whole .nil pass0 (qpa_cons (hs := star_Name) (qpv 0) qpa_nil)))) (qpw_or (qpt_not (qpt_val (qpe_call G_is_whole hr rfl T.m_is_whole T.k_is_whole T.b_is_whole .nil pass0 (qpa_cons (hs := star_Name) (qpv 1) qpa_nil)))) (qpw_or1 (qpt_cmpR op_eq (qpv 1) qpe_int (nomark _)))))) (qpss_one (qps_raise throws_new2 rfl T.m_NoFraction T.x_NoFraction rfl (qpa_cons (hs := star_Constant) qpe_str qpa_nil))) qpss_nil)
    (qpss_cons (qps_set (i := 2) sc_fraction.nd rfl (Or.inl rfl) (qpe_call G_common_divisor hr rfl T.m_common_divisor T.k_common_divisor T.b_common_divisor .nil pass0 (qpa_cons (hs := star_Call) (qpe_callB call_abs rfl T.z_abs bt_abs (qpa_cons (hs := star_Name) (qpv 0) qpa_nil)) (qpa_cons (hs := star_Call) (qpe_callB call_abs rfl T.z_abs bt_abs (qpa_cons (hs := star_Name) (qpv 1) qpa_nil)) qpa_nil))))
    (qpss_cons (qps_if (qpt_cmpR op_lt (qpv 1) qpe_int (nomark _)) (qpss_one (qps_set (i := 2) sc_fraction.nd rfl (Or.inl rfl) (qpe_un un_neg (qpv 2)))) qpss_nil)
    (qpss_one (qps_ret (qpe_tup (qpa_cons (hs := star_BinOp) (qpe_op op_fdivN2 (qpv 0) (qpv 2)) (qpa_cons (hs := star_BinOp) (qpe_op op_fdivN2 (qpv 1) (qpv 2)) qpa_nil)))))))), ?_⟩
  refine ⟨_, rfl, v1, rfl, th1, _, rfl, ?_⟩
  cases hi1 : isI v1 with
  | false => exact iteT (iteT ⟨small (by show 1 ≤ 1000; decide), hE (.inl hi1)⟩)
  | true =>
    refine iteF ⟨_, rfl, v2, rfl, th2, _, rfl, ?_⟩
    cases hi2 : isI v2 with
    | false => exact iteT (iteT ⟨small (by show 1 ≤ 1000; decide), hE (.inr (.inl hi2))⟩)
    | true =>
      obtain ⟨t, rfl⟩ := isI_int hi1
      obtain ⟨b, rfl⟩ := isI_int hi2
      refine iteF ⟨_, rfl, rfl, _, rfl, iteI (fun e => ⟨small (by show 1 ≤ 1000; decide), hE (.inr (.inr (by rw [e])))⟩) (fun hb => ?_)⟩
      obtain ⟨b1, b2, q⟩ := q t b rfl rfl hb
      refine ⟨_, rfl, t, rfl, _, rfl, b, rfl, _, _, rfl, LN.abs_nn t, LN.abs_nn b, ?_⟩
      rw [LN.abs_abs, LN.abs_abs]
      have c0 := LN.gcd_ne (t := t) hb
      have cb := (LN.gcd_bd (t := t) hb b2).mono (n := 8000) (by decide)
      refine ⟨_, rfl, _, _, rfl, rfl, _, rfl, iteL (fun hn => ?_) (fun hn => ?_)⟩
      · refine ⟨_, rfl, _, rfl, ?_⟩
        refine ⟨_, rfl, _, rfl, _, _, rfl, rfl, ⟨by omega, cb.neg⟩, _, rfl, _, rfl, _, _, rfl, rfl, ⟨by omega, cb.neg⟩, small (by show 2 ≤ 1000; decide), fun p hp => ?_⟩
        exact q p _ _ _ (same_new hp _) upd_same (LN.Low.of rfl hb (by omega) (by omega) (by omega))
      · refine ⟨_, rfl, _, rfl, _, _, rfl, rfl, ⟨c0, cb⟩, _, rfl, _, rfl, _, _, rfl, rfl, ⟨c0, cb⟩, small (by show 2 ≤ 1000; decide), fun p hp => ?_⟩
        exact q p _ _ _ (same_new hp _) upd_same (LN.Low.of rfl hb (by omega) (by omega) (by omega))
theorem ok_known_of (T : Txt K mg) : FnOk P w K mg base CX0 1 T.f_known_of T.d_known_of ["one"] (spKnownOf K) := by
  refine T.F_known_of.okq sc_known_of (fun vs H Q E h => ?_) (fun cdv A outer s H vs Q E hr h => ?_)
  · obtain ⟨a, p, l, fs, rfl, _⟩ := h
    rfl
  obtain ⟨a, p, l, fs, rfl, lf, q⟩ := h
  obtain ⟨c, h1, h2⟩ := lf.at'
  refine ⟨_, (qpss_one (qps_ret (qpe_callB call_len_seq rfl T.z_len bt_len (qpa_cons (hs := star_Subscript) (qpe_ix ix_tup (qpv 0) qpe_int (fun _ _ => rfl)) qpa_nil)))), ?_⟩
  refine ⟨_, rfl, a, _, _, _, rfl, rfl, SqT.of h1, rfl, c, _, rfl, .inr (SqT.of h2), ?_⟩
  rw [List.length_map]
  exact q _ (Same.refl _)
theorem ok_number_of (T : Txt K mg) : FnOk P w K mg base CX0 1 T.f_number_of T.d_number_of ["p", "figures"] spNumOf := by
  refine T.F_number_of.okq sc_number_of (fun vs H Q E h => ?_) (fun cdv A outer s H vs Q E hr h => ?_)
  · obtain ⟨p, c, rs, rfl, _⟩ := h
    rfl
  obtain ⟨p, c, rs, rfl, h2, hp, fr, few, q⟩ := h
  refine ⟨_, (qpss_cons (qps_set (i := 2) sc_number_of.nd rfl (Or.inl rfl) qpe_int)
    (qpss_cons (qps_for PassesOwn.never rfl (qpi_revT rfl T.z_reversed (qpa_cons (hs := star_Name) (qpv 1) qpa_nil)) (qpg_name (i := 3) sc_number_of.nd rfl (Or.inl rfl)) (qpss_one (qps_set (i := 2) sc_number_of.nd rfl (Or.inl rfl) (qpe_op op_add (qpe_op op_mulB (qpv 2) (qpv 0)) (qpv 3)))))
    (qpss_one (qps_ret (qpv 2))))), ?_⟩
  refine ⟨_, rfl, c, _, rfl, SqT.of h2, ?_⟩
  refine for_revT (fun i σ H' => H' = H ∧ ∃ v2 : Option V, σ = [some (.int p), some (.ref c), some (.int (un p (rs.drop (rs.length - i)))), v2]) ⟨rfl, none, by rw [Nat.sub_zero, List.drop_length]; rfl⟩ (fun i σ H' _ z => by rw [z.1]; exact SqT.of h2) ?_ ?_
  · rintro i x σ H' hx hi ⟨rfl, v4, rfl⟩
    rw [List.length_map] at hx hi
    rw [List.getElem?_map] at hx
    cases hf : rs[rs.length - 1 - i]? with
    | none => rw [hf] at hx; cases hx
    | some f =>
      rw [hf] at hx
      cases hx
      refine ⟨_, rfl, _, rfl, _, _, rfl, rfl, ⟨hp.un (n := 1000000) (fr.drop _) (by rw [List.length_drop]; omega), hp.bd.mono (by decide)⟩, _, rfl, _, _, rfl, rfl, rfl, some (.int f), ?_⟩
      rw [← un_back hf hi]
      rfl
  rintro σ H' ⟨rfl, v4, rfl⟩
  rw [List.length_map, Nat.sub_self, List.drop_zero]
  exact ⟨_, rfl, q _ (Same.refl _)⟩
theorem ok_unit_of (T : Txt K mg) : FnOk P w K mg base CX0 2 T.f_unit_of T.d_unit_of ["one"] (spUnitOf K) := by
  have G_number_of := ok_number_of (P := P) (w := w) (base := base) T
  refine T.F_unit_of.okq sc_unit_of (fun vs H Q E h => ?_) (fun cdv A outer s H vs Q E hr h => ?_)
  · obtain ⟨a, p, l, fs, rfl, _⟩ := h
    rfl
  obtain ⟨a, p, l, rs, rfl, lf, q⟩ := h
  obtain ⟨c, h1, h2⟩ := lf.at'
  refine ⟨_, (qpss_one (qps_ret (qpe_call G_number_of hr rfl T.m_number_of T.k_number_of T.b_number_of .nil pass0 (qpa_cons (hs := star_Subscript) (qpe_ix ix_tup (qpv 0) qpe_int (fun _ _ => rfl)) (qpa_cons (hs := star_Subscript) (qpe_ix ix_tup (qpv 0) qpe_int (fun _ _ => rfl)) qpa_nil))))), ?_⟩
  exact ⟨_, rfl, a, _, _, _, rfl, rfl, SqT.of h1, rfl, _, rfl, a, _, _, _, rfl, rfl, SqT.of h1, rfl, p, c, rs, rfl, h2, lf.pr, lf.fig, lf.few, fun H' g => q _ g⟩
theorem ok_paper_of (T : Txt K mg) : FnOk P w K mg base CX0 1 T.f_paper_of T.d_paper_of ["power", "unit", "size"] spPaper := by
  refine T.F_paper_of.okq sc_paper_of (fun vs H Q E h => ?_) (fun cdv A outer s H vs Q E hr h => ?_)
  · obtain ⟨W, u, S, rfl, _⟩ := h
    rfl
  obtain ⟨W, u, S, rfl, bW, u0, u1, S1, SW, q⟩ := h
  have s2 : ∀ {x y : V}, ([x, y] : List V).length ≤ sizeLine := small (by show 2 ≤ 1000; decide)
  refine ⟨_, (qpss_cons (qps_set (i := 3) sc_paper_of.nd rfl (Or.inl rfl) (qpe_tup (qpa_cons (hs := star_Name) (qpv 0) (qpa_cons (hs := star_Constant) qpe_int qpa_nil))))
    (qpss_cons (qps_set (i := 4) sc_paper_of.nd rfl (Or.inl rfl) (qpe_tup (qpa_cons (hs := star_Name) (qpv 1) (qpa_cons (hs := star_Constant) qpe_int qpa_nil))))
    (qpss_cons (qps_while PassesOwn.never (qpt_cmpR op_gt (qpe_ix ix_tup (qpv 4) qpe_int (fun _ _ => rfl)) (qpv 2) (nomark _)) (qpss_cons (qps_set (i := 5) sc_paper_of.nd rfl (Or.inl rfl) (qpe_op op_fdivB (qpe_ix ix_tup (qpv 3) qpe_int (fun _ _ => rfl)) (qpe_ix ix_tup (qpv 4) qpe_int (fun _ _ => rfl))))
    (qpss_cons (qps_set (i := 6) sc_paper_of.nd rfl (Or.inl rfl) (qpe_tup (qpa_cons (hs := star_BinOp) (qpe_op op_sub (qpe_ix ix_tup (qpv 3) qpe_int (fun _ _ => rfl)) (qpe_op op_mulB (qpv 5) (qpe_ix ix_tup (qpv 4) qpe_int (fun _ _ => rfl)))) (qpa_cons (hs := star_BinOp) (qpe_op op_sub (qpe_ix ix_tup (qpv 3) qpe_int (fun _ _ => rfl)) (qpe_op op_mulB (qpv 5) (qpe_ix ix_tup (qpv 4) qpe_int (fun _ _ => rfl)))) qpa_nil))))
    (qpss_cons (qps_set (i := 3) sc_paper_of.nd rfl (Or.inl rfl) (qpv 4))
    (qpss_one (qps_set (i := 4) sc_paper_of.nd rfl (Or.inl rfl) (qpv 6)))))))
    (qpss_one (qps_ret (qpe_tup (qpa_cons (hs := star_Name) (qpv 3) (qpa_cons (hs := star_Name) (qpv 4) qpa_nil)))))))), ?_⟩
  refine ⟨_, rfl, s2, fun a0 k0 => ⟨_, rfl, s2, fun b0 k1 => ?_⟩⟩
  have g0 := same_new k0 (.tup [.int W, .int 0])
  have g1 := same_new k1 (.tup [.int u, .int 1])
  change tSeq (tWhile _ _) _ _ _ _
  refine ⟨fun m σ H2 => ∃ (a b : Addr) (r s v w : Int) (n : Nat) (o1 o2 : Option V), σ = [some (.int W), some (.int u), some (.int S), some (.ref a), some (.ref b), o1, o2] ∧ m = v.toNat ∧ Same H H2 ∧ H2 a = some (.tup [.int r, .int s]) ∧ H2 b = some (.tup [.int v, .int w]) ∧ Rows W u S r s v w ∧ r ≤ W ∧ v.toNat ≤ n ∧ eucl S u.toNat W 0 u 1 = eucl S n r s v w,
    ⟨_, a0, b0, W, 0, u, 1, u.toNat, none, none, rfl, rfl, g0.trans g1, g1 _ _ upd_same, upd_same, Rows.start SW u0 u1, Int.le_refl _, Nat.le_refl _, rfl⟩, ?_⟩
  rintro m σ H2 ⟨a, b, r, s, v, w, n, o1, o2, rfl, rfl, g, ha, hb, R, rW, hn, e⟩
  refine ⟨_, rfl, b, _, _, _, rfl, rfl, SqT.of hb, rfl, _, rfl, _, _, rfl, rfl, _, rfl, iteP (fun lt => ?_) (fun ge => ?_)⟩
  · refine ⟨_, fun σ' H' h => h, ?_⟩
    have v0 : 0 < v := by omega
    have R' := R.step (by omega) lt
    have vr := R.lt
    have wW := rows_le R (by omega) (by omega) v0
    have br : LN.Bd 3000 r := bW.of_le (by omega)
    have bv : LN.Bd 3000 v := bW.of_le (by omega)
    have bw : LN.Bd 3000 w := bW.of_le (by omega)
    have q0 : 0 ≤ r / v := Int.ediv_nonneg (by omega) (by omega)
    have q1 : r / v ≤ r := Int.ediv_le_self _ (by omega)
    have bq : LN.Bd 3000 (r / v) := bW.of_le (by omega)
    refine ⟨_, rfl, a, _, _, _, rfl, rfl, SqT.of ha, rfl, _, rfl, b, _, _, _, rfl, rfl, SqT.of hb, rfl, _, _, rfl, rfl, ⟨by omega, bv.mono (by decide)⟩, ?_⟩
    refine ⟨_, rfl, a, _, _, _, rfl, rfl, SqT.of ha, rfl, _, rfl, _, rfl, b, _, _, _, rfl, rfl, SqT.of hb, rfl, _, _, rfl, rfl, ⟨bq.mono (by decide), bv.mono (by decide)⟩, _, _, rfl, rfl, _, rfl, a, _, _, _, rfl, rfl, SqT.of ha, rfl, _, rfl, _, rfl, b, _, _, _, rfl, rfl, SqT.of hb, rfl, _, _, rfl, rfl, ⟨bq.mono (by decide), bw.mono (by decide)⟩, _, _, rfl, rfl, s2, fun c kc => ?_⟩
    have gc := same_new kc (.tup [.int (r - r / v * v), .int (s - r / v * w)])
    obtain ⟨n', rfl⟩ : ∃ n', n = n' + 1 := ⟨n - 1, by omega⟩
    rw [eucl_step lt] at e
    have l' := R'.lt
    have v0' := R'.v0
    exact ⟨_, rfl, _, rfl, (r - r / v * v).toNat, by omega, b, c, v, w, _, _, n', _, _, rfl, rfl, g.trans gc, gc _ _ hb, upd_same, R', by omega, by omega, e⟩
  · rw [eucl_stop ge] at e
    refine ⟨_, rfl, _, rfl, s2, fun c kc => ?_⟩
    have gc := same_new kc (.tup [.ref a, .ref b])
    exact q c a b r s v w _ (g.trans gc) upd_same (gc _ _ ha) (gc _ _ hb) e
theorem ok_times_power (T : Txt K mg) : FnOk P w K mg base CX0 3 T.f_times_power T.d_times_power ["p", "top", "bottom", "times"] spTimesP := by
  have G_power_of := (ok_power_of (P := P) (w := w) (base := base) T).mono (k := 2) (by decide)
  have G_fraction := ok_fraction (P := P) (w := w) (base := base) T
  refine T.F_times_power.okq sc_times_power (fun vs H Q E h => ?_) (fun cdv A outer s H vs Q E hr h => ?_)
  · obtain ⟨p, v, w, l, rfl, _⟩ := h
    rfl
  obtain ⟨p, v, w', l, rfl, hp, bv, bw, w0, l0, l1, q⟩ := h
  have p2 := hp.two
  have pw : ∀ n : Nat, 0 < p ^ n := fun n => Int.pow_pos (by omega)
  refine ⟨_, (qpss_cons (qps_if (qpt_cmpR op_ge (qpv 3) qpe_int (nomark _)) (qpss_one (qps_ret (qpe_call G_fraction hr rfl T.m_fraction T.k_fraction T.b_fraction .nil pass2 (qpa_cons (hs := star_BinOp) (qpe_op op_mulB (qpv 1) (qpe_call G_power_of hr rfl T.m_power_of T.k_power_of T.b_power_of .nil pass0 (qpa_cons (hs := star_Name) (qpv 0) (qpa_cons (hs := star_Name) (qpv 3) qpa_nil)))) (qpa_cons (hs := star_Name) (qpv 2) qpa_nil))))) qpss_nil)
    (qpss_one (qps_ret (qpe_call G_fraction hr rfl T.m_fraction T.k_fraction T.b_fraction .nil pass2 (qpa_cons (hs := star_Name) (qpv 1) (qpa_cons (hs := star_BinOp) (qpe_op op_mulB (qpv 2) (qpe_call G_power_of hr rfl T.m_power_of T.k_power_of T.b_power_of .nil pass0 (qpa_cons (hs := star_Name) (qpv 0) (qpa_cons (hs := star_UnaryOp) (qpe_un un_neg (qpv 3)) qpa_nil)))) qpa_nil)))))), ?_⟩
  refine ⟨_, rfl, _, _, rfl, rfl, _, rfl, iteG (fun ge => ?_) (fun lt => ?_)⟩
  · obtain ⟨k, hk⟩ : ∃ k : Nat, l = (k : Int) := ⟨l.toNat, by omega⟩
    have bk : LN.Bd 3200 (p ^ k) := hp.pow (by omega)
    refine ⟨_, rfl, _, rfl, _, rfl, p, k, by rw [hk]; rfl, hp.bd.mono (by decide), by omega, _, _, rfl, rfl, ⟨bv.mono (by decide), bk.mono (by decide)⟩, ?_⟩
    refine ⟨_, rfl, spFrac_ints ((bv.mul bk).mono (by decide)) (bw.mono (by decide)) w0 fun a x y H1 g1 ha low => q a x y H1 g1 ha ?_⟩
    rw [show l.toNat = k by omega, show (-l).toNat = 0 by omega, Int.pow_zero, Int.mul_one]
    exact low
  · obtain ⟨k, hk⟩ : ∃ k : Nat, -l = (k : Int) := ⟨(-l).toNat, by omega⟩
    have bk : LN.Bd 3200 (p ^ k) := hp.pow (by omega)
    refine ⟨_, rfl, _, rfl, _, rfl, _, rfl, _, rfl, p, k, by show [V.int p, V.int (-l)] = _; rw [hk], hp.bd.mono (by decide), by omega, _, _, rfl, rfl, ⟨bw.mono (by decide), bk.mono (by decide)⟩, ?_⟩
    refine spFrac_ints (bv.mono (by decide)) ((bw.mul bk).mono (by decide)) (Int.mul_ne_zero w0 (by have := pw k; omega)) fun a x y H1 g1 ha low => q a x y H1 g1 ha ?_
    rw [show (-l).toNat = k by omega, show l.toNat = 0 by omega, Int.pow_zero, Int.mul_one]
    exact low
theorem ok_found_again (T : Txt K mg) : FnOk P w K mg base (CX2 P w) 4 T.f_found_again T.d_found_again ["one", "size"] (spFound K T.a_NoSize T.a_TooFew dFound) := by
  have G_is_whole := (ok_is_whole (P := P) (w := w) (base := base) T).mono (k := 3) (by decide)
  have G_power_of := (ok_power_of (P := P) (w := w) (base := base) T).mono (k := 3) (by decide)
  have G_known_of := (ok_known_of (P := P) (w := w) (base := base) T).mono (k := 3) (by decide)
  have G_unit_of := (ok_unit_of (P := P) (w := w) (base := base) T).mono (k := 3) (by decide)
  have G_paper_of := (ok_paper_of (P := P) (w := w) (base := base) T).mono (k := 3) (by decide)
  have G_times_power := ok_times_power (P := P) (w := w) (base := base) T
  refine T.F_found_again.toD.ok2 sc_found_again (fun vs H Q E h => ?_) (fun cdv A outer s H vs Q E hr h => ?_)
  · obtain ⟨a, p, l, fs, v, rfl, _⟩ := h
    rfl
  obtain ⟨a, p, l, fs, v, rfl, la, fl, l0, l1, th, bi, hN, hF, q⟩ := h
  have s2 : ∀ {x y : V}, ([x, y] : List V).length ≤ sizeLine := small (by show 2 ≤ 1000; decide)
  refine ⟨_, (qpss_cons (qps_if (QW.pt (qpw_or (qpt_not (qpt_val (qpe_call G_is_whole hr rfl T.m_is_whole T.k_is_whole T.b_is_whole .nil pass0 (qpa_cons (hs := star_Name) (qpv 1) qpa_nil)))) (qpw_or1 (qpt_cmpR op_lt (qpv 1) qpe_int (nomark _))))) (qpss_one (qps_raise throws_new2 rfl T.m_NoSize T.x_NoSize rfl (qpa_cons (hs := star_Constant) qpe_str qpa_nil))) qpss_nil)
    (qpss_cons (qps_set (i := 2) sc_found_again.nd rfl (Or.inl rfl) (qpe_ix ix_tup (qpv 0) qpe_int (fun _ _ => rfl)))
    (qpss_cons (qps_set (i := 3) sc_found_again.nd rfl (Or.inl rfl) (qpe_call G_power_of hr rfl T.m_power_of T.k_power_of T.b_power_of .nil pass0 (qpa_cons (hs := star_Name) (qpv 2) (qpa_cons (hs := star_Call) (qpe_call G_known_of hr rfl T.m_known_of T.k_known_of T.b_known_of .nil pass0 (qpa_cons (hs := star_Name) (qpv 0) qpa_nil)) qpa_nil))))
    (qpss_cons (qps_if (qpt_cmpR op_ge (qpe_op op_mulB (qpe_op op_mulB qpe_int (qpv 1)) (qpv 1)) (qpv 3) (nomark _)) (qpss_one (qps_raise throws_new2 rfl T.m_TooFew T.x_TooFew rfl (qpa_cons (hs := star_Constant) qpe_str qpa_nil))) qpss_nil)
    (qpss_cons (qps_set (i := 4) sc_found_again.nd rfl (Or.inl rfl) (qpe_call G_paper_of hr rfl T.m_paper_of T.k_paper_of T.b_paper_of .nil pass0 (qpa_cons (hs := star_Name) (qpv 3) (qpa_cons (hs := star_Call) (qpe_call G_unit_of hr rfl T.m_unit_of T.k_unit_of T.b_unit_of .nil pass0 (qpa_cons (hs := star_Name) (qpv 0) qpa_nil)) (qpa_cons (hs := star_Name) (qpv 1) qpa_nil)))))
    (qpss_cons (qps_set (i := 5) sc_found_again.nd rfl (Or.inl rfl) (qpe_ix ix_tup (qpe_ix ix_tup (qpv 4) qpe_int (fun _ _ => rfl)) qpe_int (fun _ _ => rfl)))
    (qpss_cons (qps_set (i := 6) sc_found_again.nd rfl (Or.inl rfl) (qpe_ix ix_tup (qpe_ix ix_tup (qpv 4) qpe_int (fun _ _ => rfl)) qpe_int (fun _ _ => rfl)))
    (qpss_cons (qps_if (QW.pt (qpw_or (qpt_cmpR op_gt (qpe_callB call_abs rfl T.z_abs bt_abs (qpa_cons (hs := star_Name) (qpv 6) qpa_nil)) (qpv 1) (nomark _)) (qpw_or1 (qpt_cmpR op_eq (qpe_op op_mod (qpv 6) (qpv 2)) qpe_int (nomark _))))) (qpss_one (qps_ret (qpe_tup (qpa_cons (hs := star_Constant) qpe_str (qpa_cons (hs := star_Name) (qpv 4) qpa_nil))))) qpss_nil)
    (qpss_one (qps_ret (qpe_tup (qpa_cons (hs := star_Constant) qpe_str (qpa_cons (hs := star_Call) (qpe_call G_times_power hr rfl T.m_times_power T.k_times_power T.b_times_power .nil pass0 (qpa_cons (hs := star_Name) (qpv 2) (qpa_cons (hs := star_Name) (qpv 5) (qpa_cons (hs := star_Name) (qpv 6) (qpa_cons (hs := star_Subscript) (qpe_ix ix_tup (qpv 0) qpe_int (fun _ _ => rfl)) qpa_nil))))) qpa_nil))))))))))))), ?_⟩
  refine ⟨_, rfl, v, rfl, th, _, rfl, ?_⟩
  cases v with
  | int S =>
    refine iteF ⟨_, rfl, _, _, rfl, rfl, _, rfl, ?_⟩
    by_cases c : S < 1
    · rw [decide_eq_true c]
      exact iteT ⟨small (by show 1 ≤ 1000; decide), hN (fun ⟨i, e, h⟩ => by have := V.int.inj e; omega) _ (Same.refl _)⟩
    rw [decide_eq_false c]
    have S1 : 1 ≤ S := by omega
    have bS := bi S rfl
    obtain ⟨c', h1, h2⟩ := la.at'
    have hp := la.pr
    have p2 := hp.two
    have bW : LN.Bd 3000 (p ^ fs.length) := hp.pow (by omega)
    refine iteF ⟨_, rfl, a, _, _, _, rfl, rfl, SqT.of h1, rfl, _, rfl, _, rfl, a, p, l, fs, rfl, la, fun H1 g1 => ⟨p, fs.length, rfl, hp.bd.mono (by decide), by omega, ?_⟩⟩
    refine ⟨_, rfl, _, _, rfl, rfl, ⟨bd_small (by decide) (by decide) (by decide), bS.mono (by decide)⟩, _, rfl, _, _, rfl, rfl, ⟨((bd_small (n := 64) (by decide) (by decide) (by decide)).mul bS).mono (by decide), bS.mono (by decide)⟩, _, rfl, _, _, rfl, rfl, _, rfl, iteG (fun ge => ?_) (fun lt => ?_)⟩
    · rw [Int.mul_assoc] at ge
      exact ⟨small (by show 1 ≤ 1000; decide), hF S rfl S1 ge _ g1⟩
    rw [Int.mul_assoc] at lt
    have lt : 2 * (S * S) < p ^ fs.length := by omega
    have q := q S rfl S1 lt
    have la1 := la.same g1
    have un0 := un_nn (by omega) la.fig
    have un1 := un_lt (by omega) la.fig
    refine ⟨_, rfl, _, rfl, a, p, l, fs, rfl, la1, fun H2 g2 => ⟨_, rfl, _, _, S, rfl, bW, un0, un1, S1, sq_lt S1 lt, fun t x y r s v w H3 g3 ht hx hy e => ?_⟩⟩
    have gg := g1.trans (g2.trans g3)
    have eu : euclOf p fs S = (r, s, v, w) := e
    obtain ⟨R, vS⟩ := euclOf_rows hp la.fig S1 lt
    have dd : dFound p l fs S = if S < (w.natAbs : Int) ∨ p ∣ w then .none r s v w else .frac (v * w.sign * p ^ l.toNat) (w.natAbs * p ^ (-l).toNat) := by
      unfold dFound
      rw [eu]
    rw [eu] at R vS
    dsimp only at R vS
    refine ⟨_, rfl, t, _, _, _, rfl, rfl, SqT.of ht, rfl, y, _, _, _, rfl, rfl, SqT.of hy, rfl, ?_⟩
    refine ⟨_, rfl, t, _, _, _, rfl, rfl, SqT.of ht, rfl, y, _, _, _, rfl, rfl, SqT.of hy, rfl, ?_⟩
    refine ⟨_, rfl, w, rfl, _, rfl, _, _, rfl, rfl, _, rfl, ?_⟩
    have none : (S < (w.natAbs : Int) ∨ p ∣ w) → ∀ (t' : Addr) (H' : Hp), Same H3 H' → H' t' = some (.tup [.str sNone, .ref t]) → Q (.ref t') H' := fun bad t' H' g' h' => q t' H' (gg.trans g') (by
      rw [dd, if_pos bad]
      exact ⟨t, x, y, h', g' _ _ ht, g' _ _ hx, g' _ _ hy⟩)
    by_cases c1 : S < (w.natAbs : Int)
    · rw [abs_nat, decide_eq_true c1]
      refine iteT (iteT ⟨_, rfl, s2, fun t' k' => ?_⟩)
      exact none (.inl c1) t' _ (same_new k' _) upd_same
    rw [abs_nat, decide_eq_false c1]
    refine iteF ⟨_, rfl, _, rfl, _, _, rfl, rfl, (by show 0 < p; omega), rfl, _, rfl, iteI (fun c2 => ?_) (fun c2 => ?_)⟩
    · refine ⟨_, rfl, s2, fun t' k' => ?_⟩
      exact none (.inr (Int.dvd_of_emod_eq_zero c2)) t' _ (same_new k' _) upd_same
    have nw : ¬ p ∣ w := fun z => c2 (Int.emod_eq_zero_of_dvd z)
    have w0 : w ≠ 0 := fun z => nw (by rw [z]; exact Int.dvd_zero _)
    have v0 := R.v0
    have bv : LN.Bd 800 v := (bS.mono (by decide)).of_le (by omega)
    have bw : LN.Bd 800 w := (bS.mono (by decide)).of_le (by omega)
    have h1 := gg _ _ h1
    refine ⟨_, rfl, _, rfl, _, rfl, _, rfl, a, _, _, _, rfl, rfl, SqT.of h1, rfl, p, v, w, l, rfl, hp, bv, bw, w0, l0, l1, fun d X Y H4 g4 hd low => ⟨s2, fun t' k' => ?_⟩⟩
    have gk := same_new k' (.tup [.str sFrac, .ref d])
    refine q t' _ (gg.trans (g4.trans gk)) ?_
    rw [dd, if_neg (fun z => z.elim c1 nw)]
    have nu : fs ≠ [] := fun z => by
      rw [z] at lt
      have := Int.mul_le_mul S1 S1 (by decide) (by omega)
      rw [show ([] : List Int).length = 0 from rfl, Int.pow_zero] at lt
      omega
    have k1 : 1 ≤ fs.length := by
      cases fs with
      | nil => exact absurd rfl nu
      | cons _ _ => exact Nat.succ_le_succ (Nat.zero_le _)
    obtain ⟨e1, e2⟩ := low_found hp w0 (fun _ => R.free hp k1 (un_free p2 la.fig la.top nu) nw) nw (R.low hp nw) low
    exact ⟨d, upd_same, by rw [← e1, ← e2]; exact gk _ _ hd⟩
  | _ => exact iteT (iteT ⟨small (by show 1 ≤ 1000; decide), hN (fun ⟨i, e, _⟩ => nomatch e) _ (Same.refl _)⟩)
theorem ok_refuse_unlike (T : Txt K mg) : FnOk P w K mg base (CX2 P w) 1 T.f_refuse_unlike T.d_refuse_unlike ["one", "other"] (spRefU K T.a_Unlike) := by
  refine T.F_refuse_unlike.toD.ok2 sc_refuse_unlike (fun vs H Q E h => ?_) (fun cdv A outer s H vs Q E hr h => ?_)
  · obtain ⟨a, b, p, l, p', l', fs, fs', rfl, _⟩ := h
    rfl
  obtain ⟨a, b, p, l, p', l', fs, fs', rfl, la, lb, hE, q⟩ := h
  obtain ⟨c, h1, h2⟩ := la.at'
  obtain ⟨c', h1', h2'⟩ := lb.at'
  refine ⟨_, (qpss_one (qps_if (qpt_cmpR op_ne (qpe_ix ix_tup (qpv 0) qpe_int (fun _ _ => rfl)) (qpe_ix ix_tup (qpv 1) qpe_int (fun _ _ => rfl)) (nomark _)) (qpss_one (qps_raise throws_new2 rfl T.m_Unlike T.x_Unlike rfl (qpa_cons (hs := star_Constant) qpe_str qpa_nil))) qpss_nil)), ?_⟩
  refine ⟨_, rfl, a, _, _, _, rfl, rfl, SqT.of h1, rfl, _, rfl, b, _, _, _, rfl, rfl, SqT.of h1', rfl, rfl, _, rfl, iteN (fun e => ?_) (fun e => ?_)⟩
  · exact ⟨small (by show 1 ≤ 1000; decide), hE e⟩
  · exact q e
theorem ok_of_whole3 (T : Txt K mg) : FnOk P w K mg base CX0 4 T.f_of_whole T.d_of_whole ["p", "least", "number", "many"] (spOfWholeV K) := by
  have G_left_number := ok_left_number (P := P) (w := w) (base := base) T
  have G_exponent := (ok_exponent2 (P := P) (w := w) (base := base) T).mono (k := 3) (by decide)
  have G_power_of := (ok_power_of (P := P) (w := w) (base := base) T).mono (k := 3) (by decide)
  have G_first_figures := (ok_first_figures3 (P := P) (w := w) (base := base) T).mono (k := 3) (by decide)
  refine T.F_of_whole.okq sc_of_whole (fun vs H Q E h => ?_) (fun cdv A outer s H vs Q E hr h => ?_)
  · obtain ⟨p, l, n, m, rfl, _⟩ := h
    rfl
  obtain ⟨p, l, n, m, rfl, hp, bl, hm, bn, hz, nd, q⟩ := h
  have p2 := hp.two
  refine ⟨_, (qpss_cons (qps_if (qpt_cmpR op_eq (qpv 2) qpe_int (nomark _)) (qpss_one (qps_ret (qpe_call G_left_number hr rfl T.m_left_number T.k_left_number T.b_left_number .nil pass2 (qpa_cons (hs := star_Name) (qpv 0) (qpa_cons (hs := star_BinOp) (qpe_op op_add (qpv 1) (qpv 3)) (qpa_cons (hs := star_List) (qpe_lst qpa_nil) qpa_nil)))))) qpss_nil)
    (qpss_cons (qps_set (i := 4) sc_of_whole.nd rfl (Or.inl rfl) (qpe_callB (call_min2 rfl) rfl T.z_min bt_min (qpa_cons (hs := star_Call) (qpe_call G_exponent hr rfl T.m_exponent T.k_exponent T.b_exponent .nil pass0 (qpa_cons (hs := star_Name) (qpv 0) (qpa_cons (hs := star_Name) (qpv 2) qpa_nil))) (qpa_cons (hs := star_Name) (qpv 3) qpa_nil))))
    (qpss_cons (qps_set (i := 5) sc_of_whole.nd rfl (Or.inl rfl) (qpe_op op_fdivB (qpv 2) (qpe_call G_power_of hr rfl T.m_power_of T.k_power_of T.b_power_of .nil pass0 (qpa_cons (hs := star_Name) (qpv 0) (qpa_cons (hs := star_Name) (qpv 4) qpa_nil)))))
    (qpss_one (qps_ret (qpe_call G_left_number hr rfl T.m_left_number T.k_left_number T.b_left_number .nil pass2 (qpa_cons (hs := star_Name) (qpv 0) (qpa_cons (hs := star_BinOp) (qpe_op op_add (qpv 1) (qpv 4)) (qpa_cons (hs := star_Call) (qpe_call G_first_figures hr rfl T.m_first_figures T.k_first_figures T.b_first_figures .nil pass0 (qpa_cons (hs := star_Name) (qpv 0) (qpa_cons (hs := star_Name) (qpv 5) (qpa_cons (hs := star_Constant) qpe_int (qpa_cons (hs := star_BinOp) (qpe_op op_sub (qpv 3) (qpv 4)) qpa_nil))))) qpa_nil))))))))), ?_⟩
  refine ⟨_, rfl, rfl, _, rfl, iteI (fun e => ?_) (fun hn => ?_)⟩
  · obtain rfl := hz e
    subst e
    refine ⟨_, rfl, _, rfl, _, rfl, _, _, rfl, rfl, small (by show 0 ≤ 1000; decide), fun b kb => ?_⟩
    refine ⟨.int p, .int (l + ((0 : Nat) : Int)), .ref b, .inr (p, l + ((0 : Nat) : Int), []), rfl, .good hp (by rw [show l + ((0 : Nat) : Int) = l from Int.add_zero _]; exact bl.mono (by decide)) (.ok (.inl (SqL.of upd_same)) Figs.nil (Nat.zero_le _)), (fun k e => nomatch e), fun p' l' fs' e a H' g' la => ?_⟩
    cases e
    refine q a H' ((same_new kb _).trans g') ?_
    rw [show l + ((0 : Nat) : Int) + ((lead [] : Nat) : Int) = l by show l + 0 + 0 = l; omega] at la
    exact la
  · have nd := nd hn
    refine ⟨_, rfl, _, rfl, p, n, rfl, p2, nd, fun H1 g1 => ?_⟩
    refine ⟨_, rfl, _, _, rfl, ?_⟩
    rw [show (if (m : Int) < 0 then (m : Int) else 0) = ((0 : Nat) : Int) by split <;> omega]
    refine ⟨_, rfl, _, rfl, _, rfl, p, 0, rfl, hp.bd.mono (by decide), by omega, _, _, rfl, rfl, ⟨by rw [Int.pow_zero]; decide, by rw [Int.pow_zero]; exact bd_small (by decide) (by decide) (by decide)⟩, ?_⟩
    refine ⟨_, rfl, _, rfl, _, rfl, _, _, rfl, rfl, _, rfl, _, rfl, _, rfl, _, rfl, _, _, rfl, rfl, p, n / p ^ 0, 1, m, ?_, hp, hm, fun z => absurd (Int.le_of_dvd (by decide) z) (by omega), by rw [Int.pow_zero, Int.ediv_one]; exact bn.mono (by decide), bd_small (by decide) (by decide) (by decide), fun b H2 g2 hb => ?_⟩
    · show [V.int p, V.int (n / p ^ 0), V.int 1, V.int ((m : Int) - ((0 : Nat) : Int))] = _
      rw [show (m : Int) - ((0 : Nat) : Int) = (m : Int) by omega]
    rw [Int.pow_zero, Int.ediv_one, qdigs_one p2] at hb
    refine ⟨.int p, .int (l + ((0 : Nat) : Int)), .ref b, .inr (p, l + ((0 : Nat) : Int), digs p m n), rfl, .good hp (by rw [show l + ((0 : Nat) : Int) = l from Int.add_zero _]; exact bl.mono (by decide)) (.ok (.inl (SqL.of hb)) (digs_figs (by omega)) (by rw [digs_len]; omega)), (fun k e => nomatch e), fun p' l' fs' e a H' g' la => ?_⟩
    cases e
    refine q a H' (g1.trans (g2.trans g')) ?_
    rw [lead_top (digs_top nd m), List.drop_zero, show l + ((0 : Nat) : Int) + ((0 : Nat) : Int) = l by omega] at la
    exact la
theorem ok_multiplied (T : Txt K mg) : FnOk P w K mg base (CX2 P w) 5 T.f_multiplied T.d_multiplied ["one", "other"] (spTwo K T.a_Unlike (wProd K)) := by
  have G_refuse_unlike := (ok_refuse_unlike (P := P) (w := w) (base := base) T).mono (k := 4) (by decide)
  have G_known_of := (ok_known_of (P := P) (w := w) (base := base) T).mono (k := 4) (by decide)
  have G_unit_of := (ok_unit_of (P := P) (w := w) (base := base) T).mono (k := 4) (by decide)
  have G_of_whole := ok_of_whole3 (P := P) (w := w) (base := base) T
  refine T.F_multiplied.toD.ok2 sc_multiplied (fun vs H Q E h => ?_) (fun cdv A outer s H vs Q E hr h => ?_)
  · obtain ⟨a, b, p, l, p', l', fs, fs', rfl, _⟩ := h
    rfl
  obtain ⟨a, b, p, l, p', l', fs, fs', rfl, la, lb, hE, q⟩ := h
  obtain ⟨c, h1, h2⟩ := la.at'
  obtain ⟨c', h1', h2'⟩ := lb.at'
  refine ⟨_, (qpss_cons (qps_expr (qpe_call G_refuse_unlike hr rfl T.m_refuse_unlike T.k_refuse_unlike T.b_refuse_unlike .nil leave_on2 (qpa_cons (hs := star_Name) (qpv 0) (qpa_cons (hs := star_Name) (qpv 1) qpa_nil))))
    (qpss_cons (qps_set (i := 2) sc_multiplied.nd rfl (Or.inl rfl) (qpe_callB (call_min2 rfl) rfl T.z_min bt_min (qpa_cons (hs := star_Call) (qpe_call G_known_of hr rfl T.m_known_of T.k_known_of T.b_known_of .nil pass0 (qpa_cons (hs := star_Name) (qpv 0) qpa_nil)) (qpa_cons (hs := star_Call) (qpe_call G_known_of hr rfl T.m_known_of T.k_known_of T.b_known_of .nil pass0 (qpa_cons (hs := star_Name) (qpv 1) qpa_nil)) qpa_nil))))
    (qpss_one (qps_ret (qpe_call G_of_whole hr rfl T.m_of_whole T.k_of_whole T.b_of_whole .nil pass0 (qpa_cons (hs := star_Subscript) (qpe_ix ix_tup (qpv 0) qpe_int (fun _ _ => rfl)) (qpa_cons (hs := star_BinOp) (qpe_op op_add (qpe_ix ix_tup (qpv 0) qpe_int (fun _ _ => rfl)) (qpe_ix ix_tup (qpv 1) qpe_int (fun _ _ => rfl))) (qpa_cons (hs := star_BinOp) (qpe_op op_mulB (qpe_call G_unit_of hr rfl T.m_unit_of T.k_unit_of T.b_unit_of .nil pass0 (qpa_cons (hs := star_Name) (qpv 0) qpa_nil)) (qpe_call G_unit_of hr rfl T.m_unit_of T.k_unit_of T.b_unit_of .nil pass0 (qpa_cons (hs := star_Name) (qpv 1) qpa_nil))) (qpa_cons (hs := star_Name) (qpv 2) qpa_nil))))))))), ?_⟩
  refine ⟨_, rfl, _, rfl, a, b, p, l, p', l', fs, fs', rfl, la, lb, fun e => hE e _ (Same.refl _), fun e => ?_⟩
  have q2 := q e
  subst e
  have hp := la.pr
  have p2 := hp.two
  have p0 : 0 < p := by omega
  have few := la.few
  have few' := lb.few
  refine ⟨_, rfl, a, p, l, fs, rfl, la, fun H1 g1 => ⟨_, rfl, b, p, l', fs', rfl, lb.same g1, fun H2 g2 => ⟨_, _, rfl, ?_⟩⟩⟩
  have g12 := g1.trans g2
  have la2 := la.same g12
  have lb2 := lb.same g12
  have h1 := g12 _ _ h1
  have h1' := g12 _ _ h1'
  rw [show (if (fs'.length : Int) < (fs.length : Int) then (fs'.length : Int) else (fs.length : Int)) = ((min fs.length fs'.length : Nat) : Int) by split <;> omega]
  have bu : LN.Bd 20000 (un p fs) := hp.un la.fig (by omega)
  have bu' : LN.Bd 20000 (un p fs') := hp.un lb.fig (by omega)
  refine ⟨_, rfl, a, _, _, _, rfl, rfl, SqT.of h1, rfl, _, rfl, a, _, _, _, rfl, rfl, SqT.of h1, rfl, _, rfl, b, _, _, _, rfl, rfl, SqT.of h1', rfl, _, _, rfl, rfl, ?_⟩
  refine ⟨_, rfl, a, p, l, fs, rfl, la2, fun H3 g3 => ⟨_, rfl, b, p, l', fs', rfl, lb2.same g3, fun H4 g4 => ⟨_, _, rfl, rfl, ⟨bu.mono (by decide), bu'.mono (by decide)⟩, ?_⟩⟩⟩
  refine ⟨_, rfl, p, l + l', un p fs * un p fs', min fs.length fs'.length, rfl, hp, (la.bd.add lb.bd).mono (by decide), by omega, (bu.mul bu').mono (by decide), fun z => ?_, fun z => ?_, fun r H5 g5 lr => ?_⟩
  · rcases Int.mul_eq_zero.mp z with z | z
    · rw [show fs = [] from Classical.byContradiction fun ne => un_free p2 la.fig la.top ne (by rw [z]; exact Int.dvd_zero _)]
      exact Nat.zero_min _
    · rw [show fs' = [] from Classical.byContradiction fun ne => un_free p2 lb.fig lb.top ne (by rw [z]; exact Int.dvd_zero _)]
      exact Nat.min_zero _
  · refine hp.free (un_free p2 la.fig la.top fun e => z ?_) (un_free p2 lb.fig lb.top fun e => z ?_)
    · rw [e]; exact Int.zero_mul _
    · rw [e]; exact Int.mul_zero _
  refine q2 _ _ (g12.trans (g3.trans (g4.trans g5))) ⟨r, l + l', _, rfl, lr, digs_figs p0, ?_, rfl, digs_len, by rw [digs_len]; exact digs_cong p0 _ _⟩
  by_cases z : p ∣ un p fs * un p fs'
  · rw [show min fs.length fs'.length = 0 from ?_]
    · exact fun z => nomatch z
    rcases hp.euclid z with z | z
    · rw [show fs = [] from Classical.byContradiction fun ne => un_free p2 la.fig la.top ne z]
      exact Nat.zero_min _
    · rw [show fs' = [] from Classical.byContradiction fun ne => un_free p2 lb.fig lb.top ne z]
      exact Nat.min_zero _
  · exact digs_top z _
theorem ok_lengthened (T : Txt K mg) : FnOk P w K mg base CX0 4 T.f_lengthened T.d_lengthened ["one", "figure"] (spLonger K) := by
  have G_left_number := ok_left_number (P := P) (w := w) (base := base) T
  refine T.F_lengthened.okq sc_lengthened (fun vs H Q E h => ?_) (fun cdv A outer s H vs Q E hr h => ?_)
  · obtain ⟨a, p, l, f, fs, rfl, _⟩ := h
    rfl
  obtain ⟨a, p, l, f, fs, rfl, la, f0, fp, q⟩ := h
  obtain ⟨c, h1, h2⟩ := la.at'
  have few := la.few
  refine ⟨_, (qpss_one (qps_ret (qpe_call G_left_number hr rfl T.m_left_number T.k_left_number T.b_left_number .nil pass2 (qpa_cons (hs := star_Subscript) (qpe_ix ix_tup (qpv 0) qpe_int (fun _ _ => rfl)) (qpa_cons (hs := star_Subscript) (qpe_ix ix_tup (qpv 0) qpe_int (fun _ _ => rfl)) (qpa_cons (hs := star_BinOp) (qpe_op op_catA (qpe_ix ix_tup (qpv 0) qpe_int (fun _ _ => rfl)) (qpe_tup (qpa_cons (hs := star_Name) (qpv 1) qpa_nil))) qpa_nil)))))), ?_⟩
  refine ⟨_, rfl, a, _, _, _, rfl, rfl, SqT.of h1, rfl, _, rfl, a, _, _, _, rfl, rfl, SqT.of h1, rfl, _, rfl, a, _, _, _, rfl, rfl, SqT.of h1, rfl, _, rfl, small (by show 1 ≤ 1000; decide), fun d kd => ?_⟩
  have gd := same_new kd (.tup [.int f])
  refine ⟨c, d, _, _, rfl, rfl, SqT.of (gd _ _ h2), SqT.of upd_same, List.cons_ne_nil _ _, ?_, fun z => ?_, fun z r kr => ?_⟩
  · rw [List.length_map]
    exact Nat.le_of_lt (small3001 (by show fs.length + 1 ≤ 3001; omega))
  · have z : fs = [] := List.map_eq_nil_iff.mp z
    subst z
    refine ⟨.int p, .int l, .ref d, .inr (p, l, [f]), rfl, .good la.pr (la.bd.mono (by decide)) (.ok (.inr upd_same) (Figs.one f0 fp) (by show 1 ≤ 3000; decide)), (fun k e => nomatch e), fun p' l' fs' e b H' g' lb => ?_⟩
    cases e
    exact q b H' (gd.trans g') lb
  · refine ⟨.int p, .int l, .ref r, .inr (p, l, fs ++ [f]), rfl, .good la.pr (la.bd.mono (by decide)) (.ok (.inr (by rw [upd_same, List.map_append]; rfl)) (la.fig.app (Figs.one f0 fp)) (by rw [List.length_append]; show fs.length + 1 ≤ 3000; omega)), (fun k e => nomatch e), fun p' l' fs' e b H' g' lb => ?_⟩
    cases e
    exact q b H' (gd.trans ((same_new kr _).trans g')) lb
theorem ok_refuse_power (T : Txt K mg) : FnOk P w K mg base (CX2 P w) 2 T.f_refuse_power T.d_refuse_power ["n"] (spRefP K T.a_NoPower) := by
  have G_is_whole := ok_is_whole (P := P) (w := w) (base := base) T
  refine T.F_refuse_power.toD.ok2 sc_refuse_power (fun vs H Q E h => ?_) (fun cdv A outer s H vs Q E hr h => ?_)
  · obtain ⟨v, rfl, _⟩ := h
    rfl
  obtain ⟨v, rfl, th, hE, q⟩ := h
  refine ⟨_, (qpss_one (qps_if (QW.pt (qpw_or (qpt_not (qpt_val (qpe_call G_is_whole hr rfl T.m_is_whole T.k_is_whole T.b_is_whole .nil pass0 (qpa_cons (hs := star_Name) (qpv 0) qpa_nil)))) (qpw_or1 (qpt_not (qpt_chain op_le op_le qpe_int (qpv 0) (qpe_glob (v := .int 1000) rfl T.m_MOST_TIMES ⟨_, rfl⟩)))))) (qpss_one (qps_raise throws_new2 rfl T.m_NoPower T.x_NoPower rfl (qpa_cons (hs := star_Constant) qpe_str qpa_nil))) qpss_nil)), ?_⟩
  refine ⟨_, rfl, v, rfl, th, _, rfl, ?_⟩
  cases v with
  | int i =>
    refine iteF ⟨_, rfl, _, _, rfl, rfl, _, rfl, ?_⟩
    by_cases c1 : 1 ≤ i
    · rw [if_pos (decide_eq_true c1)]
      refine ⟨_, _, rfl, rfl, _, rfl, ?_⟩
      by_cases c2 : i ≤ 1000
      · rw [decide_eq_true c2]
        exact iteF (q ⟨i.toNat, by rw [Int.toNat_of_nonneg (by omega)], by omega, by omega⟩)
      · rw [decide_eq_false c2]
        refine iteT ⟨small (by show 1 ≤ 1000; decide), hE fun ⟨n, e, _, h⟩ => ?_⟩
        have := V.int.inj e
        omega
    · rw [if_neg (by rw [decide_eq_false c1]; decide)]
      refine ⟨_, rfl, iteT ⟨small (by show 1 ≤ 1000; decide), hE fun ⟨n, e, h, _⟩ => ?_⟩⟩
      have := V.int.inj e
      omega
  | _ => exact iteT (iteT ⟨small (by show 1 ≤ 1000; decide), hE fun ⟨n, e, _⟩ => nomatch e⟩)
theorem ok_power_rest (T : Txt K mg) : FnOk P w K mg base CX0 1 T.f_power_rest T.d_power_rest ["number", "times", "divisor"] spPR := by
  refine T.F_power_rest.okq sc_power_rest (fun vs H Q E h => ?_) (fun cdv A outer s H vs Q E hr h => ?_)
  · obtain ⟨x, W, t, rfl, _⟩ := h
    rfl
  obtain ⟨x, W, t, rfl, bx, hW, bW, ht, q⟩ := h
  have W0 : 0 < W := by omega
  have br : ∀ y : Int, LN.Bd 20000 (y % W) := fun y => bW.of_le (by have := Int.emod_nonneg y (show W ≠ 0 by omega); have := Int.emod_lt_of_pos y W0; omega)
  refine ⟨_, (qpss_cons (qps_set (i := 3) sc_power_rest.nd rfl (Or.inl rfl) qpe_int)
    (qpss_cons (qps_for PassesOwn.never rfl (qpi_rangeD rfl T.z_range (qpa_cons (hs := star_BinOp) (qpe_op op_sub (qpe_bm0 PySem.F.plainAttrs_int PySem.F.slot_int_bit_length PySem.F.type_int_bit_length mt_bitlen (qpv 1)) qpe_int) (qpa_cons (hs := star_UnaryOp) (qpe_un un_neg qpe_int) (qpa_cons (hs := star_UnaryOp) (qpe_un un_neg qpe_int) qpa_nil)))) (qpg_name (i := 4) sc_power_rest.nd rfl (Or.inl rfl)) (qpss_cons (qps_set (i := 3) sc_power_rest.nd rfl (Or.inl rfl) (qpe_op op_mod (qpe_op op_mulB (qpv 3) (qpv 3)) (qpv 2)))
    (qpss_one (qps_if (qpt_cmpR op_eq (qpe_op op_mod (qpe_op op_shr (qpv 1) (qpv 4)) qpe_int) qpe_int (nomark _)) (qpss_one (qps_set (i := 3) sc_power_rest.nd rfl (Or.inl rfl) (qpe_op op_mod (qpe_op op_mulB (qpv 3) (qpv 0)) (qpv 2)))) qpss_nil))))
    (qpss_one (qps_ret (qpv 3))))), ?_⟩
  have hb := bits_le ht
  have h0 := bits_top t
  generalize eb : Builtin.Int.intBits (t : Int) = b at hb h0
  refine ⟨_, rfl, rfl, _, rfl, rfl, _, _, rfl, rfl, _, rfl, _, rfl, _, _, rfl, ⟨by omega, by omega, by decide, by decide⟩, ?_⟩
  rw [eb]
  have en : ((b : Int) - 1 - (-1)).toNat = b := by omega
  rw [en]
  refine for_down (fun i σ H2 => ∃ v : Option V, σ = [some (.int x), some (.int (t : Int)), some (.int W), some (.int (x ^ (t / 2 ^ (b - i)) % W)), v] ∧ H2 = H) ⟨none, by rw [Nat.sub_zero, h0, Int.pow_zero, Int.emod_eq_of_lt (by decide) (by omega)] <;> rfl, rfl⟩ ?_ ?_
  · rintro i σ H2 hi ⟨v, rfl, rfl⟩
    obtain ⟨r, hr⟩ : ∃ r, b - i = r + 1 := ⟨b - i - 1, by omega⟩
    have hr' : b - (i + 1) = r := by omega
    have et : ((b : Int) - 1 - (i : Int)).toNat = r := by omega
    rw [hr, hr']
    refine ⟨_, rfl, _, rfl, _, _, rfl, rfl, ⟨(br _).mono (by decide), (br _).mono (by decide)⟩, _, rfl, _, _, rfl, rfl, W0, ?_⟩
    refine ⟨_, rfl, _, rfl, _, _, rfl, rfl, (by show (0 : Int) ≤ (b : Int) - 1 - (i : Int); omega), _, _, rfl, rfl, (by show (0 : Int) < 2; decide), rfl, _, rfl, ?_⟩
    rw [et, shr_cast]
    have hs := LN.half_step t r
    refine iteI (fun c => ?_) (fun c => ?_)
    · refine ⟨_, rfl, _, rfl, _, _, rfl, rfl, ⟨(br _).mono (by decide), bx.mono (by decide)⟩, _, rfl, _, _, rfl, rfl, W0, some (.int ((b : Int) - 1 - (i : Int))), ?_, rfl⟩
      show ([some (V.int x), some (V.int (t : Int)), some (V.int W), some (V.int (x ^ (t / 2 ^ (r + 1)) % W * (x ^ (t / 2 ^ (r + 1)) % W) % W * x % W)), some (V.int ((b : Int) - 1 - (i : Int)))] : List (Option V)) = _
      rw [rest_sq, rest_sq1, show t / 2 ^ (r + 1) + t / 2 ^ (r + 1) + 1 = t / 2 ^ r by omega]
    · refine ⟨some (.int ((b : Int) - 1 - (i : Int))), ?_, rfl⟩
      show ([some (V.int x), some (V.int (t : Int)), some (V.int W), some (V.int (x ^ (t / 2 ^ (r + 1)) % W * (x ^ (t / 2 ^ (r + 1)) % W) % W)), some (V.int ((b : Int) - 1 - (i : Int)))] : List (Option V)) = _
      rw [rest_sq, show t / 2 ^ (r + 1) + t / 2 ^ (r + 1) = t / 2 ^ r by omega]
  · rintro σ H2 ⟨v, rfl, rfl⟩
    refine ⟨_, rfl, ?_⟩
    rw [Nat.sub_self, Nat.pow_zero, Nat.div_one]
    exact q
theorem ok_with_chosen_sign (T : Txt K mg) : FnOk P w K mg base CX0 5 T.f_with_chosen_sign T.d_with_chosen_sign ["one", "n"] (spChosen K) := by
  have G_known_of := (ok_known_of (P := P) (w := w) (base := base) T).mono (k := 4) (by decide)
  have G_lengthened := ok_lengthened (P := P) (w := w) (base := base) T
  refine T.F_with_chosen_sign.okq sc_with_chosen_sign (fun vs H Q E h => ?_) (fun cdv A outer s H vs Q E hr h => ?_)
  · obtain ⟨a, p, l, n, fs, rfl, _⟩ := h
    rfl
  obtain ⟨a, p, l, n, fs, rfl, la, q⟩ := h
  obtain ⟨c, h1, h2⟩ := la.at'
  have p2 := la.pr.two
  refine ⟨_, (qpss_cons (qps_if (QW.pt (qpw_and (qpt_cmpR op_eq (qpe_ix ix_tup (qpv 0) qpe_int (fun _ _ => rfl)) qpe_int (nomark _)) (qpw_and (qpt_cmpR op_eq (qpe_call G_known_of hr rfl T.m_known_of T.k_known_of T.b_known_of .nil pass0 (qpa_cons (hs := star_Name) (qpv 0) qpa_nil)) qpe_int (nomark _)) (qpw_and1 (qpt_cmpR op_eq (qpe_op op_mod (qpv 1) qpe_int) qpe_int (nomark _)))))) (qpss_one (qps_ret (qpe_call G_lengthened hr rfl T.m_lengthened T.k_lengthened T.b_lengthened .nil pass0 (qpa_cons (hs := star_Name) (qpv 0) (qpa_cons (hs := star_Constant) qpe_int qpa_nil))))) qpss_nil)
    (qpss_one (qps_ret (qpv 0)))), ?_⟩
  have stay : ¬ (p = 2 ∧ fs.length = 1 ∧ n % 2 = 0) → ∀ H', Same H H' → Q (.ref a) H' := fun z H' g => q a H' g (by
    unfold chF
    rw [if_neg z]
    exact la.same g)
  refine ⟨_, rfl, a, _, _, _, rfl, rfl, SqT.of h1, rfl, rfl, _, rfl, ?_⟩
  by_cases c1 : p = 2
  · subst c1
    refine iteT ⟨_, rfl, a, 2, l, fs, rfl, la, fun H1 g1 => ⟨rfl, _, rfl, ?_⟩⟩
    by_cases c2 : fs.length = 1
    · rw [c2]
      refine iteT ⟨_, rfl, _, _, rfl, rfl, (by show (0 : Int) < 2; decide), rfl, _, rfl, iteI (fun c3 => ?_) (fun c3 => ?_)⟩
      · refine ⟨_, rfl, a, 2, l, 0, fs, rfl, la.same g1, Int.le_refl _, by decide, fun d H2 g2 ld => q d H2 (g1.trans g2) (chF_lf la ?_)⟩
        have ne : fs ≠ [] := fun z => by rw [z] at c2; exact absurd c2 (by decide)
        obtain ⟨i, j⟩ := lg_any (p := 2) (l := l) (f := 0) la.top ne
        have ld : LeftAt K H2 d 2 (lgL l 0 fs) (lgF 0 fs) := ld
        rw [i, j] at ld
        unfold chF
        rw [if_pos ⟨rfl, c2, c3⟩]
        exact ld
      · exact ⟨_, rfl, stay (fun z => c3 z.2.2) H1 g1⟩
    · refine iteIF (fun z => c2 (by omega)) ⟨_, rfl, stay (fun z => c2 z.2.1) H1 g1⟩
  · exact iteIF (fun z => c1 z) ⟨_, rfl, stay (fun z => c1 z.1) H (Same.refl _)⟩
theorem ok_raised (T : Txt K mg) : FnOk P w K mg base (CX2 P w) 6 T.f_raised T.d_raised ["one", "n"] (spPower K T.a_NoPower (wPow K)) := by
  have G_refuse_power := (ok_refuse_power (P := P) (w := w) (base := base) T).mono (k := 5) (by decide)
  have G_power_rest := (ok_power_rest (P := P) (w := w) (base := base) T).mono (k := 5) (by decide)
  have G_with_chosen_sign := ok_with_chosen_sign (P := P) (w := w) (base := base) T
  have G_exponent := (ok_exponent (P := P) (w := w) (base := base) T).mono (k := 5) (by decide)
  have G_power_of := (ok_power_of (P := P) (w := w) (base := base) T).mono (k := 5) (by decide)
  have G_of_whole := (ok_of_whole3 (P := P) (w := w) (base := base) T).mono (k := 5) (by decide)
  have G_unit_of := (ok_unit_of (P := P) (w := w) (base := base) T).mono (k := 5) (by decide)
  have G_known_of := (ok_known_of (P := P) (w := w) (base := base) T).mono (k := 5) (by decide)
  refine T.F_raised.toD.ok2 sc_raised (fun vs H Q E h => ?_) (fun cdv A outer s H vs Q E hr h => ?_)
  · obtain ⟨a, p, l, fs, v, rfl, _⟩ := h
    rfl
  obtain ⟨a, p, l, fs, v, rfl, la, th, hE, q⟩ := h
  obtain ⟨c, h1, h2⟩ := la.at'
  have hp := la.pr
  have p2 := hp.two
  have p0 : 0 < p := by omega
  have few := la.few
  refine ⟨_, (qpss_cons (qps_expr (qpe_call G_refuse_power hr rfl T.m_refuse_power T.k_refuse_power T.b_refuse_power .nil leave_on2 (qpa_cons (hs := star_Name) (qpv 1) qpa_nil)))
    (qpss_cons (qps_set (i := 2) sc_raised.nd rfl (Or.inl rfl) (qpe_ix ix_tup (qpv 0) qpe_int (fun _ _ => rfl)))
    (qpss_cons (qps_if (qpt_cmpR op_eq (qpe_call G_known_of hr rfl T.m_known_of T.k_known_of T.b_known_of .nil pass0 (qpa_cons (hs := star_Name) (qpv 0) qpa_nil)) qpe_int (nomark _)) (qpss_one (qps_ret (qpe_tup (qpa_cons (hs := star_Name) (qpv 2) (qpa_cons (hs := star_BinOp) (qpe_op op_mulB (qpv 1) (qpe_ix ix_tup (qpv 0) qpe_int (fun _ _ => rfl))) (qpa_cons (hs := star_Tuple) (qpe_tup qpa_nil) qpa_nil)))))) qpss_nil)
    (qpss_cons (qps_set (i := 0) sc_raised.nd rfl (Or.inl rfl) (qpe_call G_with_chosen_sign hr rfl T.m_with_chosen_sign T.k_with_chosen_sign T.b_with_chosen_sign .nil pass0 (qpa_cons (hs := star_Name) (qpv 0) (qpa_cons (hs := star_Name) (qpv 1) qpa_nil))))
    (qpss_cons (qps_set (i := 3) sc_raised.nd rfl (Or.inl rfl) (qpe_op op_add (qpe_call G_known_of hr rfl T.m_known_of T.k_known_of T.b_known_of .nil pass0 (qpa_cons (hs := star_Name) (qpv 0) qpa_nil)) (qpe_call G_exponent hr rfl T.m_exponent T.k_exponent T.b_exponent .nil pass0 (qpa_cons (hs := star_Name) (qpv 2) (qpa_cons (hs := star_Name) (qpv 1) qpa_nil)))))
    (qpss_one (qps_ret (qpe_call G_of_whole hr rfl T.m_of_whole T.k_of_whole T.b_of_whole .nil pass0 (qpa_cons (hs := star_Name) (qpv 2) (qpa_cons (hs := star_BinOp) (qpe_op op_mulB (qpv 1) (qpe_ix ix_tup (qpv 0) qpe_int (fun _ _ => rfl))) (qpa_cons (hs := star_Call) (qpe_call G_power_rest hr rfl T.m_power_rest T.k_power_rest T.b_power_rest .nil pass0 (qpa_cons (hs := star_Call) (qpe_call G_unit_of hr rfl T.m_unit_of T.k_unit_of T.b_unit_of .nil pass0 (qpa_cons (hs := star_Name) (qpv 0) qpa_nil)) (qpa_cons (hs := star_Name) (qpv 1) (qpa_cons (hs := star_Call) (qpe_call G_power_of hr rfl T.m_power_of T.k_power_of T.b_power_of .nil pass0 (qpa_cons (hs := star_Name) (qpv 2) (qpa_cons (hs := star_Name) (qpv 3) qpa_nil))) qpa_nil)))) (qpa_cons (hs := star_Name) (qpv 3) qpa_nil)))))))))))), ?_⟩
  refine ⟨_, rfl, v, rfl, th, fun z => hE z _ (Same.refl _), fun ⟨n, e, n1, n2⟩ => ?_⟩
  subst e
  have q := q n rfl n1 n2
  obtain ⟨t, ex⟩ := exq_ex p2 _ (n : Int) (Nat.le_refl _) (by omega)
  have t9 := exq_small p2 ex (by omega) (by omega)
  have bn : LN.Bd 100 (n : Int) := LN.Bd.of_abs (b := 1000) (by omega) (by omega) (by decide)
  refine ⟨_, rfl, a, _, _, _, rfl, rfl, SqT.of h1, rfl, _, rfl, a, p, l, fs, rfl, la, fun H1 g1 => ⟨rfl, _, rfl, iteI (fun z => ?_) (fun z => ?_)⟩⟩
  · have nf : fs = [] := List.length_eq_zero_iff.mp (by omega)
    refine ⟨_, rfl, _, rfl, _, rfl, a, _, _, _, rfl, rfl, SqT.of (g1 _ _ h1), rfl, _, _, rfl, rfl, ⟨bn.mono (by decide), la.bd.mono (by decide)⟩, small (by show 0 ≤ 1000; decide), fun d kd => ⟨small (by show 3 ≤ 1000; decide), fun r kr => ?_⟩⟩
    refine q _ _ (g1.trans ((same_new kd _).trans (same_new kr _))) ⟨r, (n : Int) * l, [], t, rfl, ⟨d, upd_same, (same_new kr _) _ _ upd_same⟩, Figs.nil, (fun z => nomatch z), ex, rfl, ?_, ?_⟩
    · rw [nf]
      rfl
    · show p ^ 0 ∣ _
      rw [Int.pow_zero]
      exact Int.one_dvd _
  · have ne : fs ≠ [] := fun e => z (by rw [e]; rfl)
    have C := chn p2 la.fig la.top ne ex
    refine ⟨_, rfl, _, rfl, a, p, l, (n : Int), fs, rfl, la.same g1, fun c2 H2 g2 lc => ?_⟩
    generalize chF p fs n = cs at *
    obtain ⟨c3, k1, k2⟩ := lc.at'
    have few2 := lc.few
    have g12 := g1.trans g2
    have kc : 1 ≤ cs.length := List.length_pos_iff.mpr C.ne
    refine ⟨_, rfl, c2, p, l, cs, rfl, lc, fun H3 g3 => ⟨_, rfl, _, rfl, p, (n : Int), rfl, p2, by omega, bn.mono (by decide), fun t' m' H4 g4 en nm => ?_⟩⟩
    obtain rfl := LN.Exq.one p2 ⟨m', en, nm⟩ ex
    have g34 := g3.trans g4
    refine ⟨_, _, rfl, rfl, ?_⟩
    obtain ⟨m, em⟩ : ∃ m, cs.length + t' = m := ⟨_, rfl⟩
    have bu : LN.Bd 20000 (un p cs) := hp.un lc.fig (by omega)
    refine ⟨_, rfl, _, rfl, _, rfl, c2, _, _, _, rfl, rfl, SqT.of (g34 _ _ k1), rfl, _, _, rfl, rfl, ⟨bn.mono (by decide), la.bd.mono (by decide)⟩, ?_⟩
    refine ⟨_, rfl, c2, p, l, cs, rfl, lc.same g34, fun H5 g5 => ⟨_, rfl, _, rfl, _, rfl, p, m, (by rw [← em]; rfl), hp.bd.mono (by decide), by omega, ?_⟩⟩
    have W2 : 2 ≤ p ^ m := by
      have := two_pow p2 m
      have h2 : (2 : Int) ^ 1 ≤ 2 ^ m := by
        obtain ⟨j, rfl⟩ : ∃ j, m = 1 + j := ⟨m - 1, by omega⟩
        rw [Int.pow_add]
        have : (1 : Int) ≤ 2 ^ j := Int.pow_pos (by decide)
        omega
      omega
    have bW : LN.Bd 20000 (p ^ m) := hp.pow (by omega)
    refine ⟨un p cs, p ^ m, n, rfl, bu, W2, bW, by omega, ?_⟩
    have pd : p ∣ p ^ m := by
      have := pow_split (p := p) (show 1 ≤ m by omega)
      rwa [Int.pow_one] at this
    have nr : ¬ p ∣ un p cs ^ n % p ^ m := fun z => by
      have e := Int.mul_ediv_add_emod (un p cs ^ n) (p ^ m)
      refine pow_free hp (un_free p2 lc.fig lc.top C.ne) n ?_
      rw [← e]
      exact Int.dvd_add (Int.dvd_trans pd (Int.dvd_mul_right _ _)) z
    have rb : LN.Bd 20000 (un p cs ^ n % p ^ m) := bW.of_le (by have := Int.emod_nonneg (un p cs ^ n) (show p ^ m ≠ 0 by omega); have := Int.emod_lt_of_pos (un p cs ^ n) (show 0 < p ^ m by omega); omega)
    refine ⟨_, rfl, p, (n : Int) * l, un p cs ^ n % p ^ m, m, (by rw [← em]; rfl), hp, (bn.mul la.bd).mono (by decide), by omega, rb.mono (by decide), fun z => absurd (by rw [z]; exact Int.dvd_zero _) nr, fun _ => nr, fun r H6 g6 lr => ?_⟩
    refine q _ _ (g12.trans (g34.trans (g5.trans g6))) ⟨r, (n : Int) * l, _, t', rfl, lr, digs_figs p0, digs_top nr _, ex, rfl, ?_, ?_⟩
    · rw [digs_len, C.len, em]
    · rw [digs_len]
      obtain ⟨k, hk⟩ := digs_cong p0 m (un p cs ^ n % p ^ m)
      have e := Int.mul_ediv_add_emod (un p cs ^ n) (p ^ m)
      rw [← C.un']
      generalize un p cs ^ n / p ^ m = w at *
      generalize un p cs ^ n % p ^ m = y at *
      exact ⟨-k - w, by grind⟩
theorem ok_refuse_divisor (T : Txt K mg) : FnOk P w K mg base (CX2 P w) 2 T.f_refuse_divisor T.d_refuse_divisor ["one", "other"] (L2.spRefQ K T.a_Unlike T.a_NoQuotient) := by
  have G_refuse_unlike := ok_refuse_unlike (P := P) (w := w) (base := base) T
  have G_known_of := ok_known_of (P := P) (w := w) (base := base) T
  refine T.F_refuse_divisor.toD.ok2 sc_refuse_divisor (fun vs H Q E h => ?_) (fun cdv A outer s H vs Q E hr h => ?_)
  · obtain ⟨a, b, p, l, p', l', fs, fs', rfl, _⟩ := h
    rfl
  obtain ⟨a, b, p, l, p', l', fs, fs', rfl, la, lb, hU, hN, q⟩ := h
  refine ⟨_, (qpss_cons (qps_expr (qpe_call G_refuse_unlike hr rfl T.m_refuse_unlike T.k_refuse_unlike T.b_refuse_unlike .nil leave_on2 (qpa_cons (hs := star_Name) (qpv 0) (qpa_cons (hs := star_Name) (qpv 1) qpa_nil))))
    (qpss_one (qps_if (qpt_cmpR op_eq (qpe_call G_known_of hr rfl T.m_known_of T.k_known_of T.b_known_of .nil pass0 (qpa_cons (hs := star_Name) (qpv 1) qpa_nil)) qpe_int (nomark _)) (qpss_one (qps_raise throws_new2 rfl T.m_NoQuotient T.x_NoQuotient rfl (qpa_cons (hs := star_Constant) qpe_str qpa_nil))) qpss_nil))), ?_⟩
  refine ⟨_, rfl, _, rfl, a, b, p, l, p', l', fs, fs', rfl, la, lb, hU, fun e => ?_⟩
  refine ⟨_, rfl, b, p', l', fs', rfl, lb, fun H1 g1 => ⟨rfl, _, rfl, iteI (fun z => ?_) (fun z => ?_)⟩⟩
  · exact ⟨small (by show 1 ≤ 1000; decide), hN e (List.length_eq_zero_iff.mp (by omega)) H1 g1⟩
  · exact q e (fun n => z (by rw [n]; rfl)) H1 g1
theorem ok_divided (T : Txt K mg) : FnOk P w K mg base (CX2 P w) 4 T.f_divided T.d_divided ["one", "other"] (spQuo K T.a_Unlike T.a_NoQuotient (wQuot K)) := by
  have G_refuse_divisor := (ok_refuse_divisor (P := P) (w := w) (base := base) T).mono (k := 3) (by decide)
  have G_first_figures := (ok_first_figures3 (P := P) (w := w) (base := base) T).mono (k := 3) (by decide)
  have G_known_of := (ok_known_of (P := P) (w := w) (base := base) T).mono (k := 3) (by decide)
  have G_unit_of := (ok_unit_of (P := P) (w := w) (base := base) T).mono (k := 3) (by decide)
  have G_left_number := ok_left_number (P := P) (w := w) (base := base) T
  refine T.F_divided.toD.ok2 sc_divided (fun vs H Q E h => ?_) (fun cdv A outer s H vs Q E hr h => ?_)
  · obtain ⟨a, b, p, l, p', l', fs, fs', rfl, _⟩ := h
    rfl
  obtain ⟨a, b, p, l, p', l', fs, fs', rfl, la, lb, hU, hN, q⟩ := h
  obtain ⟨c, h1, h2⟩ := la.at'
  obtain ⟨c', h1', h2'⟩ := lb.at'
  refine ⟨_, (qpss_cons (qps_expr (qpe_call G_refuse_divisor hr rfl T.m_refuse_divisor T.k_refuse_divisor T.b_refuse_divisor .nil leave_on2 (qpa_cons (hs := star_Name) (qpv 0) (qpa_cons (hs := star_Name) (qpv 1) qpa_nil))))
    (qpss_cons (qps_set (i := 2) sc_divided.nd rfl (Or.inl rfl) (qpe_callB (call_min2 rfl) rfl T.z_min bt_min (qpa_cons (hs := star_Call) (qpe_call G_known_of hr rfl T.m_known_of T.k_known_of T.b_known_of .nil pass0 (qpa_cons (hs := star_Name) (qpv 0) qpa_nil)) (qpa_cons (hs := star_Call) (qpe_call G_known_of hr rfl T.m_known_of T.k_known_of T.b_known_of .nil pass0 (qpa_cons (hs := star_Name) (qpv 1) qpa_nil)) qpa_nil))))
    (qpss_one (qps_ret (qpe_call G_left_number hr rfl T.m_left_number T.k_left_number T.b_left_number .nil pass2 (qpa_cons (hs := star_Subscript) (qpe_ix ix_tup (qpv 0) qpe_int (fun _ _ => rfl)) (qpa_cons (hs := star_BinOp) (qpe_op op_sub (qpe_ix ix_tup (qpv 0) qpe_int (fun _ _ => rfl)) (qpe_ix ix_tup (qpv 1) qpe_int (fun _ _ => rfl))) (qpa_cons (hs := star_Call) (qpe_call G_first_figures hr rfl T.m_first_figures T.k_first_figures T.b_first_figures .nil pass0 (qpa_cons (hs := star_Subscript) (qpe_ix ix_tup (qpv 0) qpe_int (fun _ _ => rfl)) (qpa_cons (hs := star_Call) (qpe_call G_unit_of hr rfl T.m_unit_of T.k_unit_of T.b_unit_of .nil pass0 (qpa_cons (hs := star_Name) (qpv 0) qpa_nil)) (qpa_cons (hs := star_Call) (qpe_call G_unit_of hr rfl T.m_unit_of T.k_unit_of T.b_unit_of .nil pass0 (qpa_cons (hs := star_Name) (qpv 1) qpa_nil)) (qpa_cons (hs := star_Name) (qpv 2) qpa_nil))))) qpa_nil)))))))), ?_⟩
  refine ⟨_, rfl, _, rfl, a, b, p, l, p', l', fs, fs', rfl, la, lb, fun e => hU e _ (Same.refl _), hN, fun e ne H0 g0 => ?_⟩
  have q2 := q e ne
  subst e
  have hp := la.pr
  have p2 := hp.two
  have p0 : 0 < p := by omega
  have few := la.few
  have few' := lb.few
  refine ⟨_, rfl, a, p, l, fs, rfl, la.same g0, fun H1 g1 => ⟨_, rfl, b, p, l', fs', rfl, lb.same (g0.trans g1), fun H2 g2 => ⟨_, _, rfl, ?_⟩⟩⟩
  have g12 := g0.trans (g1.trans g2)
  have la2 := la.same g12
  have lb2 := lb.same g12
  have h1 := g12 _ _ h1
  have h1' := g12 _ _ h1'
  rw [show (if (fs'.length : Int) < (fs.length : Int) then (fs'.length : Int) else (fs.length : Int)) = ((min fs.length fs'.length : Nat) : Int) by split <;> omega]
  have bu : LN.Bd 20000 (un p fs) := hp.un la.fig (by omega)
  have bu' : LN.Bd 20000 (un p fs') := hp.un lb.fig (by omega)
  have nb : ¬ p ∣ un p fs' := un_free p2 lb.fig lb.top ne
  have hcb := back_ok hp nb
  refine ⟨_, rfl, a, _, _, _, rfl, rfl, SqT.of h1, rfl, _, rfl, a, _, _, _, rfl, rfl, SqT.of h1, rfl, _, rfl, b, _, _, _, rfl, rfl, SqT.of h1', rfl, _, _, rfl, rfl, ?_⟩
  refine ⟨_, rfl, a, _, _, _, rfl, rfl, SqT.of h1, rfl, _, rfl, a, p, l, fs, rfl, la2, fun H3 g3 => ⟨_, rfl, b, p, l', fs', rfl, lb2.same g3, fun H4 g4 => ?_⟩⟩
  refine ⟨_, rfl, p, un p fs, un p fs', min fs.length fs'.length, rfl, hp, by omega, nb, bu.mono (by decide), bu'.mono (by decide), fun d H5 g5 hd => ?_⟩
  generalize em : min fs.length fs'.length = m at *
  have fg : Figs p (qdigs p (un p fs') (backOf p (un p fs')) m (un p fs)) := qdigs_figs p0
  refine ⟨.int p, .int (l - l'), .ref d, .inr (p, l - l', qdigs p (un p fs') (backOf p (un p fs')) m (un p fs)), rfl, .good hp ((la.bd.sub lb.bd).mono (by decide)) (.ok (.inl (SqL.of hd)) fg (by rw [qdigs_len]; omega)), (fun k e => nomatch e), fun p' x fs2 e a' H' g' lr => ?_⟩
  cases e
  have top : (qdigs p (un p fs') (backOf p (un p fs')) m (un p fs)).head? ≠ some 0 := by
    by_cases nf : fs = []
    · rw [show m = 0 by rw [← em, nf]; exact Nat.zero_min _]
      exact fun z => nomatch z
    · exact qdigs_top hcb (un_free p2 la.fig la.top nf) _
  rw [lead_top top, List.drop_zero] at lr
  refine q2 _ _ (g12.trans (g3.trans (g4.trans (g5.trans g')))) ⟨a', _, _, rfl, lr, fg, top, ?_, ?_, ?_⟩
  · show l - l' + ((0 : Nat) : Int) = _
    omega
  · rw [qdigs_len, em]
  · rw [qdigs_len]
    obtain ⟨k, hk⟩ := qdigs_cong p0 hcb m (un p fs)
    exact ⟨-k, by grind⟩
theorem ok_l_cell_at (T : Txt K mg) : FnOk P w K mg base CX0 1 T.f_l_cell_at T.d_l_cell_at ["_law_script", "_law_k"] (spCell K) := by
  refine T.F_l_cell_at.okq sc_l_cell_at (fun vs H Q E h => ?_) (fun cdv A outer s H vs Q E hr h => ?_)
  · obtain ⟨a, ns, k, rfl, _⟩ := h
    rfl
  obtain ⟨a, ns, k, rfl, hS, q⟩ := h
  refine ⟨_, (qpss_cons (qps_if (qpt_cmpR op_lt (qpv 1) (qpe_callB call_len_seq rfl T.z_len bt_len (qpa_cons (hs := star_Name) (qpv 0) qpa_nil)) (nomark _)) (qpss_one (qps_ret (qpe_ix ix_list (qpv 0) (qpv 1) (fun _ _ => rfl)))) qpss_nil)
    (qpss_one (qps_ret qpe_int))), ?_⟩
  refine ⟨_, rfl, _, rfl, a, _, rfl, .inl hS, _, _, rfl, rfl, _, rfl, ?_⟩
  have hl : (ns.map V.int).length = ns.length := List.length_map _
  refine iteL (fun c => ?_) (fun c => ?_)
  · rw [hl] at c
    exact ⟨_, rfl, _, rfl, a, _, _, _, rfl, rfl, hS, cell_there (by omega), q⟩
  · rw [hl] at c
    rw [cell_none (by omega)] at q
    exact q
theorem ok_l_power (T : Txt K mg) : FnOk P w K mg base CX0 1 T.f_l_power T.d_l_power ["_law_p", "_law_times"] spPow51 := by
  refine T.F_l_power.okq sc_l_power (fun vs H Q E h => ?_) (fun cdv A outer s H vs Q E hr h => ?_)
  · obtain ⟨p, k, rfl, _⟩ := h
    rfl
  obtain ⟨p, k, rfl, hp, hk, q⟩ := h
  refine ⟨_, (qpss_cons (qps_set (i := 2) sc_l_power.nd rfl (Or.inl rfl) qpe_int)
    (qpss_cons (qps_for PassesOwn.never rfl (qpi_range1 rfl T.z_range (qpa_cons (hs := star_Name) (qpv 1) qpa_nil)) (qpg_name (i := 3) sc_l_power.nd rfl (Or.inl rfl)) (qpss_one (qps_set (i := 2) sc_l_power.nd rfl (Or.inl rfl) (qpe_op op_mulB (qpv 2) (qpv 0)))))
    (qpss_one (qps_ret (qpv 2))))), ?_⟩
  refine ⟨_, rfl, (k : Int), rfl, by omega, by omega, ?_⟩
  refine for_rangeN (lo := 0) (n := k) (fun i σ H' => H' = H ∧ ∃ (v : Option V), σ = [some (.int p), some (.int (k : Int)), some (.int (p ^ i)), v])
    ⟨rfl, none, by rw [Int.pow_zero]; rfl⟩ ?_ ?_
  · rintro i σ H' hi ⟨rfl, v, rfl⟩
    refine ⟨_, rfl, _, rfl, _, _, rfl, rfl, ⟨hp.pow (by omega), hp.bd.mono (by decide)⟩, rfl, some (.int (0 + (i : Int))), ?_⟩
    rw [Int.pow_succ]
    rfl
  rintro σ H' ⟨rfl, v, rfl⟩
  exact ⟨_, rfl, q⟩
theorem ok_l_prime (T : Txt K mg) : FnOk P w K mg base CX0 1 T.f_l_prime T.d_l_prime ["_law_cell"] spPrimeC := by
  refine T.F_l_prime.okq sc_l_prime (fun vs H Q E h => ?_) (fun cdv A outer s H vs Q E hr h => ?_)
  · obtain ⟨c, rfl, _⟩ := h
    rfl
  obtain ⟨c, rfl, q⟩ := h
  refine ⟨_, (qpss_cons (qps_set (i := 1) sc_l_prime.nd rfl (Or.inl rfl) (qpe_lst (qpa_cons (hs := star_Constant) qpe_int (qpa_cons (hs := star_Constant) qpe_int (qpa_cons (hs := star_Constant) qpe_int (qpa_cons (hs := star_Constant) qpe_int (qpa_cons (hs := star_Constant) qpe_int (qpa_cons (hs := star_Constant) qpe_int (qpa_cons (hs := star_Constant) qpe_int (qpa_cons (hs := star_Constant) qpe_int (qpa_cons (hs := star_Constant) qpe_int (qpa_cons (hs := star_Constant) qpe_int (qpa_cons (hs := star_Constant) qpe_int (qpa_cons (hs := star_Constant) qpe_int (qpa_cons (hs := star_Constant) qpe_int (qpa_cons (hs := star_Constant) qpe_int (qpa_cons (hs := star_Constant) qpe_int (qpa_cons (hs := star_Constant) qpe_int (qpa_cons (hs := star_Constant) qpe_int (qpa_cons (hs := star_Constant) qpe_int (qpa_cons (hs := star_Constant) qpe_int (qpa_cons (hs := star_Constant) qpe_int (qpa_cons (hs := star_Constant) qpe_int (qpa_cons (hs := star_Constant) qpe_int (qpa_cons (hs := star_Constant) qpe_int (qpa_cons (hs := star_Constant) qpe_int (qpa_cons (hs := star_Constant) qpe_int qpa_nil)))))))))))))))))))))))))))
    (qpss_one (qps_ret (qpe_ix ix_list (qpe_op op_cat (qpv 1) (qpe_lst (qpa_cons (hs := star_Constant) qpe_int (qpa_cons (hs := star_Constant) qpe_int (qpa_cons (hs := star_Constant) qpe_int (qpa_cons (hs := star_Constant) qpe_int (qpa_cons (hs := star_Constant) qpe_int (qpa_cons (hs := star_Constant) qpe_int (qpa_cons (hs := star_Constant) qpe_int qpa_nil))))))))) (qpe_op op_mod (qpv 0) qpe_int) (fun _ _ => rfl))))), ?_⟩
  refine ⟨small (by show 25 ≤ 1000; decide), fun l hl => ?_⟩
  refine ⟨_, rfl, small (by show 7 ≤ 1000; decide), fun l2 h2 => ⟨l, l2, _, _, rfl, rfl, (same_new h2 _) _ _ upd_same, upd_same, small (by show 32 ≤ 1000; decide), fun l3 h3 => ?_⟩⟩
  obtain ⟨pv, hpv, p, rfl, hp⟩ := at_rest (xs := primes32.map V.int) (i := c % 32) (Int.emod_nonneg _ (by decide)) (Int.emod_lt_of_pos _ (by decide)) primes32_at
  exact ⟨_, rfl, _, _, rfl, rfl, (by show (0 : Int) < 32; decide), l3, _, _, _, rfl, rfl, SqL.of upd_same, hpv, q p _ ((same_new hl _).trans ((same_new h2 _).trans (same_new h3 _))) hp⟩
theorem ok_l_divisor (T : Txt K mg) : FnOk P w K mg base CX0 1 T.f_l_divisor T.d_l_divisor ["_law_one", "_law_other"] spDiv51 := by
  refine T.F_l_divisor.okq sc_l_divisor (fun vs H Q E h => ?_) (fun cdv A outer s H vs Q E hr h => ?_)
  · obtain ⟨x, y, rfl, _⟩ := h
    rfl
  obtain ⟨x, y, rfl, hx, hy, q⟩ := h
  refine ⟨_, (qpss_cons (qps_while PassesOwn.never (qpt_cmpR op_gt (qpv 1) qpe_int (nomark _)) (qpss_one (qps_par (i := 0) (j := 1) rfl sc_l_divisor.nd rfl rfl (by decide) rfl rfl (qpa_cons (hs := star_Name) (qpv 1) (qpa_cons (hs := star_BinOp) (qpe_op op_mod (qpv 0) (qpv 1)) qpa_nil)) (by rfl))))
    (qpss_one (qps_ret (qpv 0)))), ?_⟩
  generalize eg : Nat.gcd x.natAbs y.natAbs = g at q
  refine ⟨fun m σ H2 => ∃ (x y : Int), σ = [some (.int x), some (.int y)] ∧ H2 = H ∧ 0 ≤ x ∧ 0 ≤ y ∧ Nat.gcd x.natAbs y.natAbs = g ∧ m = y.natAbs, ⟨_, x, y, rfl, rfl, hx, hy, eg, rfl⟩, ?_⟩
  clear hx hy eg x y
  rintro m σ H2 ⟨x, y, rfl, rfl, hx, hy, eg, rfl⟩
  refine ⟨_, rfl, _, _, rfl, rfl, _, rfl, iteP (fun hn => ?_) (fun h0 => ?_)⟩
  · have hp : 0 < y := by omega
    refine ⟨_, fun σ' H' h => h, ?_⟩
    refine ⟨_, rfl, _, rfl, _, rfl, _, _, rfl, rfl, hp, _, _, rfl, _, LN.mod_lt (x := x) hp, y, x % y, rfl, rfl, hy, Int.emod_nonneg _ (by omega), (LN.gcd_turnI hx hp).trans eg, rfl⟩
  · refine ⟨_, rfl, ?_⟩
    have h0 : y = 0 := by omega
    subst h0
    rw [← eg, LN.gcd_zero hx] at q
    exact q
theorem ok_l_without (T : Txt K mg) : FnOk P w K mg base CX0 1 T.f_l_without T.d_l_without ["_law_p", "_law_number"] spWithout53 := by
  refine T.F_l_without.okq sc_l_without (fun vs H Q E h => ?_) (fun cdv A outer s H vs Q E hr h => ?_)
  · obtain ⟨p, t, rfl, _⟩ := h
    rfl
  obtain ⟨p, n, rfl, hp, hp97, hn, q⟩ := h
  refine ⟨_, (qpss_cons (qps_while PassesOwn.never (qpt_cmpR op_eq (qpe_op op_mod (qpv 1) (qpv 0)) qpe_int (nomark _)) (qpss_one (qps_set (i := 1) sc_l_without.nd rfl (Or.inl rfl) (qpe_op op_fdivB (qpv 1) (qpv 0)))))
    (qpss_one (qps_ret (qpv 1)))), ?_⟩
  refine ⟨fun m σ H2 => ∃ (k : Int) (j : Nat), σ = [some (.int p), some (.int k)] ∧ H2 = H ∧ n = k * p ^ j ∧ k ≠ 0 ∧ m = k.natAbs, ⟨_, n, 0, rfl, rfl, by rw [Int.pow_zero, Int.mul_one], hn, rfl⟩, ?_⟩
  rintro m σ H2 ⟨k, j, rfl, rfl, e, hk, rfl⟩
  refine ⟨_, rfl, _, rfl, _, _, rfl, rfl, (by show 0 < p; omega), rfl, _, rfl, iteI (fun c => ?_) (fun c => ?_)⟩
  · refine ⟨_, fun σ' H' h => h, ?_⟩
    obtain ⟨i, hi⟩ := Int.dvd_of_emod_eq_zero c
    have ei : k / p = i := by rw [hi]; exact Int.mul_ediv_cancel_left _ (by omega)
    have i0 : i ≠ 0 := fun z => hk (by rw [hi, z, Int.mul_zero])
    have lt : i.natAbs < k.natAbs := by
      rw [hi, Int.natAbs_mul]
      have := Nat.mul_le_mul_right i.natAbs (show 2 ≤ p.natAbs by omega)
      omega
    exact ⟨_, rfl, _, rfl, _, _, rfl, rfl, ⟨by omega, LN.Bd.of_abs (b := 97) (by omega) (by omega) (by decide +kernel)⟩, i.natAbs, lt, i, j + 1, by rw [← ei]; rfl, rfl, by rw [e, hi, Int.pow_succ]; grind, i0, rfl⟩
  · exact ⟨_, rfl, q k j e fun z => c (Int.emod_eq_zero_of_dvd z)⟩
theorem ok_l_enough (T : Txt K mg) : FnOk P w K mg base CX0 1 T.f_l_enough T.d_l_enough ["_law_p", "_law_size"] spEnough55 := by
  refine T.F_l_enough.okq sc_l_enough (fun vs H Q E h => ?_) (fun cdv A outer s H vs Q E hr h => ?_)
  · obtain ⟨p, S, rfl, _⟩ := h
    rfl
  obtain ⟨p, S, rfl, hp, S1, bS, q⟩ := h
  have p2 := hp.two
  refine ⟨_, (qpss_cons (qps_set (i := 2) sc_l_enough.nd rfl (Or.inl rfl) qpe_int)
    (qpss_cons (qps_set (i := 3) sc_l_enough.nd rfl (Or.inl rfl) qpe_int)
    (qpss_cons (qps_while PassesOwn.never (qpt_cmpR op_le (qpv 3) (qpe_op op_mulB (qpe_op op_mulB qpe_int (qpv 1)) (qpv 1)) (nomark _)) (qpss_cons (qps_set (i := 3) sc_l_enough.nd rfl (Or.inl rfl) (qpe_op op_mulB (qpv 3) (qpv 0)))
    (qpss_one (qps_set (i := 2) sc_l_enough.nd rfl (Or.inl rfl) (qpe_op op_add (qpv 2) qpe_int)))))
    (qpss_one (qps_ret (qpv 2)))))), ?_⟩
  change tSeq (tWhile _ _) _ _ _ _
  refine ⟨fun m σ H2 => ∃ k : Nat, σ = [some (.int p), some (.int S), some (.int (k : Int)), some (.int (p ^ k))] ∧ H2 = H ∧ k ≤ 250 ∧ LN.Bd 240 (p ^ k) ∧ m = (2 * (S * S) + 1 - p ^ k).toNat, ⟨_, 0, by rw [Int.pow_zero]; rfl, rfl, by decide, by rw [Int.pow_zero]; exact LN.Bd.of_abs (b := 1) (by decide) (by decide) (by decide +kernel), rfl⟩, ?_⟩
  rintro m σ H2 ⟨k, rfl, rfl, hk, bk, rfl⟩
  have e2 : 2 * S * S = 2 * (S * S) := Int.mul_assoc ..
  refine ⟨_, rfl, _, rfl, _, _, rfl, rfl, ⟨bd_small (by decide) (by decide) (by decide), bS.mono (by decide)⟩, _, rfl, _, _, rfl, rfl, ⟨((bd_small (n := 64) (by decide) (by decide) (by decide)).mul bS).mono (by decide), bS.mono (by decide)⟩, _, _, rfl, rfl, _, rfl, iteG (fun le => ?_) (fun gt => ?_)⟩
  · rw [e2] at le
    have b2 : LN.Bd 230 (2 * (S * S)) := ((LN.Bd.of_abs (n := 3) (b := 2) (by omega) (by omega) (by decide)).mul (bS.mul bS)).mono (by decide)
    have kl : k < 250 := Nat.lt_of_lt_of_le (pow_small p2 le b2) (by decide)
    have pk := Int.pow_pos (m := k) (show 0 < p by omega)
    have bk' : LN.Bd 240 (p ^ (k + 1)) := by
      rw [Int.pow_succ]
      exact ((b2.of_le (by omega)).mul hp.bd).mono (by decide)
    have up : p ^ k < p ^ (k + 1) := by
      rw [Int.pow_succ]
      have := Int.mul_le_mul_of_nonneg_left p2 (show 0 ≤ p ^ k by omega)
      omega
    refine ⟨_, fun σ' H' h => h, ?_⟩
    refine ⟨_, rfl, _, rfl, _, _, rfl, rfl, ⟨hp.pow (by omega), hp.bd.mono (by decide)⟩, _, rfl, _, _, rfl, rfl, (2 * (S * S) + 1 - p ^ (k + 1)).toNat, by omega, k + 1, by rw [Int.pow_succ]; rfl, rfl, by omega, bk', rfl⟩
  · rw [e2] at gt
    exact ⟨_, rfl, q k (by omega) hk bk⟩
theorem At55.same {H H' : Hp} {a : Addr} {p x y t b l N L : Int} (h : At55 H a p x y t b l N L) (g : Same H H') : At55 H' a p x y t b l N L := ⟨g _ _ h.at', h.fr, h.tN, h.bN, h.l0, h.l1⟩
theorem ok_l_lowest (T : Txt K mg) : FnOk P w K mg base CX0 2 T.f_l_lowest T.d_l_lowest ["_law_top", "_law_bottom"] spLow55 := by
  have G_l_divisor := ok_l_divisor (P := P) (w := w) (base := base) T
  refine T.F_l_lowest.okq sc_l_lowest (fun vs H Q E h => ?_) (fun cdv A outer s H vs Q E hr h => ?_)
  · obtain ⟨T', D, rfl, _⟩ := h
    rfl
  obtain ⟨t, b, rfl, hb, b2, q⟩ := h
  refine ⟨_, (qpss_cons (qps_set (i := 2) sc_l_lowest.nd rfl (Or.inl rfl) (qpe_call G_l_divisor hr rfl T.m_l_divisor T.k_l_divisor T.b_l_divisor .nil pass0 (qpa_cons (hs := star_Call) (qpe_callB call_abs rfl T.z_abs bt_abs (qpa_cons (hs := star_Name) (qpv 0) qpa_nil)) (qpa_cons (hs := star_Call) (qpe_callB call_abs rfl T.z_abs bt_abs (qpa_cons (hs := star_Name) (qpv 1) qpa_nil)) qpa_nil))))
    (qpss_cons (qps_if (qpt_cmpR op_lt (qpv 1) qpe_int (nomark _)) (qpss_one (qps_set (i := 2) sc_l_lowest.nd rfl (Or.inl rfl) (qpe_un un_neg (qpv 2)))) qpss_nil)
    (qpss_one (qps_ret (qpe_tup (qpa_cons (hs := star_BinOp) (qpe_op op_fdivN2 (qpv 0) (qpv 2)) (qpa_cons (hs := star_BinOp) (qpe_op op_fdivN2 (qpv 1) (qpv 2)) qpa_nil))))))), ?_⟩
  have c0 := LN.gcd_ne (t := t) hb
  have cb := (LN.gcd_bd (t := t) hb b2).mono (n := 8000) (by decide)
  refine ⟨_, rfl, t, rfl, _, rfl, b, rfl, _, _, rfl, LN.abs_nn t, LN.abs_nn b, ?_⟩
  rw [LN.abs_abs, LN.abs_abs]
  refine ⟨_, rfl, _, _, rfl, rfl, _, rfl, iteL (fun hn => ?_) (fun hn => ?_)⟩
  · refine ⟨_, rfl, _, rfl, ?_⟩
    refine ⟨_, rfl, _, rfl, _, _, rfl, rfl, ⟨by omega, cb.neg⟩, _, rfl, _, rfl, _, _, rfl, rfl, ⟨by omega, cb.neg⟩, small (by show 2 ≤ 1000; decide), fun p hp => ?_⟩
    exact q p _ _ _ (same_new hp _) upd_same (LN.Low.of rfl hb (by omega) (by omega) (by omega))
  · refine ⟨_, rfl, _, rfl, _, _, rfl, rfl, ⟨c0, cb⟩, _, rfl, _, rfl, _, _, rfl, rfl, ⟨c0, cb⟩, small (by show 2 ≤ 1000; decide), fun p hp => ?_⟩
    exact q p _ _ _ (same_new hp _) upd_same (LN.Low.of rfl hb (by omega) (by omega) (by omega))
theorem max_nat (l : Int) : (if l > 0 then l else 0) = ((l.toNat : Nat) : Int) := by split <;> omega
theorem e6 : (10 : Int) ^ (6 : Int).toNat = 1000000 := by decide +kernel
theorem ok_l_part (T : Txt K mg) : FnOk P w K mg base CX0 3 T.f_l_part T.d_l_part ["_law_p", "_law_cells"] spPart55 := by
  have G_l_lowest := ok_l_lowest (P := P) (w := w) (base := base) T
  have G_l_without := (ok_l_without (P := P) (w := w) (base := base) T).mono (k := 2) (by decide)
  have G_l_power := (ok_l_power (P := P) (w := w) (base := base) T).mono (k := 2) (by decide)
  refine T.F_l_part.okq sc_l_part (fun vs H Q E h => ?_) (fun cdv A outer s H vs Q E hr h => ?_)
  · obtain ⟨p, cl, c0, c1, c2, rfl, _⟩ := h
    rfl
  obtain ⟨p, cl, c0, c1, c2, rfl, hp, hc, q⟩ := h
  have p2 := hp.two
  have p97 := hp.most
  have p0 : 0 < p := by omega
  have s2 : ∀ {x y : V}, ([x, y] : List V).length ≤ sizeLine := small (by show 2 ≤ 1000; decide)
  have s3 : ∀ {x y z : V}, ([x, y, z] : List V).length ≤ sizeLine := small (by show 3 ≤ 1000; decide)
  refine ⟨_, (qpss_cons (qps_set (i := 2) sc_l_part.nd rfl (Or.inl rfl) (qpe_ix ix_list (qpe_lst (qpa_cons (hs := star_Constant) qpe_int (qpa_cons (hs := star_Constant) qpe_int (qpa_cons (hs := star_BinOp) (qpe_op op_pow qpe_int qpe_int) qpa_nil)))) (qpe_op op_mod (qpe_ix ix_list (qpv 1) qpe_int (fun _ _ => rfl)) qpe_int) (fun _ _ => rfl)))
    (qpss_cons (qps_set (i := 3) sc_l_part.nd rfl (Or.inl rfl) (qpe_op op_mulB (qpe_call G_l_without hr rfl T.m_l_without T.k_l_without T.b_l_without .nil pass0 (qpa_cons (hs := star_Name) (qpv 0) (qpa_cons (hs := star_BinOp) (qpe_op op_add qpe_int (qpe_op op_mod (qpe_op op_fdivB (qpe_ix ix_list (qpv 1) qpe_int (fun _ _ => rfl)) qpe_int) (qpv 2))) qpa_nil))) (qpe_ix ix_list (qpe_lst (qpa_cons (hs := star_Constant) qpe_int (qpa_cons (hs := star_UnaryOp) (qpe_un un_neg qpe_int) qpa_nil))) (qpe_op op_mod (qpe_ix ix_list (qpv 1) qpe_int (fun _ _ => rfl)) qpe_int) (fun _ _ => rfl))))
    (qpss_cons (qps_set (i := 4) sc_l_part.nd rfl (Or.inl rfl) (qpe_call G_l_without hr rfl T.m_l_without T.k_l_without T.b_l_without .nil pass0 (qpa_cons (hs := star_Name) (qpv 0) (qpa_cons (hs := star_BinOp) (qpe_op op_add qpe_int (qpe_op op_mod (qpe_op op_fdivB (qpe_ix ix_list (qpv 1) qpe_int (fun _ _ => rfl)) qpe_int) (qpv 2))) qpa_nil))))
    (qpss_cons (qps_set (i := 5) sc_l_part.nd rfl (Or.inl rfl) (qpe_op op_sub (qpe_op op_mod (qpe_ix ix_list (qpv 1) qpe_int (fun _ _ => rfl)) qpe_int) qpe_int))
    (qpss_one (qps_ret (qpe_call G_l_lowest hr rfl T.m_l_lowest T.k_l_lowest T.b_l_lowest .nil pass0 (qpa_cons (hs := star_BinOp) (qpe_op op_mulB (qpv 3) (qpe_call G_l_power hr rfl T.m_l_power T.k_l_power T.b_l_power .nil pass0 (qpa_cons (hs := star_Name) (qpv 0) (qpa_cons (hs := star_Call) (qpe_callB (call_max2 rfl) rfl T.z_max bt_max (qpa_cons (hs := star_Constant) qpe_int (qpa_cons (hs := star_Name) (qpv 5) qpa_nil))) qpa_nil)))) (qpa_cons (hs := star_BinOp) (qpe_op op_mulB (qpv 4) (qpe_call G_l_power hr rfl T.m_l_power T.k_l_power T.b_l_power .nil pass0 (qpa_cons (hs := star_Name) (qpv 0) (qpa_cons (hs := star_Call) (qpe_callB (call_max2 rfl) rfl T.z_max bt_max (qpa_cons (hs := star_Constant) qpe_int (qpa_cons (hs := star_UnaryOp) (qpe_un un_neg (qpv 5)) qpa_nil))) qpa_nil)))) qpa_nil))))))))), ?_⟩
  have a0 : atI [V.int c0, V.int c1, V.int c2] 0 = some (V.int c0) := atI_nat (j := 0) rfl
  have a1 : atI [V.int c0, V.int c1, V.int c2] 1 = some (V.int c1) := atI_nat (j := 1) rfl
  have a2 : atI [V.int c0, V.int c1, V.int c2] 2 = some (V.int c2) := atI_nat (j := 2) rfl
  have pw6 : CPow 10 6 := ⟨by decide, by decide, by decide⟩
  obtain ⟨v, hv, X, rfl, X0, X1⟩ := at_rest (xs := [V.int 30, V.int 1000, V.int ((10 : Int) ^ (6 : Int).toNat)]) (i := c0 % 3) (P := fun v => ∃ X : Int, v = .int X ∧ 0 < X ∧ X ≤ 1000000) (Int.emod_nonneg _ (by decide)) (Int.emod_lt_of_pos _ (by decide)) (fun v hv => by
    simp only [List.mem_cons, List.not_mem_nil, or_false] at hv
    rcases hv with rfl | rfl | rfl
    · exact ⟨_, rfl, by decide, by decide⟩
    · exact ⟨_, rfl, by decide, by decide⟩
    · exact ⟨_, rfl, by rw [e6]; decide, by rw [e6]; decide⟩)
  refine ⟨_, _, rfl, rfl, pw6, s3, fun u1 k1 => ?_⟩
  have g1 := same_new k1 (.lst [V.int 30, V.int 1000, V.int ((10 : Int) ^ (6 : Int).toNat)])
  have hc := g1 _ _ hc
  refine ⟨_, rfl, cl, _, _, _, rfl, rfl, SqL.of hc, a0, _, _, rfl, rfl, (by show (0 : Int) < 3; decide), u1, _, _, _, rfl, rfl, SqL.of upd_same, hv, ?_⟩
  dsimp only [gName]
  generalize upd H u1 (.lst [V.int 30, V.int 1000, V.int ((10 : Int) ^ (6 : Int).toNat)]) = H1 at g1 hc ⊢
  have x0 := Int.emod_nonneg (c0 / 3) (show X ≠ 0 by omega)
  have x1 := Int.emod_lt_of_pos (c0 / 3) X0
  have y0 := Int.emod_nonneg (c1 / 2) (show X ≠ 0 by omega)
  have y1 := Int.emod_lt_of_pos (c1 / 2) X0
  have bnd : ∀ {n m : Int} {k : Nat}, 0 < n → n ≤ 1000000 → n = m * p ^ k → 0 < m ∧ m ≤ 1000000 := fun {n m k} n0 n1 e => by
    have pk := Int.pow_pos (m := k) p0
    have m0 : 0 < m := Int.pos_of_mul_pos_left (b := p ^ k) (by omega) pk
    have := Int.le_of_dvd n0 ⟨p ^ k, e⟩
    omega
  refine ⟨_, rfl, _, rfl, cl, _, _, _, rfl, rfl, SqL.of hc, a0, _, _, rfl, rfl, dsm (by decide) (by decide), _, rfl, _, _, rfl, rfl, X0, _, _, rfl, rfl, p, 1 + c0 / 3 % X, rfl, p2, p97, by omega, fun t k et nt => ?_⟩
  obtain ⟨t0, t1⟩ := bnd (by omega) (by omega) et
  obtain ⟨sv, hsv, sg, rfl, sg1⟩ := at_rest (xs := [V.int 1, V.int (-1)]) (i := c1 % 2) (P := fun v => ∃ X : Int, v = .int X ∧ (X = 1 ∨ X = -1)) (Int.emod_nonneg _ (by decide)) (Int.emod_lt_of_pos _ (by decide)) (fun v hv => by
    simp only [List.mem_cons, List.not_mem_nil, or_false] at hv
    rcases hv with rfl | rfl
    · exact ⟨_, rfl, .inl rfl⟩
    · exact ⟨_, rfl, .inr rfl⟩)
  refine ⟨_, rfl, s2, fun u2 k2 => ?_⟩
  have g2 := same_new k2 (.lst [V.int 1, V.int (-1)])
  have hc := g2 _ _ hc
  refine ⟨_, rfl, cl, _, _, _, rfl, rfl, SqL.of hc, a1, _, _, rfl, rfl, (by show (0 : Int) < 2; decide), u2, _, _, _, rfl, rfl, SqL.of upd_same, hsv, _, _, rfl, rfl, ⟨bd_small (by decide) (by omega) (by omega), bd_small (by decide) (by omega) (by omega)⟩, ?_⟩
  dsimp only [gName]
  refine ⟨_, rfl, _, rfl, cl, _, _, _, rfl, rfl, SqL.of hc, a1, _, _, rfl, rfl, dsm (by decide) (by decide), _, rfl, _, _, rfl, rfl, X0, _, _, rfl, rfl, p, 1 + c1 / 2 % X, rfl, p2, p97, by omega, fun b k' eb nb => ?_⟩
  obtain ⟨b0, b1⟩ := bnd (by omega) (by omega) eb
  have ts : (t * sg = t ∨ t * sg = -t) := by rcases sg1 with rfl | rfl <;> omega
  have nts : ¬ p ∣ t * sg := fun z => nt (by
    rcases ts with e | e <;> rw [e] at z
    · exact z
    · exact Int.dvd_neg.mp z)
  have l0 := Int.emod_nonneg c2 (show (5 : Int) ≠ 0 by decide)
  have l1 := Int.emod_lt_of_pos c2 (show (0 : Int) < 5 by decide)
  refine ⟨_, rfl, cl, _, _, _, rfl, rfl, SqL.of hc, a2, _, _, rfl, rfl, (by show (0 : Int) < 5; decide), _, _, rfl, rfl, ?_⟩
  dsimp only [gName]
  obtain ⟨l, el⟩ : ∃ l : Int, c2 % 5 - 2 = l := ⟨_, rfl⟩
  rw [el]
  have q1 : LN.Bd 100 (p ^ l.toNat) := hp.pow (by omega)
  have q2 : LN.Bd 100 (p ^ (-l).toNat) := hp.pow (by omega)
  have bt : LN.Bd 64 (t * sg) := bd_small (by decide) (by omega) (by omega)
  have bb : LN.Bd 64 b := bd_small (by decide) (by omega) (by omega)
  refine ⟨_, rfl, _, rfl, _, rfl, _, _, rfl, p, l.toNat, congrArg (fun z => [V.int p, V.int z]) (max_nat l), hp, by omega, _, _, rfl, rfl, ⟨bt.mono (by decide), q1.mono (by decide)⟩, ?_⟩
  refine ⟨_, rfl, _, rfl, _, rfl, _, rfl, _, _, rfl, p, (-l).toNat, congrArg (fun z => [V.int p, V.int z]) (max_nat (-l)), hp, by omega, _, _, rfl, rfl, ⟨bb.mono (by decide), q2.mono (by decide)⟩, ?_⟩
  refine ⟨t * sg * p ^ l.toNat, b * p ^ (-l).toNat, rfl, Int.mul_ne_zero (by omega) (Int.ne_of_gt (Int.pow_pos p0)), (bb.mul q2).mono (by decide), fun a x y H3 g3 ha low => ?_⟩
  obtain ⟨t', b', fr, _, dt, db⟩ := fr_made (l := l) hp nts nb rfl rfl (by omega) low
  have tl := Nat.le_of_dvd (show 0 < (t * sg).natAbs by omega) (Int.natAbs_dvd_natAbs.mpr dt)
  have bl := Int.le_of_dvd b0 db
  exact q a x y t' b' l _ (g1.trans (g2.trans g3)) ⟨ha, fr, by omega, by omega, by omega, by omega⟩
theorem ok_l_exponent (T : Txt K mg) : FnOk P w K mg base CX0 1 T.f_l_exponent T.d_l_exponent ["_law_p", "_law_part_here"] spExp55 := by
  refine T.F_l_exponent.okq sc_l_exponent (fun vs H Q E h => ?_) (fun cdv A outer s H vs Q E hr h => ?_)
  · obtain ⟨p, a, x, y, t, b, l, rfl, _⟩ := h
    rfl
  obtain ⟨p, a, x, y, t, b, l, rfl, hp, ha, fr, q⟩ := h
  have p2 := hp.two
  have p97 := hp.most
  have p0 : 0 < p := by omega
  have s2 : ∀ {x y : V}, ([x, y] : List V).length ≤ sizeLine := small (by show 2 ≤ 1000; decide)
  refine ⟨_, (qpss_cons (qps_set (i := 2) sc_l_exponent.nd rfl (Or.inl rfl) qpe_int)
    (qpss_cons (qps_for PassesOwn.never rfl (qpi_range1 rfl T.z_range (qpa_cons (hs := star_Constant) qpe_int qpa_nil)) (qpg_name (i := 3) sc_l_exponent.nd rfl (Or.inl rfl)) (qpss_cons (qps_set (i := 4) sc_l_exponent.nd rfl (Or.inl rfl) (qpe_ix ix_tup (qpv 1) (qpv 3) (fun _ _ => rfl)))
    (qpss_one (qps_while PassesOwn.never (qpt_cmpR op_eq (qpe_op op_mod (qpv 4) (qpv 0)) qpe_int (nomark _)) (qpss_cons (qps_set (i := 4) sc_l_exponent.nd rfl (Or.inl rfl) (qpe_op op_fdivB (qpv 4) (qpv 0)))
    (qpss_one (qps_set (i := 2) sc_l_exponent.nd rfl (Or.inl rfl) (qpe_op op_add (qpv 2) (qpe_ix ix_list (qpe_lst (qpa_cons (hs := star_Constant) qpe_int (qpa_cons (hs := star_UnaryOp) (qpe_un un_neg qpe_int) qpa_nil))) (qpv 3) (fun _ _ => rfl))))))))))
    (qpss_one (qps_ret (qpv 2))))), ?_⟩
  refine ⟨_, rfl, by decide, by decide, ?_⟩
  refine for_rangeN (lo := 0) (n := 2) (fun i σ H' => ∃ (m : Int) (v1 v2 : Option V), σ = [some (.int p), some (.ref a), some (.int m), v1, v2] ∧ Same H H' ∧ (i = 0 → m = 0) ∧ (i = 1 → m = (l.toNat : Int)) ∧ (i = 2 → m = l)) ⟨0, none, none, rfl, Same.refl _, fun _ => rfl, (fun z => nomatch z), (fun z => nomatch z)⟩ ?_ ?_
  · rintro i σ H1 hi ⟨m, v1, v2, rfl, g, m0, m1, _⟩
    obtain ⟨N, u, k, sg, hN, eN, nu, hsg, fin⟩ : ∃ (N u : Int) (k : Nat) (sg : Int), atI [V.int x, V.int y] (0 + (i : Int)) = some (.int N) ∧ N = u * p ^ k ∧ ¬ p ∣ u ∧ atI [V.int 1, V.int (-1)] (0 + (i : Int)) = some (.int sg) ∧ ((i + 1 = 0 → m + sg * k = 0) ∧ (i + 1 = 1 → m + sg * k = (l.toNat : Int)) ∧ (i + 1 = 2 → m + sg * k = l)) := by
      match i, hi, m0, m1 with
      | 0, _, m0, _ => exact ⟨x, t, l.toNat, 1, atI_nat (j := 0) rfl, fr.ex, fr.nt, atI_nat (j := 0) rfl, (fun z => nomatch z), fun _ => by rw [m0 rfl]; omega, (fun z => nomatch z)⟩
      | 1, _, _, m1 => exact ⟨y, b, (-l).toNat, -1, atI_nat (j := 1) rfl, fr.ey, fr.nb, atI_nat (j := 1) rfl, (fun z => nomatch z), (fun z => nomatch z), fun _ => by rw [m1 rfl]; omega⟩
    refine ⟨_, rfl, _, rfl, a, _, _, _, rfl, rfl, SqT.of (g _ _ ha), hN, ?_⟩
    refine ⟨fun d σ H2 => ∃ (j : Nat), j ≤ k ∧ d = j ∧ σ = [some (.int p), some (.ref a), some (.int (m + sg * ((k : Int) - j))), some (.int (0 + (i : Int))), some (.int (u * p ^ j))] ∧ Same H H2, ⟨_, k, Nat.le_refl _, rfl, by rw [Int.sub_self, Int.mul_zero, Int.add_zero, ← eN]; rfl, g⟩, ?_⟩
    rintro d σ H2 ⟨j, jk, rfl, rfl, g2⟩
    refine ⟨_, rfl, _, rfl, _, _, rfl, rfl, p0, rfl, _, rfl, iteI (fun c => ?_) (fun c => ?_)⟩
    · refine ⟨_, fun σ' H' h => h, ?_⟩
      match d, c, jk with
      | 0, c, _ => exact absurd (Int.dvd_of_emod_eq_zero c) (by rw [Int.pow_zero, Int.mul_one]; exact nu)
      | j + 1, c, jk =>
        have ej : u * p ^ (j + 1) / p = u * p ^ j := by rw [Int.pow_succ, ← Int.mul_assoc]; exact Int.mul_ediv_cancel _ (by omega)
        refine ⟨_, rfl, _, rfl, _, _, rfl, rfl, ⟨p0, hp.bd.mono (by decide)⟩, _, rfl, _, rfl, s2, fun w1 kw => ?_⟩
        have gw := same_new kw (.lst [.int 1, .int (-1)])
        refine ⟨_, rfl, w1, _, _, _, rfl, rfl, SqL.of upd_same, hsg, _, _, rfl, rfl, j, by omega, j, by omega, rfl, ?_, g2.trans gw⟩
        rw [← ej, show m + sg * ((k : Int) - (j : Int)) = m + sg * ((k : Int) - ((j + 1 : Nat) : Int)) + sg by rw [show (k : Int) - (j : Int) = (k : Int) - ((j + 1 : Nat) : Int) + 1 by omega, Int.mul_add, Int.mul_one]; omega]
        rfl
    · have j0 : d = 0 := by
        match d, c with
        | 0, _ => rfl
        | j + 1, c => exact absurd (Int.emod_eq_zero_of_dvd ⟨u * p ^ j, by rw [Int.pow_succ]; grind⟩) c
      subst j0
      refine ⟨m + sg * ((k : Int) - ((0 : Nat) : Int)), _, _, rfl, g2, ?_⟩
      rw [show (k : Int) - ((0 : Nat) : Int) = (k : Int) by omega]
      exact fin
  rintro σ H1 ⟨m, v1, v2, rfl, g, _, _, m2⟩
  rw [m2 rfl]
  exact ⟨_, rfl, q _ g⟩
theorem ok_l_too_few (T : Txt K mg) (G_found : FnOk P w K mg base (CX2 P w) 6 T.f_found_again T.d_found_again ["one", "size"] (spFound K T.a_NoSize T.a_TooFew dFound)) :
    FnOk P w K mg base CX0 7 T.f_l_too_few T.d_l_too_few ["_law_one", "_law_size"] (spTooFew55 K) := by
  have G_found_again := G_found.one
  refine T.F_l_too_few.okq sc_l_too_few (fun vs H Q E h => ?_) (fun cdv A outer s H vs Q E hr h => ?_)
  · obtain ⟨a, p, l, S, fs, rfl, _⟩ := h
    rfl
  obtain ⟨a, p, l, S, fs, rfl, la, fl, l0, l1, bS, S1, few, q⟩ := h
  refine ⟨_, (qpss_cons (qps_set (i := 2) sc_l_too_few.nd rfl (Or.inl rfl) qpe_bl)
    (qpss_cons (qps_try G_found_again hr rfl T.m_found_again T.k_found_again T.b_found_again .nil (fun _ => (qpa_cons (hs := star_Name) (qpv 0) (qpa_cons (hs := star_Name) (qpv 1) qpa_nil))) rfl rfl (fun _ => PassesOwnAt.never) rfl T.m_TooFew T.x_TooFew (fun _ => (qpss_one (qps_set (i := 2) sc_l_too_few.nd rfl (Or.inl rfl) qpe_bl))))
    (qpss_one (qps_ret (qpv 2))))), ?_⟩
  refine ⟨_, rfl, _, rfl, a, p, l, fs, .int S, rfl, la, fl, l0, l1, Thing.int S, (fun i e => by cases e; exact bS), (fun z => absurd ⟨S, rfl, S1⟩ z), (fun S' e _ z H1 g1 => ⟨rfl, ?_⟩), fun S' e _ z => by cases e; omega⟩
  exact ⟨_, rfl, q _ g1⟩
theorem abs_le_of {t A N : Int} (h : t ∣ A) (A0 : A ≠ 0) (hA : (A.natAbs : Int) ≤ N) : (t.natAbs : Int) ≤ N := by
  have := Nat.le_of_dvd (Int.natAbs_pos.mpr A0) (Int.natAbs_dvd_natAbs.mpr h)
  omega
theorem mul_le6 {u v : Int} (hu : (u.natAbs : Int) ≤ 1000000) (hv : (v.natAbs : Int) ≤ 1000000) : ((u * v).natAbs : Int) ≤ 1000000000000 := by
  rw [Int.natAbs_mul]
  have := Nat.mul_le_mul (show u.natAbs ≤ 1000000 by omega) (show v.natAbs ≤ 1000000 by omega)
  omega
theorem pow_le6 {u : Int} (hu : (u.natAbs : Int) ≤ 1000000) {n : Nat} (hn : n ≤ 4) : ((u ^ n).natAbs : Int) ≤ 1000000000000000000000000 := by
  rw [Int.natAbs_pow]
  have h1 : u.natAbs ^ n ≤ 1000000 ^ n := Nat.pow_le_pow_left (by omega) n
  have h2 : (1000000 : Nat) ^ n ≤ 1000000 ^ 4 := Nat.pow_le_pow_right (by decide) hn
  have h3 : (1000000 : Nat) ^ 4 = 1000000000000000000000000 := by decide
  omega
theorem At55.bd {H : Hp} {a : Addr} {p x y t b l : Int} (hp : Pr p) (h : At55 H a p x y t b l 1000000 2) : LN.Bd 80 x ∧ LN.Bd 80 y := by
  have h1 := h.tN
  have h2 := h.bN
  have h3 := h.fr.b0
  have h4 := h.l0
  have h5 := h.l1
  have q1 : LN.Bd 15 (p ^ l.toNat) := hp.pow (by omega)
  have q2 : LN.Bd 15 (p ^ (-l).toNat) := hp.pow (by omega)
  rw [h.fr.ex, h.fr.ey]
  exact ⟨((bd_small (n := 64) (by decide) (by omega) (by omega)).mul q1).mono (by decide), ((bd_small (n := 64) (by decide) (by omega) (by omega)).mul q2).mono (by decide)⟩
theorem ok_l_made (T : Txt K mg) : FnOk P w K mg base CX0 3 T.f_l_made T.d_l_made ["_law_way", "_law_one", "_law_other", "_law_times"] spMade55 := by
  have G_l_lowest := ok_l_lowest (P := P) (w := w) (base := base) T
  refine T.F_l_made.okq sc_l_made (fun vs H Q E h => ?_) (fun cdv A outer s H vs Q E hr h => ?_)
  · obtain ⟨way, p, x1, y1, t1, b1, l1, x2, y2, t2, b2, l2, a, c, n, rfl, _⟩ := h
    rfl
  obtain ⟨way, p, x1, y1, t1, b1, l1, x2, y2, t2, b2, l2, a, c, n, rfl, hw, hp, A1, A2, n1, n4, q⟩ := h
  have p2 := hp.two
  obtain ⟨bx1, by1⟩ := A1.bd hp
  obtain ⟨bx2, by2⟩ := A2.bd hp
  have h1 := A1.at'
  have h2 := A2.at'
  have f1 := A1.fr
  have f2 := A2.fr
  have m1 := A1.tN
  have m2 := A1.bN
  have m3 := A2.tN
  have m4 := A2.bN
  have b10 := f1.b0
  have b20 := f2.b0
  have la := A1.l0
  have lb := A1.l1
  have lc := A2.l0
  have ld := A2.l1
  have t10 := f1.t0
  have t20 := f2.t0
  have s2 : ∀ {x y : V}, ([x, y] : List V).length ≤ sizeLine := small (by show 2 ≤ 1000; decide)
  have i0 : ∀ {x y : V}, atI [x, y] 0 = some x := fun {x y} => atI_nat (j := 0) rfl
  have i1 : ∀ {x y : V}, atI [x, y] 1 = some y := fun {x y} => atI_nat (j := 1) rfl
  refine ⟨_, (qpss_cons (qps_if (qpt_cmpR op_eq (qpv 0) qpe_int (nomark _)) (qpss_one (qps_ret (qpe_call G_l_lowest hr rfl T.m_l_lowest T.k_l_lowest T.b_l_lowest .nil pass0 (qpa_cons (hs := star_BinOp) (qpe_op op_mulB (qpe_ix ix_tup (qpv 1) qpe_int (fun _ _ => rfl)) (qpe_ix ix_tup (qpv 2) qpe_int (fun _ _ => rfl))) (qpa_cons (hs := star_BinOp) (qpe_op op_mulB (qpe_ix ix_tup (qpv 1) qpe_int (fun _ _ => rfl)) (qpe_ix ix_tup (qpv 2) qpe_int (fun _ _ => rfl))) qpa_nil))))) qpss_nil)
    (qpss_cons (qps_if (qpt_cmpR op_eq (qpv 0) qpe_int (nomark _)) (qpss_one (qps_ret (qpe_call G_l_lowest hr rfl T.m_l_lowest T.k_l_lowest T.b_l_lowest .nil pass0 (qpa_cons (hs := star_BinOp) (qpe_op op_mulB (qpe_ix ix_tup (qpv 1) qpe_int (fun _ _ => rfl)) (qpe_ix ix_tup (qpv 2) qpe_int (fun _ _ => rfl))) (qpa_cons (hs := star_BinOp) (qpe_op op_mulB (qpe_ix ix_tup (qpv 1) qpe_int (fun _ _ => rfl)) (qpe_ix ix_tup (qpv 2) qpe_int (fun _ _ => rfl))) qpa_nil))))) qpss_nil)
    (qpss_cons (qps_set (i := 4) sc_l_made.nd rfl (Or.inl rfl) (qpe_tup (qpa_cons (hs := star_Constant) qpe_int (qpa_cons (hs := star_Constant) qpe_int qpa_nil))))
    (qpss_cons (qps_for PassesOwn.never rfl (qpi_range1 rfl T.z_range (qpa_cons (hs := star_Name) (qpv 3) qpa_nil)) (qpg_name (i := 5) sc_l_made.nd rfl (Or.inl rfl)) (qpss_one (qps_set (i := 4) sc_l_made.nd rfl (Or.inl rfl) (qpe_tup (qpa_cons (hs := star_BinOp) (qpe_op op_mulB (qpe_ix ix_tup (qpv 4) qpe_int (fun _ _ => rfl)) (qpe_ix ix_tup (qpv 1) qpe_int (fun _ _ => rfl))) (qpa_cons (hs := star_BinOp) (qpe_op op_mulB (qpe_ix ix_tup (qpv 4) qpe_int (fun _ _ => rfl)) (qpe_ix ix_tup (qpv 1) qpe_int (fun _ _ => rfl))) qpa_nil))))))
    (qpss_one (qps_ret (qpv 4))))))), ?_⟩
  refine ⟨_, rfl, rfl, _, rfl, iteI (fun e => ?_) (fun ne0 => ?_)⟩
  · refine ⟨_, rfl, a, _, _, _, rfl, rfl, SqT.of h1, i0, _, rfl, c, _, _, _, rfl, rfl, SqT.of h2, i1, _, _, rfl, rfl, ⟨bx1.mono (by decide), by2.mono (by decide)⟩, _, rfl, a, _, _, _, rfl, rfl, SqT.of h1, i1, _, rfl, c, _, _, _, rfl, rfl, SqT.of h2, i0, _, _, rfl, rfl, ⟨by1.mono (by decide), bx2.mono (by decide)⟩, x1 * y2, y1 * x2, rfl, Int.mul_ne_zero (by have := f1.y0 hp; omega) (f2.x0 hp), (by1.mul bx2).mono (by decide), fun d x y H' g hd low => ?_⟩
    obtain ⟨t, b, fr, er, dt, db⟩ := fr_made (A := t1 * b2) (B := b1 * t2) (i := l1.toNat + (-l2).toNat) (j := (-l1).toNat + l2.toNat) (l := l1 - l2) hp (hp.free f1.nt f2.nb) (hp.free f1.nb f2.nt) (by rw [f1.ex, f2.ey, Int.pow_add]; grind) (by rw [f1.ey, f2.ex, Int.pow_add]; grind) (by omega) low
    have bt := abs_le_of dt (Int.mul_ne_zero t10 (by omega)) (mul_le6 m1 (by omega))
    have bb := abs_le_of db (Int.mul_ne_zero (by omega) t20) (mul_le6 (by omega) m3)
    have b0 := fr.b0
    exact q d x y t b (l1 - l2) H' g ⟨hd, fr, by omega, by omega, by omega, by omega⟩ (.inl ⟨e, rfl, er⟩)
  refine ⟨_, rfl, rfl, _, rfl, iteI (fun e => ?_) (fun ne1 => ?_)⟩
  · refine ⟨_, rfl, a, _, _, _, rfl, rfl, SqT.of h1, i0, _, rfl, c, _, _, _, rfl, rfl, SqT.of h2, i0, _, _, rfl, rfl, ⟨bx1.mono (by decide), bx2.mono (by decide)⟩, _, rfl, a, _, _, _, rfl, rfl, SqT.of h1, i1, _, rfl, c, _, _, _, rfl, rfl, SqT.of h2, i1, _, _, rfl, rfl, ⟨by1.mono (by decide), by2.mono (by decide)⟩, x1 * x2, y1 * y2, rfl, Int.mul_ne_zero (by have := f1.y0 hp; omega) (by have := f2.y0 hp; omega), (by1.mul by2).mono (by decide), fun d x y H' g hd low => ?_⟩
    obtain ⟨t, b, fr, er, dt, db⟩ := fr_made (A := t1 * t2) (B := b1 * b2) (i := l1.toNat + l2.toNat) (j := (-l1).toNat + (-l2).toNat) (l := l1 + l2) hp (hp.free f1.nt f2.nt) (hp.free f1.nb f2.nb) (by rw [f1.ex, f2.ex, Int.pow_add]; grind) (by rw [f1.ey, f2.ey, Int.pow_add]; grind) (by omega) low
    have bt := abs_le_of dt (Int.mul_ne_zero t10 t20) (mul_le6 m1 m3)
    have bb := abs_le_of db (Int.mul_ne_zero (by omega) (by omega)) (mul_le6 (by omega) (by omega))
    have b0 := fr.b0
    exact q d x y t b (l1 + l2) H' g ⟨hd, fr, by omega, by omega, by omega, by omega⟩ (.inr (.inl ⟨e, rfl, er⟩))
  have e2 : way = 2 := by omega
  refine ⟨s2, fun u ku => ?_⟩
  have gu := same_new ku (.tup [.int 1, .int 1])
  refine ⟨_, rfl, (n : Int), rfl, by omega, by omega, ?_⟩
  refine for_rangeN (lo := 0) (n := n) (fun i σ H' => ∃ (u : Addr) (v : Option V), σ = [some (.int way), some (.ref a), some (.ref c), some (.int (n : Int)), some (.ref u), v] ∧ Same H H' ∧ H' u = some (.tup [.int (x1 ^ i), .int (y1 ^ i)])) ⟨u, none, rfl, gu, by rw [Int.pow_zero, Int.pow_zero]; exact upd_same⟩ ?_ ?_
  · rintro i σ H1 hi ⟨u, v, rfl, g, hu⟩
    have h1 := g _ _ h1
    have bxi : LN.Bd 400 (x1 ^ i) := (bx1.pow i).mono (by omega)
    have byi : LN.Bd 400 (y1 ^ i) := (by1.pow i).mono (by omega)
    refine ⟨_, rfl, u, _, _, _, rfl, rfl, SqT.of hu, i0, _, rfl, a, _, _, _, rfl, rfl, SqT.of h1, i0, _, _, rfl, rfl, ⟨bxi.mono (by decide), bx1.mono (by decide)⟩, _, rfl, u, _, _, _, rfl, rfl, SqT.of hu, i1, _, rfl, a, _, _, _, rfl, rfl, SqT.of h1, i1, _, _, rfl, rfl, ⟨byi.mono (by decide), by1.mono (by decide)⟩, s2, fun u' ku' => ?_⟩
    exact ⟨u', _, rfl, g.trans (same_new ku' _), by rw [Int.pow_succ, Int.pow_succ]; exact upd_same⟩
  rintro σ H1 ⟨u, v, rfl, g, hu⟩
  have fp := f1.power hp n
  have q1 := pow_le6 m1 n4
  have q2 := pow_le6 (show (b1.natAbs : Int) ≤ 1000000 by omega) n4
  have q3 := fp.b0
  have ln : -8 ≤ (n : Int) * l1 ∧ (n : Int) * l1 ≤ 8 := by
    have : n = 1 ∨ n = 2 ∨ n = 3 ∨ n = 4 := by omega
    rcases this with rfl | rfl | rfl | rfl <;> omega
  exact ⟨_, rfl, q u _ _ _ _ _ H1 g ⟨hu, fp, q1, by omega, ln.1, ln.2⟩ (.inr (.inr ⟨e2, rfl, rfl, rfl⟩))⟩
theorem fr5_uniq {p x y t b l t' b' l' : Int} (hp : Pr p) (h : Fr5 p x y t b l) (h' : Fr5 p x y t' b' l') : t' = t ∧ b' = b ∧ l' = l := by
  obtain ⟨e1, e2⟩ := h.ux hp h'.ex h'.nt
  obtain ⟨e3, e4⟩ := h.uy hp h'.ey h'.nb
  exact ⟨e1, e3, by omega⟩
/-- what is seen of a fraction, to m figures -/
def SeenV (K : PySem.W.Frag) (H : Hp) (p : Int) (v : V) (t b l : Int) (m : Nat) : Prop := ∃ (e : Addr) (gs : List Int), v = .ref e ∧ LeftAt K H e p l gs ∧ Figs p gs ∧ gs.head? ≠ some 0 ∧ gs.length = m ∧ p ^ gs.length ∣ un p gs * b - t
theorem fnd_neq {K : PySem.W.Frag} {H : Hp} {t d w : Addr} {x y : Int} {Q : VK} (h : FndAt H t (.frac x y)) (hd : H d = some (.tup [.int x, .int y])) (hw : H w = some (.tup [.str sFrac, .ref d])) (q : Q (.bl false) H) : rEqS K true (.ref t) (.ref w) H Q := by
  obtain ⟨c, h1, h2⟩ := h
  refine ⟨t, w, _, _, rfl, rfl, .inl ⟨SqT.of h1, SqT.of hw⟩, rfl, fun j j1 _ => ?_, q⟩
  match j, j1 with
  | 0, _ => exact .flat rfl rfl (show eqV (.str sFrac) (.str sFrac) = true by decide +kernel)
  | 1, _ => exact like_two h2 hd
  | j + 2, j1 => exact absurd j1 (by simp)
theorem ok_l_told (T : Txt K mg) (G_found_again : FnOk P w K mg base (CX2 P w) 6 T.f_found_again T.d_found_again ["one", "size"] (spFound K T.a_NoSize T.a_TooFew dFound))
    (G_seen_left : FnOk P w K mg base (CX2 P w) 6 T.f_seen_left T.d_seen_left ["p", "part", "place"] (spSeen K T.a_NoPrime T.a_NoPlace T.a_NoFraction (wSeen K))) (G_size_of : FnOk P w K mg base CX0 6 T.f_size_of T.d_size_of ["p", "part"] spSize)
    (G_divided : FnOk P w K mg base (CX2 P w) 6 T.f_divided T.d_divided ["one", "other"] (spQuo K T.a_Unlike T.a_NoQuotient (wQuot K))) (G_multiplied : FnOk P w K mg base (CX2 P w) 6 T.f_multiplied T.d_multiplied ["one", "other"] (spTwo K T.a_Unlike (wProd K)))
    (G_raised : FnOk P w K mg base (CX2 P w) 6 T.f_raised T.d_raised ["one", "n"] (spPower K T.a_NoPower (wPow K))) :
    FnOk P w K mg base CX0 8 T.f_l_told T.d_l_told ["_law_way", "_law_p", "_law_parts", "_law_times", "_law_more"] spTold55 := by
  have G_l_too_few := ok_l_too_few (P := P) (w := w) (base := base) T G_found_again
  have G_l_made := (ok_l_made (P := P) (w := w) (base := base) T).mono (k := 7) (by decide)
  have G_l_exponent := (ok_l_exponent (P := P) (w := w) (base := base) T).mono (k := 7) (by decide)
  have G_l_enough := (ok_l_enough (P := P) (w := w) (base := base) T).mono (k := 7) (by decide)
  have G_l_without := (ok_l_without (P := P) (w := w) (base := base) T).mono (k := 7) (by decide)
  have G_l_power := (ok_l_power (P := P) (w := w) (base := base) T).mono (k := 7) (by decide)
  have G_found_again := G_found_again.mono (k := 7) (by decide)
  have G_seen_left := G_seen_left.mono (k := 7) (by decide)
  have G_size_of := G_size_of.mono (k := 7) (by decide)
  have G_divided := G_divided.mono (k := 7) (by decide)
  have G_multiplied := G_multiplied.mono (k := 7) (by decide)
  have G_raised := G_raised.mono (k := 7) (by decide)
  refine T.F_l_told.okq sc_l_told (fun vs H Q E h => ?_) (fun cdv A outer s H vs Q E hr h => ?_)
  · obtain ⟨way, p, x1, y1, t1, b1, l1, x2, y2, t2, b2, l2, more, D, a, c, n, rfl, _⟩ := h
    rfl
  obtain ⟨way, p, x1, y1, t1, b1, l1, x2, y2, t2, b2, l2, more, D, a, c, n, rfl, hw, hp, hD, A1, A2, n1, n4, mo0, mo4, q⟩ := h
  have p2 := hp.two
  have p97 := hp.most
  have p0 : 0 < p := by omega
  have s2 : ∀ {x y : V}, ([x, y] : List V).length ≤ sizeLine := small (by show 2 ≤ 1000; decide)
  have i0 : ∀ {x y : V}, atI [x, y] 0 = some x := fun {x y} => atI_nat (j := 0) rfl
  have i1 : ∀ {x y : V}, atI [x, y] 1 = some y := fun {x y} => atI_nat (j := 1) rfl
  have j1 : ∀ {x y z : V}, atI [x, y, z] 1 = some y := fun {x y z} => atI_nat (j := 1) rfl
  have j2 : ∀ {x y z : V}, atI [x, y, z] 2 = some z := fun {x y z} => atI_nat (j := 2) rfl
  refine ⟨_, (qpss_cons (qps_set (i := 5) sc_l_told.nd rfl (Or.inl rfl) (qpe_call G_l_made hr rfl T.m_l_made T.k_l_made T.b_l_made .nil pass0 (qpa_cons (hs := star_Name) (qpv 0) (qpa_cons (hs := star_Subscript) (qpe_ix ix_list (qpv 2) qpe_int (fun _ _ => rfl)) (qpa_cons (hs := star_Subscript) (qpe_ix ix_list (qpv 2) qpe_int (fun _ _ => rfl)) (qpa_cons (hs := star_Name) (qpv 3) qpa_nil))))))
    (qpss_cons (qps_set (i := 6) sc_l_told.nd rfl (Or.inl rfl) (qpe_call G_size_of hr rfl T.m_size_of T.k_size_of T.b_size_of .nil pass0 (qpa_cons (hs := star_Name) (qpv 1) (qpa_cons (hs := star_Name) (qpv 5) qpa_nil))))
    (qpss_cons (qps_if (qpt_cmpR op_ne (qpv 6) (qpe_callB (call_max2 rfl) rfl T.z_max bt_max (qpa_cons (hs := star_Call) (qpe_callB call_abs rfl T.z_abs bt_abs (qpa_cons (hs := star_Call) (qpe_call G_l_without hr rfl T.m_l_without T.k_l_without T.b_l_without .nil pass0 (qpa_cons (hs := star_Name) (qpv 1) (qpa_cons (hs := star_Subscript) (qpe_ix ix_tup (qpv 5) qpe_int (fun _ _ => rfl)) qpa_nil))) qpa_nil)) (qpa_cons (hs := star_Call) (qpe_call G_l_without hr rfl T.m_l_without T.k_l_without T.b_l_without .nil pass0 (qpa_cons (hs := star_Name) (qpv 1) (qpa_cons (hs := star_Subscript) (qpe_ix ix_tup (qpv 5) qpe_int (fun _ _ => rfl)) qpa_nil))) qpa_nil))) (nomark _)) (qpss_one (qps_ret qpe_bl)) qpss_nil)
    (qpss_cons (qps_set (i := 7) sc_l_told.nd rfl (Or.inr rfl) (qpe_op op_add (qpe_call G_l_enough hr rfl T.m_l_enough T.k_l_enough T.b_l_enough .nil pass0 (qpa_cons (hs := star_Name) (qpv 1) (qpa_cons (hs := star_Name) (qpv 6) qpa_nil))) (qpv 4)))
    (qpss_cons (qps_comp (i := 8) (caps := ["_law_p", "_law_many"]) (idx := [1, 7]) rfl sc_l_told.nd rfl rfl ⟨rfl, by decide +kernel, rfl, by decide +kernel, rfl, by decide +kernel, rfl, ⟨⟨rfl, rfl⟩, ⟨rfl, rfl⟩, trivial⟩, by decide +kernel, rfl, by decide +kernel⟩ (qpi_list (qpv 2)) (fun _ _ _ _ => qif_none) (fun _ _ _ _ => (qpe_call G_seen_left hr rfl T.m_seen_left T.k_seen_left T.b_seen_left .nil pass2 (qpa_cons (hs := star_Name) (qpv 1) (qpa_cons (hs := star_Name) (qpv 0) (qpa_cons (hs := star_BinOp) (qpe_op op_add (qpe_call G_l_exponent hr rfl T.m_l_exponent T.k_l_exponent T.b_l_exponent .nil pass0 (qpa_cons (hs := star_Name) (qpv 1) (qpa_cons (hs := star_Name) (qpv 0) qpa_nil))) (qpv 2)) qpa_nil))))))
    (qpss_cons (qps_if (qpt_cmpR op_eq (qpv 0) qpe_int (nomark _)) (qpss_one (qps_set (i := 9) sc_l_told.nd rfl (Or.inl rfl) (qpe_call G_divided hr rfl T.m_divided T.k_divided T.b_divided .nil pass2 (qpa_cons (hs := star_Subscript) (qpe_ix ix_list (qpv 8) qpe_int (fun _ _ => rfl)) (qpa_cons (hs := star_Subscript) (qpe_ix ix_list (qpv 8) qpe_int (fun _ _ => rfl)) qpa_nil))))) (qpss_one (qps_if (qpt_cmpR op_eq (qpv 0) qpe_int (nomark _)) (qpss_one (qps_set (i := 9) sc_l_told.nd rfl (Or.inl rfl) (qpe_call G_multiplied hr rfl T.m_multiplied T.k_multiplied T.b_multiplied .nil pass2 (qpa_cons (hs := star_Subscript) (qpe_ix ix_list (qpv 8) qpe_int (fun _ _ => rfl)) (qpa_cons (hs := star_Subscript) (qpe_ix ix_list (qpv 8) qpe_int (fun _ _ => rfl)) qpa_nil))))) (qpss_one (qps_set (i := 9) sc_l_told.nd rfl (Or.inl rfl) (qpe_call G_raised hr rfl T.m_raised T.k_raised T.b_raised .nil pass2 (qpa_cons (hs := star_Subscript) (qpe_ix ix_list (qpv 8) qpe_int (fun _ _ => rfl)) (qpa_cons (hs := star_Name) (qpv 3) qpa_nil))))))))
    (qpss_cons (qps_if (QW.pt (qpw_or (qpt_cmpR (op_neS hr.u40) (qpe_call G_found_again hr rfl T.m_found_again T.k_found_again T.b_found_again .nil pass2 (qpa_cons (hs := star_Name) (qpv 9) (qpa_cons (hs := star_Name) (qpv 6) qpa_nil))) (qpe_tup (qpa_cons (hs := star_Constant) qpe_str (qpa_cons (hs := star_Name) (qpv 5) qpa_nil))) (nomark _)) (qpw_or1 (qpt_cmpR (op_neL hr.u40) (qpv 9) (qpe_call G_seen_left hr rfl T.m_seen_left T.k_seen_left T.b_seen_left .nil pass2 (qpa_cons (hs := star_Name) (qpv 1) (qpa_cons (hs := star_Name) (qpv 5) (qpa_cons (hs := star_BinOp) (qpe_op op_add (qpe_ix ix_tup (qpv 9) qpe_int (fun _ _ => rfl)) (qpe_callB call_len_seq rfl T.z_len bt_len (qpa_cons (hs := star_Subscript) (qpe_ix ix_tup (qpv 9) qpe_int (fun _ _ => rfl)) qpa_nil))) qpa_nil)))) (nomark _))))) (qpss_one (qps_ret qpe_bl)) qpss_nil)
    (qpss_cons (qps_set (i := 10) sc_l_told.nd rfl (Or.inl rfl) (qpe_call G_seen_left hr rfl T.m_seen_left T.k_seen_left T.b_seen_left .nil pass2 (qpa_cons (hs := star_Name) (qpv 1) (qpa_cons (hs := star_Name) (qpv 5) (qpa_cons (hs := star_BinOp) (qpe_op op_add (qpe_call G_l_exponent hr rfl T.m_l_exponent T.k_l_exponent T.b_l_exponent .nil pass0 (qpa_cons (hs := star_Name) (qpv 1) (qpa_cons (hs := star_Name) (qpv 5) qpa_nil))) (qpe_call G_l_enough hr rfl T.m_l_enough T.k_l_enough T.b_l_enough .nil pass0 (qpa_cons (hs := star_Name) (qpv 1) (qpa_cons (hs := star_Name) (qpv 6) qpa_nil)))) qpa_nil)))))
    (qpss_cons (qps_if (QW.pt (qpw_or (qpt_cmpR (op_neS hr.u40) (qpe_call G_found_again hr rfl T.m_found_again T.k_found_again T.b_found_again .nil pass2 (qpa_cons (hs := star_Name) (qpv 10) (qpa_cons (hs := star_Name) (qpv 6) qpa_nil))) (qpe_tup (qpa_cons (hs := star_Constant) qpe_str (qpa_cons (hs := star_Name) (qpv 5) qpa_nil))) (nomark _)) (qpw_or1 (qpt_cmpR (op_neS hr.u40) (qpe_call G_found_again hr rfl T.m_found_again T.k_found_again T.b_found_again .nil pass2 (qpa_cons (hs := star_Name) (qpv 9) (qpa_cons (hs := star_Name) (qpv 6) qpa_nil))) (qpe_tup (qpa_cons (hs := star_Constant) qpe_str (qpa_cons (hs := star_Name) (qpv 5) qpa_nil))) (nomark _))))) (qpss_one (qps_ret qpe_bl)) qpss_nil)
    (qpss_cons (qps_set (i := 11) sc_l_told.nd rfl (Or.inl rfl) (qpv 6))
    (qpss_cons (qps_while PassesOwn.never (qpt_cmpR op_lt (qpe_op op_mulB (qpe_op op_mulB qpe_int (qpv 11)) (qpv 11)) (qpe_call G_l_power hr rfl T.m_l_power T.k_l_power T.b_l_power .nil pass0 (qpa_cons (hs := star_Name) (qpv 1) (qpa_cons (hs := star_Call) (qpe_callB call_len_seq rfl T.z_len bt_len (qpa_cons (hs := star_Subscript) (qpe_ix ix_tup (qpv 10) qpe_int (fun _ _ => rfl)) qpa_nil)) qpa_nil))) (nomark _)) (qpss_one (qps_set (i := 11) sc_l_told.nd rfl (Or.inl rfl) (qpe_op op_mulB qpe_int (qpv 11)))))
    (qpss_one (qps_ret (qpe_call G_l_too_few hr rfl T.m_l_too_few T.k_l_too_few T.b_l_too_few .nil pass0 (qpa_cons (hs := star_Name) (qpv 10) (qpa_cons (hs := star_Name) (qpv 11) qpa_nil)))))))))))))))), ?_⟩
  refine ⟨_, rfl, _, rfl, D, _, _, _, rfl, rfl, SqL.of hD, i0, _, rfl, D, _, _, _, rfl, rfl, SqL.of hD, i1, _, rfl, way, p, x1, y1, t1, b1, l1, x2, y2, t2, b2, l2, a, c, n, rfl, hw, hp, A1, A2, n1, n4, fun d x y t b l H1 g1 AD rel => ?_⟩
  have hD := g1 _ _ hD
  have A1 := A1.same g1
  have A2 := A2.same g1
  have fr := AD.fr
  have b0 := fr.b0
  have t0 := fr.t0
  have tN := AD.tN
  have bN := AD.bN
  have lo := AD.l0
  have hi := AD.l1
  have y0 := fr.y0 hp
  have x0 := fr.x0 hp
  have cop := fr.low hp
  have bt : LN.Bd 90 t := LN.Bd.of_abs (b := 1000000000000000000000000) (by omega) (by omega) (by decide +kernel)
  have bb : LN.Bd 90 b := LN.Bd.of_abs (b := 1000000000000000000000000) (by omega) (by omega) (by decide +kernel)
  have bx : LN.Bd 1000 x := by
    rw [fr.ex]
    exact (bt.mul (hp.pow (n := 60) (by omega))).mono (by decide)
  have by' : LN.Bd 1000 y := by
    rw [fr.ey]
    exact (bb.mul (hp.pow (n := 60) (by omega))).mono (by decide)
  refine ⟨_, rfl, _, rfl, p, x, y, d, rfl, hp, AD.at', x0, y0, bx, by', fun s' r' x' y' ex nx ey ny H2 g2 => ?_⟩
  obtain ⟨e1, _⟩ := fr.ux hp ex nx
  obtain ⟨e2, _⟩ := fr.uy hp ey ny
  rw [e1, e2]
  clear e1 e2 ex nx ey ny
  obtain ⟨Z, eZ⟩ : ∃ Z : Int, (if b > (if t < 0 then -t else t) then b else (if t < 0 then -t else t)) = Z := ⟨_, rfl⟩
  rw [eZ]
  have hd := g2 _ _ AD.at'
  refine ⟨_, rfl, _, rfl, _, rfl, d, _, _, _, rfl, rfl, SqT.of hd, i0, p, x, rfl, p2, p97, x0, fun m k em nm => ?_⟩
  obtain ⟨e1, _⟩ := fr.ux hp em nm
  rw [e1]
  refine ⟨t, rfl, _, rfl, _, rfl, d, _, _, _, rfl, rfl, SqT.of hd, i1, p, y, rfl, p2, p97, by omega, fun m' k' em' nm' => ?_⟩
  obtain ⟨e2, _⟩ := fr.uy hp em' nm'
  rw [e2]
  refine ⟨_, _, rfl, ?_⟩
  rw [eZ]
  refine ⟨rfl, _, rfl, iteN (fun z => absurd rfl z) (fun _ => ?_)⟩
  have ZZ : (t.natAbs : Int) ≤ Z ∧ b ≤ Z ∧ 1 ≤ Z ∧ Z ≤ 1000000000000000000000000 := by
    rw [abs_nat] at eZ
    split at eZ <;> omega
  obtain ⟨Zt, Zb, Z1, ZN⟩ := ZZ
  clear eZ
  have bZ : LN.Bd 110 Z := LN.Bd.of_abs (b := 1000000000000000000000000) (by omega) (by omega) (by decide +kernel)
  refine ⟨_, rfl, _, rfl, p, Z, rfl, hp, Z1, bZ, fun k hk k250 _ => ⟨_, rfl, _, _, rfl, rfl, ?_⟩⟩
  dsimp only [gName]
  obtain ⟨m, em⟩ : ∃ m : Nat, (k : Int) + more = (m : Int) := ⟨((k : Int) + more).toNat, by omega⟩
  rw [em]
  have pm : ∀ {i j : Nat}, i ≤ j → p ^ i ≤ p ^ j := fun {i j} h => Int.le_of_dvd (Int.pow_pos p0) (pow_split h)
  have ZZ1 : 1 ≤ Z * Z := Int.mul_le_mul Z1 Z1 (by decide) (by omega)
  have k1 : 1 ≤ k := by
    rcases Nat.eq_zero_or_pos k with z | z
    · rw [z, Int.pow_zero] at hk; omega
    · exact z
  have m1 : 1 ≤ m := by omega
  have g12 := g1.trans g2
  have hD := g2 _ _ hD
  have A1 := A1.same g2
  have A2 := A2.same g2
  have q1 := A1.l0
  have q2 := A1.l1
  have q3 := A2.l0
  have q4 := A2.l1
  have g0 : Same H H2 := g12
  -- both parts seen
  refine ⟨_, rfl, D, rfl, ⟨_, SqL.of hD⟩, fun E1 kE => ?_⟩
  refine comp_rel (xs := [.ref a, .ref c]) (fun x v H => (x = .ref a → SeenV K H p v t1 b1 l1 m) ∧ (x = .ref c → SeenV K H p v t2 b2 l2 m)) (fun x v ys H H' hE hs r => ?_) plain_list (Nat.lt_of_le_of_lt (show 2 ≤ 97 by decide) (by decide)) kE (fun H g => SqL.of (g _ _ hD)) (fun x hx H3 R g3 r => ?_) ?_
  · have st : ∀ {t b l : Int}, SeenV K H p v t b l m → SeenV K H' p v t b l m := fun ⟨e, gs, ev, ⟨f, h1, h2⟩, rest⟩ => by
      have ne : ∀ {z : Addr} {o : List V}, H z = some (.tup o) → z ≠ E1 := fun h z' => by rw [z', hE] at h; cases h
      exact ⟨e, gs, ev, ⟨f, hs _ _ (ne h1) h1, hs _ _ (ne h2) h2⟩, rest⟩
    exact ⟨fun z => st (r.1 z), fun z => st (r.2 z)⟩
  · have B1 := A1.same g3
    have B2 := A2.same g3
    obtain ⟨z, xx, yy, tt, bb', ll, ez, AZ, fin⟩ : ∃ (z : Addr) (xx yy tt bb' ll : Int), x = .ref z ∧ At55 H3 z p xx yy tt bb' ll 1000000 2 ∧ ∀ (u : V) (H4 : Hp), SeenV K H4 p u tt bb' ll m → (x = .ref a → SeenV K H4 p u t1 b1 l1 m) ∧ (x = .ref c → SeenV K H4 p u t2 b2 l2 m) := by
      rcases List.mem_cons.mp hx with ex | hx
      · refine ⟨a, x1, y1, t1, b1, l1, ex, B1, fun u H4 sv => ⟨fun _ => sv, fun z => ?_⟩⟩
        have ac : a = c := by rw [ex] at z; cases z; rfl
        have e := B1.at'
        rw [ac, B2.at'] at e
        cases e
        obtain ⟨rfl, rfl, rfl⟩ := fr5_uniq hp B2.fr B1.fr
        exact sv
      · have ex : x = .ref c := List.mem_singleton.mp hx
        refine ⟨c, x2, y2, t2, b2, l2, ex, B2, fun u H4 sv => ⟨fun z => ?_, fun _ => sv⟩⟩
        have ac : a = c := by rw [ex] at z; cases z; rfl
        have e := B1.at'
        rw [ac, B2.at'] at e
        cases e
        obtain ⟨rfl, rfl, rfl⟩ := fr5_uniq hp B1.fr B2.fr
        exact sv
    obtain ⟨bz1, bz2⟩ := AZ.bd hp
    have z0 := AZ.l0
    have z1 := AZ.l1
    have haz := AZ.at'
    rw [ez] at r fin ⊢
    refine ⟨_, rfl, _, rfl, _, rfl, _, rfl, p, z, xx, yy, tt, bb', ll, rfl, hp, haz, AZ.fr, fun H4 g4 => ⟨_, rfl, _, _, rfl, rfl, ?_⟩⟩
    refine seen_good hp (g4 _ _ haz) (AZ.fr.y0 hp) (AZ.fr.low hp) (bz1.mono (by decide)) (bz2.mono (by decide)) (e := ll + (m : Int)) (by omega) (by omega) fun u H5 g5 W => ?_
    obtain ⟨e, mm, gs, rfl, le, fg, tg, sn⟩ := W
    obtain ⟨rfl, lg, cg⟩ := AZ.fr.seen hp m1 sn
    exact r _ _ (g4.trans g5) (fin _ _ ⟨e, gs, rfl, le, fg, tg, lg, cg⟩)
  intro ys H3 g3 hE ly hys
  obtain ⟨v1, v2, rfl⟩ : ∃ v1 v2, ys = [v1, v2] := by
    match ys, ly with
    | [v1, v2], _ => exact ⟨v1, v2, rfl⟩
  obtain ⟨e1, f1, rfl, le1, ff1, tf1, lf1, cf1⟩ := (hys 0 (.ref a) v1 rfl rfl).1 rfl
  obtain ⟨e2, f2, rfl, le2, ff2, tf2, lf2, cf2⟩ := (hys 1 (.ref c) v2 rfl rfl).2 rfl
  have bl : ∀ {z : Int}, -10 ≤ z → z ≤ 10 → LN.Bd 200 z := fun {z} h1 h2 => LN.Bd.of_abs (b := 10) h1 h2 (by decide +kernel)
  have L1 : Lf K H3 e1 p l1 f1 := ⟨le1, hp, bl (by omega) (by omega), ff1, by omega, tf1⟩
  have L2' : Lf K H3 e2 p l2 f2 := ⟨le2, hp, bl (by omega) (by omega), ff2, by omega, tf2⟩
  have hd := g3 _ _ hd
  have g0 := g0.trans g3
  dsimp only [gName]
  -- the deed
  have dE0 := (i0 : atI [V.ref e1, V.ref e2] 0 = _)
  have dE1 := (i1 : atI [V.ref e1, V.ref e2] 1 = _)
  refine seq_of (fun σ H' => Same H3 H' ∧ ∃ (e : Addr) (gs : List Int), LeftAt K H' e p l gs ∧ Figs p gs ∧ gs.head? ≠ some 0 ∧ m ≤ gs.length ∧ gs.length ≤ 290 ∧ p ^ gs.length ∣ un p gs * b - t ∧ σ = [some (.int way), some (.int p), some (.ref D), some (.int (n : Int)), some (.int more), some (.ref d), some (.int Z), some (.int (m : Int)), some (.ref E1), some (.ref e), none, none]) ?_ (fun nx go => ?_)
  rotate_left
  · have ne2 : f2 ≠ [] := fun z => by rw [z] at lf2; change 0 = m at lf2; omega
    refine ⟨_, rfl, rfl, _, rfl, iteI (fun w0 => ?_) (fun nw0 => ?_)⟩
    · refine ⟨_, rfl, E1, _, _, _, rfl, rfl, SqL.of hE, dE0, _, rfl, E1, _, _, _, rfl, rfl, SqL.of hE, dE1, e1, e2, p, l1, p, l2, f1, f2, rfl, L1, L2', (fun z => absurd rfl z), (fun _ z => absurd z ne2), fun _ _ v H4 g4 W => ?_⟩
      obtain ⟨e, mm, gs, rfl, le, fg, tg, iq⟩ := W
      have lg : gs.length = m := by rw [iq.len]; omega
      have cg := iq.cong
      rw [lg] at cg
      rw [lf1] at cf1
      rw [lf2] at cf2
      rcases rel with ⟨_, el, er⟩ | ⟨z, _⟩ | ⟨z, _⟩
      · have := iq.least
        have em : mm = l := by omega
        subst em
        exact go _ _ ⟨g4, e, gs, le, fg, tg, by omega, by omega, by rw [lg]; exact seen_quot hp A1.fr.nb A2.fr.nt cf1 cf2 cg er, rfl⟩
      · omega
      · omega
    refine ⟨_, rfl, rfl, _, rfl, iteI (fun w1 => ?_) (fun nw1 => ?_)⟩
    · refine ⟨_, rfl, E1, _, _, _, rfl, rfl, SqL.of hE, dE0, _, rfl, E1, _, _, _, rfl, rfl, SqL.of hE, dE1, e1, e2, p, l1, p, l2, f1, f2, rfl, L1, L2', (fun z => absurd rfl z), fun _ v H4 g4 W => ?_⟩
      obtain ⟨e, mm, gs, rfl, le, fg, tg, iq⟩ := W
      have lg : gs.length = m := by rw [iq.len]; omega
      have cg := iq.cong
      rw [lg] at cg
      rw [lf1] at cf1
      rw [lf2] at cf2
      rcases rel with ⟨z, _⟩ | ⟨_, el, er⟩ | ⟨z, _⟩
      · omega
      · have := iq.least
        have em : mm = l := by omega
        subst em
        exact go _ _ ⟨g4, e, gs, le, fg, tg, by omega, by omega, by rw [lg]; exact seen_prod hp A1.fr.nb A2.fr.nb cf1 cf2 cg er, rfl⟩
      · omega
    · refine ⟨_, rfl, E1, _, _, _, rfl, rfl, SqL.of hE, dE0, _, rfl, e1, p, l1, f1, .int (n : Int), rfl, L1, Thing.int _, (fun z => absurd ⟨n, rfl, n1, by omega⟩ z), fun n' en _ _ v H4 g4 W => ?_⟩
      have en : n' = n := by have := V.int.inj en; omega
      subst en
      obtain ⟨e, mm, gs, tt, rfl, le, fg, tg, iq⟩ := W
      have lg := iq.len
      have kb := known_bound (p := p) (k := f1.length) (t := tt)
      have ts := exq_small p2 iq.exq (by omega) (by omega)
      have kl : f1.length ≤ knownW p f1.length tt := by unfold knownW; split <;> omega
      rcases rel with ⟨z, _⟩ | ⟨z, _⟩ | ⟨_, el, rfl, rfl⟩
      · omega
      · omega
      · have := iq.least
        have em : mm = l := by omega
        subst em
        rw [lf1] at cf1
        refine go _ _ ⟨g4, e, gs, le, fg, tg, by omega, by omega, ?_, rfl⟩
        exact seen_power hp m1 A1.fr.nt iq.exq cf1 (by rw [lg, lf1]) iq.cong
  rintro σ H4 ⟨g4, e, gs, ⟨gb, ha, hb⟩, fg, tg, gm, g290, cg, rfl⟩
  have hd := g4 _ _ hd
  have g0 := g0.trans g4
  clear hE L1 L2' le1 le2 hys dE0 dE1
  have bll : LN.Bd 200 l := bl (by omega) (by omega)
  have lg : Lf K H4 e p l gs := ⟨⟨gb, ha, hb⟩, hp, bll, fg, by omega, tg⟩
  have few : ∀ {j : Nat}, k ≤ j → 2 * (Z * Z) < p ^ j := fun {j} h => Int.lt_of_lt_of_le hk (pm h)
  have fits : ∀ {hs : List Int}, 2 * (Z * Z) < p ^ hs.length → Figs p hs → p ^ hs.length ∣ un p hs * b - t → dFound p l hs Z = .frac x y := fun {hs} h1 fh ch => by
    rw [fr.ex, fr.ey]
    refine dfound_due hp fh Z1 h1 ?_ Zt b0 Zb fr.nb fr.cop
    rw [show t - un p hs * b = -(un p hs * b - t) by omega]
    exact Int.dvd_neg.mpr ch
  have bZ7 : LN.Bd 700 Z := bZ.mono (by decide)
  refine ⟨_, rfl, _, rfl, e, p, l, gs, .int Z, rfl, lg, by omega, by omega, by omega, Thing.int Z, (fun i e => by cases e; exact bZ7), (fun z => absurd ⟨Z, rfl, Z1⟩ z), (fun S' e' _ z => by cases e'; have := few (j := gs.length) (by omega); omega), fun S' e' _ _ r1 H5 g5 hr1 => ?_⟩
  cases e'
  rw [fits (few (by omega)) fg cg] at hr1
  refine ⟨_, rfl, s2, fun w1 kw1 => fnd_neq (hr1.same (same_new kw1 _)) (same_new kw1 _ _ _ (g5 _ _ hd)) upd_same ⟨_, rfl, iteF ?_⟩⟩
  have gw1 := same_new kw1 (.tup [.str (Str.ofString "fraction"), .ref d])
  have g45 := g5.trans gw1
  have hd := g45 _ _ hd
  have ha := g45 _ _ ha
  have hb := g45 _ _ hb
  have lg := lg.same g45
  have g0 := g0.trans g45
  generalize upd H5 w1 (.tup [.str (Str.ofString "fraction"), .ref d]) = H6 at hd ha hb lg g0 ⊢
  clear g5 gw1 g45 hr1 kw1
  refine ⟨_, rfl, _, rfl, _, rfl, _, rfl, e, _, _, _, rfl, rfl, SqT.of ha, j1, _, rfl, e, _, _, _, rfl, rfl, SqT.of ha, j2, gb, _, rfl, .inr (SqT.of hb), _, _, rfl, rfl, ?_⟩
  have eL : l + ((gs.map V.int).length : Int) = l + (gs.length : Int) := by rw [List.length_map]
  show spSeen K T.a_NoPrime T.a_NoPlace T.a_NoFraction (wSeen K) [.int p, .ref d, .int (l + ((gs.map V.int).length : Int))] H6 _ _
  rw [eL]
  refine seen_good hp hd y0 cop bx by' (e := l + (gs.length : Int)) (by omega) (by omega) fun u H7 g7 W => ?_
  obtain ⟨e3, mm, hs, rfl, le3, fh, th, sn⟩ := W
  obtain ⟨el, lh, ch⟩ := fr.seen hp (by omega) sn
  rw [el] at le3
  have eq : gs = hs := seen_one hp fr.nb fg fh lh.symm cg ch
  subst eq
  refine ⟨e, e3, p, l, p, l, gs, gs, rfl, rfl, (lg.same g7).at', le3, _, rfl, ?_⟩
  have en : (if true = true then !decide (p = p ∧ l = l ∧ gs = gs) else decide (p = p ∧ l = l ∧ gs = gs)) = false := by rw [if_pos rfl, decide_eq_true ⟨rfl, rfl, rfl⟩]; rfl
  rw [en]
  refine iteF ?_
  have hd := g7 _ _ hd
  have lg := lg.same g7
  have g0 := g0.trans g7
  clear g7 sn ch fh th le3 en
  refine ⟨_, rfl, _, rfl, _, rfl, _, rfl, p, d, x, y, t, b, l, rfl, hp, hd, fr, fun H8 g8 => ⟨_, rfl, _, rfl, p, Z, rfl, hp, Z1, bZ, fun k2 hk2 k2' bW => ⟨_, _, rfl, rfl, ?_⟩⟩⟩
  have k21 : 1 ≤ k2 := by
    rcases Nat.eq_zero_or_pos k2 with z | z
    · rw [z, Int.pow_zero] at hk2; omega
    · exact z
  refine seen_good hp (g8 _ _ hd) y0 cop bx by' (e := l + (k2 : Int)) (by omega) (by omega) fun u H9 g9 W => ?_
  obtain ⟨e4, mm, ss, rfl, ⟨sb, hsa, hsb⟩, fs, ts, sn⟩ := W
  obtain ⟨el, ls, cs⟩ := fr.seen hp k21 sn
  rw [el] at hsa
  have lS : Lf K H9 e4 p l ss := ⟨⟨sb, hsa, hsb⟩, hp, bll, fs, by omega, ts⟩
  have g89 := g8.trans g9
  have hd := g89 _ _ hd
  have lg := lg.same g89
  have g0 := g0.trans g89
  rw [← ls] at hk2 bW
  clear g8 g9 g89 sn
  refine ⟨_, rfl, _, rfl, e4, p, l, ss, .int Z, rfl, lS, by omega, by omega, by omega, Thing.int Z, (fun i e => by cases e; exact bZ7), (fun z => absurd ⟨Z, rfl, Z1⟩ z), (fun S' e' _ z => by cases e'; omega), fun S' e' _ _ r1 H5 g5 hr1 => ?_⟩
  cases e'
  rw [fits hk2 fs cs] at hr1
  refine ⟨_, rfl, s2, fun w1 kw1 => fnd_neq (hr1.same (same_new kw1 _)) (same_new kw1 _ _ _ (g5 _ _ hd)) upd_same ⟨_, rfl, iteF ?_⟩⟩
  have gw1 := same_new kw1 (.tup [.str (Str.ofString "fraction"), .ref d])
  have g45 := g5.trans gw1
  have hd := g45 _ _ hd
  have lg := lg.same g45
  have lS := lS.same g45
  have g0 := g0.trans g45
  generalize upd H5 w1 (.tup [.str (Str.ofString "fraction"), .ref d]) = H6 at hd lg lS g0 ⊢
  clear g5 gw1 g45 hr1 kw1
  refine ⟨_, rfl, _, rfl, e, p, l, gs, .int Z, rfl, lg, by omega, by omega, by omega, Thing.int Z, (fun i e => by cases e; exact bZ7), (fun z => absurd ⟨Z, rfl, Z1⟩ z), (fun S' e' _ z => by cases e'; have := few (j := gs.length) (by omega); omega), fun S' e' _ _ r1 H5 g5 hr1 => ?_⟩
  cases e'
  rw [fits (few (by omega)) fg cg] at hr1
  refine ⟨_, rfl, s2, fun w1 kw1 => fnd_neq (hr1.same (same_new kw1 _)) (same_new kw1 _ _ _ (g5 _ _ hd)) upd_same ⟨_, rfl, iteF ?_⟩⟩
  have g45 := g5.trans (same_new kw1 (.tup [.str (Str.ofString "fraction"), .ref d]))
  have lS := lS.same g45
  have g0 := g0.trans g45
  generalize upd H5 w1 (.tup [.str (Str.ofString "fraction"), .ref d]) = H7 at lS g0 ⊢
  clear g5 g45 hr1 kw1
  obtain ⟨sb, hsa, hsb⟩ := lS.at'
  refine ⟨_, rfl, ?_⟩
  change tSeq (tWhile _ _) _ _ _ _
  refine ⟨fun d' σ H' => ∃ B : Int, σ = [some (.int way), some (.int p), some (.ref D), some (.int (n : Int)), some (.int more), some (.ref d), some (.int Z), some (.int (m : Int)), some (.ref E1), some (.ref e), some (.ref e4), some (.int B)] ∧ H' = H7 ∧ 1 ≤ B ∧ (B ≤ Z ∨ B ≤ 2 * p ^ ss.length) ∧ d' = (2 * p ^ ss.length + 2 * Z - B).toNat, ⟨_, Z, rfl, rfl, Z1, .inl (Int.le_refl _), rfl⟩, ?_⟩
  rintro d' σ H' ⟨B, rfl, rfl, B1, Bm, rfl⟩
  have W0 : 0 < p ^ ss.length := Int.pow_pos p0
  have bB : LN.Bd 650 B := by
    rcases Bm with z | z
    · exact (bZ.of_le (by omega)).mono (by decide)
    · have b2 : LN.Bd 250 (2 * p ^ ss.length) := ((LN.Bd.of_abs (n := 3) (b := 2) (by omega) (by omega) (by decide)).mul bW).mono (by decide)
      exact (b2.of_le (by omega)).mono (by decide)
  have e2 : 2 * B * B = 2 * (B * B) := Int.mul_assoc ..
  refine ⟨_, rfl, _, _, rfl, rfl, ⟨bd_small (by decide) (by decide) (by decide), bB.mono (by decide)⟩, _, rfl, _, _, rfl, rfl, ⟨((bd_small (n := 64) (by decide) (by decide) (by decide)).mul bB).mono (by decide), bB.mono (by decide)⟩, _, rfl, _, rfl, e4, _, _, _, rfl, rfl, SqT.of hsa, j2, sb, _, rfl, .inr (SqT.of hsb), p, ss.length, congrArg (fun z : Nat => [V.int p, V.int (z : Int)]) (by rw [List.length_map] : (ss.map V.int).length = ss.length), hp, by omega, _, _, rfl, rfl, _, rfl, iteL (fun lt => ?_) (fun ge => ?_)⟩
  · rw [e2] at lt
    have BB : B ≤ B * B := by
      have := Int.mul_le_mul_of_nonneg_left B1 (show 0 ≤ B by omega)
      omega
    refine ⟨_, fun σ' H' h => h, ?_⟩
    exact ⟨_, rfl, _, _, rfl, rfl, ⟨bd_small (by decide) (by decide) (by decide), bB.mono (by decide)⟩, (2 * p ^ ss.length + 2 * Z - 2 * B).toNat, by omega, 2 * B, rfl, rfl, by omega, .inr (by omega), rfl⟩
  · rw [e2] at ge
    exact ⟨_, rfl, _, rfl, e4, p, l, B, ss, rfl, lS, by omega, by omega, by omega, bB.mono (by decide), B1, by omega, fun H9 g9 => q _ (g0.trans g9)⟩
theorem ok_law {f : Addr} {fd : FuncData} (T : Txt K mg) (F : Fun K "law" "law" s_law f fd) (G_found_again : FnOk P w K mg base (CX2 P w) 6 T.f_found_again T.d_found_again ["one", "size"] (spFound K T.a_NoSize T.a_TooFew dFound))
    (G_seen_left : FnOk P w K mg base (CX2 P w) 6 T.f_seen_left T.d_seen_left ["p", "part", "place"] (spSeen K T.a_NoPrime T.a_NoPlace T.a_NoFraction (wSeen K))) (G_size_of : FnOk P w K mg base CX0 6 T.f_size_of T.d_size_of ["p", "part"] spSize)
    (G_divided : FnOk P w K mg base (CX2 P w) 6 T.f_divided T.d_divided ["one", "other"] (spQuo K T.a_Unlike T.a_NoQuotient (wQuot K))) (G_multiplied : FnOk P w K mg base (CX2 P w) 6 T.f_multiplied T.d_multiplied ["one", "other"] (spTwo K T.a_Unlike (wProd K)))
    (G_raised : FnOk P w K mg base (CX2 P w) 6 T.f_raised T.d_raised ["one", "n"] (spPower K T.a_NoPower (wPow K))) :
    FnOk P w K mg base CX0 9 f fd ["_law_script"] (spLawB K) := by
  have G_l_cell_at := (ok_l_cell_at (P := P) (w := w) (base := base) T).mono (k := 8) (by decide)
  have G_l_prime := (ok_l_prime (P := P) (w := w) (base := base) T).mono (k := 8) (by decide)
  have G_l_part := (ok_l_part (P := P) (w := w) (base := base) T).mono (k := 8) (by decide)
  have G_l_told := ok_l_told (P := P) (w := w) (base := base) T G_found_again G_seen_left G_size_of G_divided G_multiplied G_raised
  refine F.okq sc_law (fun vs H Q E h => ?_) (fun cdv A outer s H vs Q E hr h => ?_)
  · obtain ⟨a, ns, rfl, _⟩ := h
    rfl
  obtain ⟨S, ns, rfl, hS, h63, bn, q⟩ := h
  refine ⟨_, (qpss_cons (qps_comp (i := 1) (caps := ["_law_script"]) (idx := [0]) rfl sc_law.nd rfl rfl ⟨rfl, by decide +kernel, rfl, by decide +kernel, rfl, by decide +kernel, rfl, ⟨⟨rfl, rfl⟩, trivial⟩, by decide +kernel, rfl, by decide +kernel⟩ (qpi_range1 rfl T.z_range (qpa_cons (hs := star_Constant) qpe_int qpa_nil)) (fun _ _ _ _ => qif_none) (fun _ _ _ _ => (qpe_call G_l_cell_at hr rfl T.m_l_cell_at T.k_l_cell_at T.b_l_cell_at .nil pass0 (qpa_cons (hs := star_Name) (qpv 1) (qpa_cons (hs := star_Name) (qpv 0) qpa_nil)))))
    (qpss_cons (qps_set (i := 2) sc_law.nd rfl (Or.inl rfl) (qpe_call G_l_prime hr rfl T.m_l_prime T.k_l_prime T.b_l_prime .nil pass0 (qpa_cons (hs := star_Subscript) (qpe_ix ix_list (qpv 1) qpe_int (fun _ _ => rfl)) qpa_nil)))
    (qpss_cons (qps_set (i := 3) sc_law.nd rfl (Or.inl rfl) (qpe_lst (qpa_cons (hs := star_Call) (qpe_call G_l_part hr rfl T.m_l_part T.k_l_part T.b_l_part .nil pass0 (qpa_cons (hs := star_Name) (qpv 2) (qpa_cons (hs := star_Subscript) (qpe_slice sl_list (qpv 1) (qpo_some qpe_int) (qpo_some qpe_int)) qpa_nil))) (qpa_cons (hs := star_Call) (qpe_call G_l_part hr rfl T.m_l_part T.k_l_part T.b_l_part .nil pass0 (qpa_cons (hs := star_Name) (qpv 2) (qpa_cons (hs := star_Subscript) (qpe_slice sl_list (qpv 1) (qpo_some qpe_int) (qpo_some qpe_int)) qpa_nil))) qpa_nil))))
    (qpss_cons (qps_set (i := 4) sc_law.nd rfl (Or.inl rfl) (qpe_op op_add qpe_int (qpe_op op_mod (qpe_ix ix_list (qpv 1) qpe_int (fun _ _ => rfl)) qpe_int)))
    (qpss_cons (qps_for PassesOwn.never rfl (qpi_range1 rfl T.z_range (qpa_cons (hs := star_Constant) qpe_int qpa_nil)) (qpg_name (i := 5) sc_law.nd rfl (Or.inl rfl)) (qpss_one (qps_if (qpt_not (qpt_val (qpe_call G_l_told hr rfl T.m_l_told T.k_l_told T.b_l_told .nil pass0 (qpa_cons (hs := star_Name) (qpv 5) (qpa_cons (hs := star_Name) (qpv 2) (qpa_cons (hs := star_Name) (qpv 3) (qpa_cons (hs := star_Name) (qpv 4) (qpa_cons (hs := star_BinOp) (qpe_op op_mod (qpe_ix ix_list (qpv 1) qpe_int (fun _ _ => rfl)) qpe_int) qpa_nil)))))))) (qpss_one (qps_ret qpe_bl)) qpss_nil)))
    (qpss_one (qps_ret qpe_bl))))))), ?_⟩
  refine ⟨_, rfl, by decide, by decide, fun D hD => ?_⟩
  refine comp_plain (c := fun _ => true) (f := fun v => match v with | .int k => .int (ns.getD k.toNat 0) | v => v) plain_range (by simp; decide) hD (fun _ => trivial) (fun x _ ys R r => r) (fun x hx _ ys R r => ?_) ?_
  · obtain ⟨i, hi, rfl⟩ := List.mem_map.mp hx
    have r : R (.int (ns.getD (0 + (i : Int)).toNat 0)) _ := r
    rw [Int.zero_add, Int.toNat_natCast] at r
    rw [Int.zero_add]
    exact ⟨_, rfl, _, rfl, S, ns, i, rfl, (same_new hD _).seq hS, r⟩
  have eD : ((((List.range (9 : Int).toNat).map fun i : Nat => V.int (0 + (i : Int))).filter fun _ => true).map fun v => match v with | .int k => V.int (ns.getD k.toNat 0) | v => v) = [V.int (ns.getD 0 0), V.int (ns.getD 1 0), V.int (ns.getD 2 0), V.int (ns.getD 3 0), V.int (ns.getD 4 0), V.int (ns.getD 5 0), V.int (ns.getD 6 0), V.int (ns.getD 7 0), V.int (ns.getD 8 0)] := rfl
  rw [eD]
  have g1 := same_new hD (.lst [V.int (ns.getD 0 0), V.int (ns.getD 1 0), V.int (ns.getD 2 0), V.int (ns.getD 3 0), V.int (ns.getD 4 0), V.int (ns.getD 5 0), V.int (ns.getD 6 0), V.int (ns.getD 7 0), V.int (ns.getD 8 0)])
  have hC : upd H D (.lst [V.int (ns.getD 0 0), V.int (ns.getD 1 0), V.int (ns.getD 2 0), V.int (ns.getD 3 0), V.int (ns.getD 4 0), V.int (ns.getD 5 0), V.int (ns.getD 6 0), V.int (ns.getD 7 0), V.int (ns.getD 8 0)]) D = some (.lst [V.int (ns.getD 0 0), V.int (ns.getD 1 0), V.int (ns.getD 2 0), V.int (ns.getD 3 0), V.int (ns.getD 4 0), V.int (ns.getD 5 0), V.int (ns.getD 6 0), V.int (ns.getD 7 0), V.int (ns.getD 8 0)]) := upd_same
  generalize upd H D (.lst [V.int (ns.getD 0 0), V.int (ns.getD 1 0), V.int (ns.getD 2 0), V.int (ns.getD 3 0), V.int (ns.getD 4 0), V.int (ns.getD 5 0), V.int (ns.getD 6 0), V.int (ns.getD 7 0), V.int (ns.getD 8 0)]) = H1 at g1 hC ⊢
  have at0 : atI [V.int (ns.getD 0 0), V.int (ns.getD 1 0), V.int (ns.getD 2 0), V.int (ns.getD 3 0), V.int (ns.getD 4 0), V.int (ns.getD 5 0), V.int (ns.getD 6 0), V.int (ns.getD 7 0), V.int (ns.getD 8 0)] 0 = some (.int (ns.getD 0 0)) := atI_nat (j := 0) rfl
  have at1 : atI [V.int (ns.getD 0 0), V.int (ns.getD 1 0), V.int (ns.getD 2 0), V.int (ns.getD 3 0), V.int (ns.getD 4 0), V.int (ns.getD 5 0), V.int (ns.getD 6 0), V.int (ns.getD 7 0), V.int (ns.getD 8 0)] 1 = some (.int (ns.getD 1 0)) := atI_nat (j := 1) rfl
  have at2 : atI [V.int (ns.getD 0 0), V.int (ns.getD 1 0), V.int (ns.getD 2 0), V.int (ns.getD 3 0), V.int (ns.getD 4 0), V.int (ns.getD 5 0), V.int (ns.getD 6 0), V.int (ns.getD 7 0), V.int (ns.getD 8 0)] 2 = some (.int (ns.getD 2 0)) := atI_nat (j := 2) rfl
  have at3 : atI [V.int (ns.getD 0 0), V.int (ns.getD 1 0), V.int (ns.getD 2 0), V.int (ns.getD 3 0), V.int (ns.getD 4 0), V.int (ns.getD 5 0), V.int (ns.getD 6 0), V.int (ns.getD 7 0), V.int (ns.getD 8 0)] 3 = some (.int (ns.getD 3 0)) := atI_nat (j := 3) rfl
  have at4 : atI [V.int (ns.getD 0 0), V.int (ns.getD 1 0), V.int (ns.getD 2 0), V.int (ns.getD 3 0), V.int (ns.getD 4 0), V.int (ns.getD 5 0), V.int (ns.getD 6 0), V.int (ns.getD 7 0), V.int (ns.getD 8 0)] 4 = some (.int (ns.getD 4 0)) := atI_nat (j := 4) rfl
  have at5 : atI [V.int (ns.getD 0 0), V.int (ns.getD 1 0), V.int (ns.getD 2 0), V.int (ns.getD 3 0), V.int (ns.getD 4 0), V.int (ns.getD 5 0), V.int (ns.getD 6 0), V.int (ns.getD 7 0), V.int (ns.getD 8 0)] 5 = some (.int (ns.getD 5 0)) := atI_nat (j := 5) rfl
  have at6 : atI [V.int (ns.getD 0 0), V.int (ns.getD 1 0), V.int (ns.getD 2 0), V.int (ns.getD 3 0), V.int (ns.getD 4 0), V.int (ns.getD 5 0), V.int (ns.getD 6 0), V.int (ns.getD 7 0), V.int (ns.getD 8 0)] 6 = some (.int (ns.getD 6 0)) := atI_nat (j := 6) rfl
  have at7 : atI [V.int (ns.getD 0 0), V.int (ns.getD 1 0), V.int (ns.getD 2 0), V.int (ns.getD 3 0), V.int (ns.getD 4 0), V.int (ns.getD 5 0), V.int (ns.getD 6 0), V.int (ns.getD 7 0), V.int (ns.getD 8 0)] 7 = some (.int (ns.getD 7 0)) := atI_nat (j := 7) rfl
  have at8 : atI [V.int (ns.getD 0 0), V.int (ns.getD 1 0), V.int (ns.getD 2 0), V.int (ns.getD 3 0), V.int (ns.getD 4 0), V.int (ns.getD 5 0), V.int (ns.getD 6 0), V.int (ns.getD 7 0), V.int (ns.getD 8 0)] 8 = some (.int (ns.getD 8 0)) := atI_nat (j := 8) rfl
  have c14 : cutV [V.int (ns.getD 0 0), V.int (ns.getD 1 0), V.int (ns.getD 2 0), V.int (ns.getD 3 0), V.int (ns.getD 4 0), V.int (ns.getD 5 0), V.int (ns.getD 6 0), V.int (ns.getD 7 0), V.int (ns.getD 8 0)] (some 1) (some 4) = [.int (ns.getD 1 0), .int (ns.getD 2 0), .int (ns.getD 3 0)] := rfl
  have c47 : cutV [V.int (ns.getD 0 0), V.int (ns.getD 1 0), V.int (ns.getD 2 0), V.int (ns.getD 3 0), V.int (ns.getD 4 0), V.int (ns.getD 5 0), V.int (ns.getD 6 0), V.int (ns.getD 7 0), V.int (ns.getD 8 0)] (some 4) (some 7) = [.int (ns.getD 4 0), .int (ns.getD 5 0), .int (ns.getD 6 0)] := rfl
  have s2 : ∀ {x y : V}, ([x, y] : List V).length ≤ sizeLine := small (by show 2 ≤ 1000; decide)
  refine ⟨_, rfl, D, _, _, _, rfl, rfl, SqL.of hC, at0, _, rfl, fun p H2 g2 hp => ?_⟩
  have hC := g2 _ _ hC
  refine ⟨_, rfl, _, rfl, _, rfl, _, rfl, D, _, rfl, SqL.of hC, fun u1 k1 => ?_⟩
  rw [c14]
  have g3 := same_new k1 (.lst [.int (ns.getD 1 0), .int (ns.getD 2 0), .int (ns.getD 3 0)])
  refine ⟨p, u1, _, _, _, rfl, hp, upd_same, fun a x1 y1 t1 b1 l1 H3 g4 A1 => ?_⟩
  have hC := g4 _ _ (g3 _ _ hC)
  refine ⟨_, rfl, _, rfl, _, rfl, _, rfl, D, _, rfl, SqL.of hC, fun u2 k2 => ?_⟩
  rw [c47]
  have g5 := same_new k2 (.lst [.int (ns.getD 4 0), .int (ns.getD 5 0), .int (ns.getD 6 0)])
  refine ⟨p, u2, _, _, _, rfl, hp, upd_same, fun c x2 y2 t2 b2 l2 H4 g6 A2 => ⟨s2, fun B kB => ?_⟩⟩
  have hC := g6 _ _ (g5 _ _ hC)
  have A1 := A1.same (g5.trans g6)
  have g7 := same_new kB (.lst [.ref a, .ref c])
  have hC := g7 _ _ hC
  have A1 := A1.same g7
  have A2 := A2.same g7
  have hB : upd H4 B (.lst [.ref a, .ref c]) B = some (.lst [.ref a, .ref c]) := upd_same
  dsimp only [gName]
  generalize upd H4 B (.lst [.ref a, .ref c]) = H5 at hC A1 A2 hB ⊢
  have q0 := Int.emod_nonneg (ns.getD 7 0) (show (4 : Int) ≠ 0 by decide)
  have q1 := Int.emod_lt_of_pos (ns.getD 7 0) (show (0 : Int) < 4 by decide)
  have q2 := Int.emod_nonneg (ns.getD 8 0) (show (5 : Int) ≠ 0 by decide)
  have q3 := Int.emod_lt_of_pos (ns.getD 8 0) (show (0 : Int) < 5 by decide)
  refine ⟨_, rfl, D, _, _, _, rfl, rfl, SqL.of hC, at7, _, _, rfl, rfl, (by show (0 : Int) < 4; decide), _, _, rfl, rfl, ?_⟩
  dsimp only [gName]
  obtain ⟨n, en⟩ : ∃ n : Nat, 1 + ns.getD 7 0 % 4 = (n : Int) := ⟨(1 + ns.getD 7 0 % 4).toNat, by omega⟩
  rw [en]
  refine ⟨_, rfl, by decide, by decide, ?_⟩
  refine for_rangeN (lo := 0) (n := 3) (fun i σ H' => Same H5 H' ∧ ∃ v : Option V, σ = [some (.ref S), some (.ref D), some (.int p), some (.ref B), some (.int (n : Int)), v]) ⟨Same.refl _, none, rfl⟩ ?_ ?_
  · rintro i σ H' hi ⟨g, v, rfl⟩
    have hC := g _ _ hC
    refine ⟨_, rfl, _, rfl, _, rfl, _, rfl, _, rfl, D, _, _, _, rfl, rfl, SqL.of hC, at8, _, _, rfl, rfl, (by show (0 : Int) < 5; decide), 0 + (i : Int), p, x1, y1, t1, b1, l1, x2, y2, t2, b2, l2, ns.getD 8 0 % 5, B, a, c, n, rfl, by omega, hp, g _ _ hB, A1.same g, A2.same g, by omega, by omega, by omega, by omega, fun H8 g8 => ⟨_, rfl, iteF ⟨g.trans g8, _, rfl⟩⟩⟩
  rintro σ H' ⟨g, v, rfl⟩
  exact q _
theorem ok_all {f : Addr} {fd : FuncData} (T : Txt K mg) (F : Fun K "law" "law" s_law f fd) : FnOk P w K mg base CX0 9 f fd ["_law_script"] (spLawB K) := ok_law T F ((ok_found_again T).mono (by decide)) ((ok_seen_left T).mono (by decide)) ((ok_size_of T).mono (by decide)) ((ok_divided T).mono (by decide)) ((ok_multiplied T).mono (by decide)) ((ok_raised T).mono (by decide))
end
theorem all_mk {l : PySem.W.OpenLaw} {w : World} {K : PySem.W.Frag} {h : Heap} {mg : Str → Option Value} {fa f0 f1 f2 f3 f4 f5 f6 f7 f8 f9 f10 f11 f12 f13 f14 f15 f16 f17 f18 f19 f20 f21 f22 f23 f24 f25 f26 f27 f28 f29 f30 f31 f32 f33 f34 f35 f36 f37 f38 f39 f40 f41 f42 f43 a_PRIMES a_LeftError a_NoPrime a_NoFraction a_NoPlace a_NoFigures a_Unlike a_NoQuotient a_NoPower a_TooFew a_NoSize : Addr} (X : K.In h) (G : h.Ns mainGlobals mg) (hfa : mg "law" = some (.ref fa))
    {od0 an0 : Option Addr} {sl0 : Array (Option Value)} {oc0 kV0 dc0 pm0 cd0 ct0 : Value}
    {od1 an1 : Option Addr} {sl1 : Array (Option Value)} {oc1 kV1 dc1 pm1 cd1 ct1 : Value}
    {od2 an2 : Option Addr} {sl2 : Array (Option Value)} {oc2 kV2 dc2 pm2 cd2 ct2 : Value}
    {od3 an3 : Option Addr} {sl3 : Array (Option Value)} {oc3 kV3 dc3 pm3 cd3 ct3 : Value}
    {od4 an4 : Option Addr} {sl4 : Array (Option Value)} {oc4 kV4 dc4 pm4 cd4 ct4 : Value}
    {od5 an5 : Option Addr} {sl5 : Array (Option Value)} {oc5 kV5 dc5 pm5 cd5 ct5 : Value}
    {dt5 : Addr} {dto5 : Value} {dtd5 : Option Addr} {dtn5 : Nat} {dts5 : Array (Option Value)} {dk5_0 : Tok}
    {od6 an6 : Option Addr} {sl6 : Array (Option Value)} {oc6 kV6 dc6 pm6 cd6 ct6 : Value}
    {od7 an7 : Option Addr} {sl7 : Array (Option Value)} {oc7 kV7 dc7 pm7 cd7 ct7 : Value}
    {od8 an8 : Option Addr} {sl8 : Array (Option Value)} {oc8 kV8 dc8 pm8 cd8 ct8 : Value}
    {od9 an9 : Option Addr} {sl9 : Array (Option Value)} {oc9 kV9 dc9 pm9 cd9 ct9 : Value}
    {od10 an10 : Option Addr} {sl10 : Array (Option Value)} {oc10 kV10 dc10 pm10 cd10 ct10 : Value}
    {od11 an11 : Option Addr} {sl11 : Array (Option Value)} {oc11 kV11 dc11 pm11 cd11 ct11 : Value}
    {od12 an12 : Option Addr} {sl12 : Array (Option Value)} {oc12 kV12 dc12 pm12 cd12 ct12 : Value}
    {od13 an13 : Option Addr} {sl13 : Array (Option Value)} {oc13 kV13 dc13 pm13 cd13 ct13 : Value}
    {od14 an14 : Option Addr} {sl14 : Array (Option Value)} {oc14 kV14 dc14 pm14 cd14 ct14 : Value}
    {od15 an15 : Option Addr} {sl15 : Array (Option Value)} {oc15 kV15 dc15 pm15 cd15 ct15 : Value}
    {od16 an16 : Option Addr} {sl16 : Array (Option Value)} {oc16 kV16 dc16 pm16 cd16 ct16 : Value}
    {od17 an17 : Option Addr} {sl17 : Array (Option Value)} {oc17 kV17 dc17 pm17 cd17 ct17 : Value}
    {od18 an18 : Option Addr} {sl18 : Array (Option Value)} {oc18 kV18 dc18 pm18 cd18 ct18 : Value}
    {od19 an19 : Option Addr} {sl19 : Array (Option Value)} {oc19 kV19 dc19 pm19 cd19 ct19 : Value}
    {od20 an20 : Option Addr} {sl20 : Array (Option Value)} {oc20 kV20 dc20 pm20 cd20 ct20 : Value}
    {od21 an21 : Option Addr} {sl21 : Array (Option Value)} {oc21 kV21 dc21 pm21 cd21 ct21 : Value}
    {od22 an22 : Option Addr} {sl22 : Array (Option Value)} {oc22 kV22 dc22 pm22 cd22 ct22 : Value}
    {od23 an23 : Option Addr} {sl23 : Array (Option Value)} {oc23 kV23 dc23 pm23 cd23 ct23 : Value}
    {od24 an24 : Option Addr} {sl24 : Array (Option Value)} {oc24 kV24 dc24 pm24 cd24 ct24 : Value}
    {od25 an25 : Option Addr} {sl25 : Array (Option Value)} {oc25 kV25 dc25 pm25 cd25 ct25 : Value}
    {od26 an26 : Option Addr} {sl26 : Array (Option Value)} {oc26 kV26 dc26 pm26 cd26 ct26 : Value}
    {od27 an27 : Option Addr} {sl27 : Array (Option Value)} {oc27 kV27 dc27 pm27 cd27 ct27 : Value}
    {od28 an28 : Option Addr} {sl28 : Array (Option Value)} {oc28 kV28 dc28 pm28 cd28 ct28 : Value}
    {od29 an29 : Option Addr} {sl29 : Array (Option Value)} {oc29 kV29 dc29 pm29 cd29 ct29 : Value}
    {od30 an30 : Option Addr} {sl30 : Array (Option Value)} {oc30 kV30 dc30 pm30 cd30 ct30 : Value}
    {od31 an31 : Option Addr} {sl31 : Array (Option Value)} {oc31 kV31 dc31 pm31 cd31 ct31 : Value}
    {od32 an32 : Option Addr} {sl32 : Array (Option Value)} {oc32 kV32 dc32 pm32 cd32 ct32 : Value}
    {od33 an33 : Option Addr} {sl33 : Array (Option Value)} {oc33 kV33 dc33 pm33 cd33 ct33 : Value}
    {od34 an34 : Option Addr} {sl34 : Array (Option Value)} {oc34 kV34 dc34 pm34 cd34 ct34 : Value}
    {od35 an35 : Option Addr} {sl35 : Array (Option Value)} {oc35 kV35 dc35 pm35 cd35 ct35 : Value}
    {od36 an36 : Option Addr} {sl36 : Array (Option Value)} {oc36 kV36 dc36 pm36 cd36 ct36 : Value}
    {od37 an37 : Option Addr} {sl37 : Array (Option Value)} {oc37 kV37 dc37 pm37 cd37 ct37 : Value}
    {od38 an38 : Option Addr} {sl38 : Array (Option Value)} {oc38 kV38 dc38 pm38 cd38 ct38 : Value}
    {od39 an39 : Option Addr} {sl39 : Array (Option Value)} {oc39 kV39 dc39 pm39 cd39 ct39 : Value}
    {od40 an40 : Option Addr} {sl40 : Array (Option Value)} {oc40 kV40 dc40 pm40 cd40 ct40 : Value}
    {od41 an41 : Option Addr} {sl41 : Array (Option Value)} {oc41 kV41 dc41 pm41 cd41 ct41 : Value}
    {od42 an42 : Option Addr} {sl42 : Array (Option Value)} {oc42 kV42 dc42 pm42 cd42 ct42 : Value}
    {od43 an43 : Option Addr} {sl43 : Array (Option Value)} {oc43 kV43 dc43 pm43 cd43 ct43 : Value}
    {od_PRIMES : Option Addr} {sl_PRIMES : Array (Option Value)} {it_PRIMES : Array Value} {n_PRIMES : Nat}
    {t_MOST_TIMES : Tok}
    (a0 : PySem.W.nsIn K mainGlobals "is_whole" = some (some (.ref f0))) (l0 : K.lookup f0 = some ⟨oc0, od0, .func (PySem.W.fnOf "is_whole" "is_whole" (defArgs s_is_whole) (defBody s_is_whole) (defScope s_is_whole) .none kV0 dc0 pm0 an0 cd0 ct0), sl0⟩) (c0 : PySem.W.codeIn K cd0 "is_whole" = true) (k0 : PySem.W.keepIn K (.ref f0) = true)
    (a1 : PySem.W.nsIn K mainGlobals "is_prime" = some (some (.ref f1))) (l1 : K.lookup f1 = some ⟨oc1, od1, .func (PySem.W.fnOf "is_prime" "is_prime" (defArgs s_is_prime) (defBody s_is_prime) (defScope s_is_prime) .none kV1 dc1 pm1 an1 cd1 ct1), sl1⟩) (c1 : PySem.W.codeIn K cd1 "is_prime" = true) (k1 : PySem.W.keepIn K (.ref f1) = true)
    (a2 : PySem.W.nsIn K mainGlobals "exponent" = some (some (.ref f2))) (l2 : K.lookup f2 = some ⟨oc2, od2, .func (PySem.W.fnOf "exponent" "exponent" (defArgs s_exponent) (defBody s_exponent) (defScope s_exponent) .none kV2 dc2 pm2 an2 cd2 ct2), sl2⟩) (c2 : PySem.W.codeIn K cd2 "exponent" = true) (k2 : PySem.W.keepIn K (.ref f2) = true)
    (a3 : PySem.W.nsIn K mainGlobals "power_of" = some (some (.ref f3))) (l3 : K.lookup f3 = some ⟨oc3, od3, .func (PySem.W.fnOf "power_of" "power_of" (defArgs s_power_of) (defBody s_power_of) (defScope s_power_of) .none kV3 dc3 pm3 an3 cd3 ct3), sl3⟩) (c3 : PySem.W.codeIn K cd3 "power_of" = true) (k3 : PySem.W.keepIn K (.ref f3) = true)
    (a4 : PySem.W.nsIn K mainGlobals "common_divisor" = some (some (.ref f4))) (l4 : K.lookup f4 = some ⟨oc4, od4, .func (PySem.W.fnOf "common_divisor" "common_divisor" (defArgs s_common_divisor) (defBody s_common_divisor) (defScope s_common_divisor) .none kV4 dc4 pm4 an4 cd4 ct4), sl4⟩) (c4 : PySem.W.codeIn K cd4 "common_divisor" = true) (k4 : PySem.W.keepIn K (.ref f4) = true)
    (a5 : PySem.W.nsIn K mainGlobals "fraction" = some (some (.ref f5))) (l5 : K.lookup f5 = some ⟨oc5, od5, .func (PySem.W.fnOf "fraction" "fraction" (defArgs s_fraction) (defBody s_fraction) (defScope s_fraction) (.ref dt5) kV5 dc5 pm5 an5 cd5 ct5), sl5⟩) (c5 : PySem.W.codeIn K cd5 "fraction" = true) (k5 : PySem.W.keepIn K (.ref f5) = true)
    (ld5 : K.lookup dt5 = some ⟨dto5, dtd5, .seq #[.int 1 dk5_0] dtn5, dts5⟩)
    (a6 : PySem.W.nsIn K mainGlobals "is_fraction" = some (some (.ref f6))) (l6 : K.lookup f6 = some ⟨oc6, od6, .func (PySem.W.fnOf "is_fraction" "is_fraction" (defArgs s_is_fraction) (defBody s_is_fraction) (defScope s_is_fraction) .none kV6 dc6 pm6 an6 cd6 ct6), sl6⟩) (c6 : PySem.W.codeIn K cd6 "is_fraction" = true) (k6 : PySem.W.keepIn K (.ref f6) = true)
    (a7 : PySem.W.nsIn K mainGlobals "exponent_of" = some (some (.ref f7))) (l7 : K.lookup f7 = some ⟨oc7, od7, .func (PySem.W.fnOf "exponent_of" "exponent_of" (defArgs s_exponent_of) (defBody s_exponent_of) (defScope s_exponent_of) .none kV7 dc7 pm7 an7 cd7 ct7), sl7⟩) (c7 : PySem.W.codeIn K cd7 "exponent_of" = true) (k7 : PySem.W.keepIn K (.ref f7) = true)
    (a8 : PySem.W.nsIn K mainGlobals "without_prime" = some (some (.ref f8))) (l8 : K.lookup f8 = some ⟨oc8, od8, .func (PySem.W.fnOf "without_prime" "without_prime" (defArgs s_without_prime) (defBody s_without_prime) (defScope s_without_prime) .none kV8 dc8 pm8 an8 cd8 ct8), sl8⟩) (c8 : PySem.W.codeIn K cd8 "without_prime" = true) (k8 : PySem.W.keepIn K (.ref f8) = true)
    (a9 : PySem.W.nsIn K mainGlobals "are_figures" = some (some (.ref f9))) (l9 : K.lookup f9 = some ⟨oc9, od9, .func (PySem.W.fnOf "are_figures" "are_figures" (defArgs s_are_figures) (defBody s_are_figures) (defScope s_are_figures) .none kV9 dc9 pm9 an9 cd9 ct9), sl9⟩) (c9 : PySem.W.codeIn K cd9 "are_figures" = true) (k9 : PySem.W.keepIn K (.ref f9) = true)
    (a10 : PySem.W.nsIn K mainGlobals "left_number" = some (some (.ref f10))) (l10 : K.lookup f10 = some ⟨oc10, od10, .func (PySem.W.fnOf "left_number" "left_number" (defArgs s_left_number) (defBody s_left_number) (defScope s_left_number) .none kV10 dc10 pm10 an10 cd10 ct10), sl10⟩) (c10 : PySem.W.codeIn K cd10 "left_number" = true) (k10 : PySem.W.keepIn K (.ref f10) = true)
    (a11 : PySem.W.nsIn K mainGlobals "refuse_unlike" = some (some (.ref f11))) (l11 : K.lookup f11 = some ⟨oc11, od11, .func (PySem.W.fnOf "refuse_unlike" "refuse_unlike" (defArgs s_refuse_unlike) (defBody s_refuse_unlike) (defScope s_refuse_unlike) .none kV11 dc11 pm11 an11 cd11 ct11), sl11⟩) (c11 : PySem.W.codeIn K cd11 "refuse_unlike" = true) (k11 : PySem.W.keepIn K (.ref f11) = true)
    (a12 : PySem.W.nsIn K mainGlobals "known_of" = some (some (.ref f12))) (l12 : K.lookup f12 = some ⟨oc12, od12, .func (PySem.W.fnOf "known_of" "known_of" (defArgs s_known_of) (defBody s_known_of) (defScope s_known_of) .none kV12 dc12 pm12 an12 cd12 ct12), sl12⟩) (c12 : PySem.W.codeIn K cd12 "known_of" = true) (k12 : PySem.W.keepIn K (.ref f12) = true)
    (a13 : PySem.W.nsIn K mainGlobals "number_of" = some (some (.ref f13))) (l13 : K.lookup f13 = some ⟨oc13, od13, .func (PySem.W.fnOf "number_of" "number_of" (defArgs s_number_of) (defBody s_number_of) (defScope s_number_of) .none kV13 dc13 pm13 an13 cd13 ct13), sl13⟩) (c13 : PySem.W.codeIn K cd13 "number_of" = true) (k13 : PySem.W.keepIn K (.ref f13) = true)
    (a14 : PySem.W.nsIn K mainGlobals "unit_of" = some (some (.ref f14))) (l14 : K.lookup f14 = some ⟨oc14, od14, .func (PySem.W.fnOf "unit_of" "unit_of" (defArgs s_unit_of) (defBody s_unit_of) (defScope s_unit_of) .none kV14 dc14 pm14 an14 cd14 ct14), sl14⟩) (c14 : PySem.W.codeIn K cd14 "unit_of" = true) (k14 : PySem.W.keepIn K (.ref f14) = true)
    (a15 : PySem.W.nsIn K mainGlobals "back_of" = some (some (.ref f15))) (l15 : K.lookup f15 = some ⟨oc15, od15, .func (PySem.W.fnOf "back_of" "back_of" (defArgs s_back_of) (defBody s_back_of) (defScope s_back_of) .none kV15 dc15 pm15 an15 cd15 ct15), sl15⟩) (c15 : PySem.W.codeIn K cd15 "back_of" = true) (k15 : PySem.W.keepIn K (.ref f15) = true)
    (a16 : PySem.W.nsIn K mainGlobals "first_figures" = some (some (.ref f16))) (l16 : K.lookup f16 = some ⟨oc16, od16, .func (PySem.W.fnOf "first_figures" "first_figures" (defArgs s_first_figures) (defBody s_first_figures) (defScope s_first_figures) .none kV16 dc16 pm16 an16 cd16 ct16), sl16⟩) (c16 : PySem.W.codeIn K cd16 "first_figures" = true) (k16 : PySem.W.keepIn K (.ref f16) = true)
    (a17 : PySem.W.nsIn K mainGlobals "of_whole" = some (some (.ref f17))) (l17 : K.lookup f17 = some ⟨oc17, od17, .func (PySem.W.fnOf "of_whole" "of_whole" (defArgs s_of_whole) (defBody s_of_whole) (defScope s_of_whole) .none kV17 dc17 pm17 an17 cd17 ct17), sl17⟩) (c17 : PySem.W.codeIn K cd17 "of_whole" = true) (k17 : PySem.W.keepIn K (.ref f17) = true)
    (a18 : PySem.W.nsIn K mainGlobals "paper_of" = some (some (.ref f18))) (l18 : K.lookup f18 = some ⟨oc18, od18, .func (PySem.W.fnOf "paper_of" "paper_of" (defArgs s_paper_of) (defBody s_paper_of) (defScope s_paper_of) .none kV18 dc18 pm18 an18 cd18 ct18), sl18⟩) (c18 : PySem.W.codeIn K cd18 "paper_of" = true) (k18 : PySem.W.keepIn K (.ref f18) = true)
    (a19 : PySem.W.nsIn K mainGlobals "times_power" = some (some (.ref f19))) (l19 : K.lookup f19 = some ⟨oc19, od19, .func (PySem.W.fnOf "times_power" "times_power" (defArgs s_times_power) (defBody s_times_power) (defScope s_times_power) .none kV19 dc19 pm19 an19 cd19 ct19), sl19⟩) (c19 : PySem.W.codeIn K cd19 "times_power" = true) (k19 : PySem.W.keepIn K (.ref f19) = true)
    (a20 : PySem.W.nsIn K mainGlobals "found_again" = some (some (.ref f20))) (l20 : K.lookup f20 = some ⟨oc20, od20, .func (PySem.W.fnOf "found_again" "found_again" (defArgs s_found_again) (defBody s_found_again) (defScope s_found_again) .none kV20 dc20 pm20 an20 cd20 ct20), sl20⟩) (c20 : PySem.W.codeIn K cd20 "found_again" = true) (k20 : PySem.W.keepIn K (.ref f20) = true)
    (a21 : PySem.W.nsIn K mainGlobals "lengthened" = some (some (.ref f21))) (l21 : K.lookup f21 = some ⟨oc21, od21, .func (PySem.W.fnOf "lengthened" "lengthened" (defArgs s_lengthened) (defBody s_lengthened) (defScope s_lengthened) .none kV21 dc21 pm21 an21 cd21 ct21), sl21⟩) (c21 : PySem.W.codeIn K cd21 "lengthened" = true) (k21 : PySem.W.keepIn K (.ref f21) = true)
    (a22 : PySem.W.nsIn K mainGlobals "refuse_power" = some (some (.ref f22))) (l22 : K.lookup f22 = some ⟨oc22, od22, .func (PySem.W.fnOf "refuse_power" "refuse_power" (defArgs s_refuse_power) (defBody s_refuse_power) (defScope s_refuse_power) .none kV22 dc22 pm22 an22 cd22 ct22), sl22⟩) (c22 : PySem.W.codeIn K cd22 "refuse_power" = true) (k22 : PySem.W.keepIn K (.ref f22) = true)
    (a23 : PySem.W.nsIn K mainGlobals "power_rest" = some (some (.ref f23))) (l23 : K.lookup f23 = some ⟨oc23, od23, .func (PySem.W.fnOf "power_rest" "power_rest" (defArgs s_power_rest) (defBody s_power_rest) (defScope s_power_rest) .none kV23 dc23 pm23 an23 cd23 ct23), sl23⟩) (c23 : PySem.W.codeIn K cd23 "power_rest" = true) (k23 : PySem.W.keepIn K (.ref f23) = true)
    (a24 : PySem.W.nsIn K mainGlobals "with_chosen_sign" = some (some (.ref f24))) (l24 : K.lookup f24 = some ⟨oc24, od24, .func (PySem.W.fnOf "with_chosen_sign" "with_chosen_sign" (defArgs s_with_chosen_sign) (defBody s_with_chosen_sign) (defScope s_with_chosen_sign) .none kV24 dc24 pm24 an24 cd24 ct24), sl24⟩) (c24 : PySem.W.codeIn K cd24 "with_chosen_sign" = true) (k24 : PySem.W.keepIn K (.ref f24) = true)
    (a25 : PySem.W.nsIn K mainGlobals "raised" = some (some (.ref f25))) (l25 : K.lookup f25 = some ⟨oc25, od25, .func (PySem.W.fnOf "raised" "raised" (defArgs s_raised) (defBody s_raised) (defScope s_raised) .none kV25 dc25 pm25 an25 cd25 ct25), sl25⟩) (c25 : PySem.W.codeIn K cd25 "raised" = true) (k25 : PySem.W.keepIn K (.ref f25) = true)
    (a26 : PySem.W.nsIn K mainGlobals "multiplied" = some (some (.ref f26))) (l26 : K.lookup f26 = some ⟨oc26, od26, .func (PySem.W.fnOf "multiplied" "multiplied" (defArgs s_multiplied) (defBody s_multiplied) (defScope s_multiplied) .none kV26 dc26 pm26 an26 cd26 ct26), sl26⟩) (c26 : PySem.W.codeIn K cd26 "multiplied" = true) (k26 : PySem.W.keepIn K (.ref f26) = true)
    (a27 : PySem.W.nsIn K mainGlobals "refuse_divisor" = some (some (.ref f27))) (l27 : K.lookup f27 = some ⟨oc27, od27, .func (PySem.W.fnOf "refuse_divisor" "refuse_divisor" (defArgs s_refuse_divisor) (defBody s_refuse_divisor) (defScope s_refuse_divisor) .none kV27 dc27 pm27 an27 cd27 ct27), sl27⟩) (c27 : PySem.W.codeIn K cd27 "refuse_divisor" = true) (k27 : PySem.W.keepIn K (.ref f27) = true)
    (a28 : PySem.W.nsIn K mainGlobals "divided" = some (some (.ref f28))) (l28 : K.lookup f28 = some ⟨oc28, od28, .func (PySem.W.fnOf "divided" "divided" (defArgs s_divided) (defBody s_divided) (defScope s_divided) .none kV28 dc28 pm28 an28 cd28 ct28), sl28⟩) (c28 : PySem.W.codeIn K cd28 "divided" = true) (k28 : PySem.W.keepIn K (.ref f28) = true)
    (a29 : PySem.W.nsIn K mainGlobals "seen_left" = some (some (.ref f29))) (l29 : K.lookup f29 = some ⟨oc29, od29, .func (PySem.W.fnOf "seen_left" "seen_left" (defArgs s_seen_left) (defBody s_seen_left) (defScope s_seen_left) .none kV29 dc29 pm29 an29 cd29 ct29), sl29⟩) (c29 : PySem.W.codeIn K cd29 "seen_left" = true) (k29 : PySem.W.keepIn K (.ref f29) = true)
    (a30 : PySem.W.nsIn K mainGlobals "size_of" = some (some (.ref f30))) (l30 : K.lookup f30 = some ⟨oc30, od30, .func (PySem.W.fnOf "size_of" "size_of" (defArgs s_size_of) (defBody s_size_of) (defScope s_size_of) .none kV30 dc30 pm30 an30 cd30 ct30), sl30⟩) (c30 : PySem.W.codeIn K cd30 "size_of" = true) (k30 : PySem.W.keepIn K (.ref f30) = true)
    (a31 : PySem.W.nsIn K mainGlobals "_law_cell_at" = some (some (.ref f31))) (l31 : K.lookup f31 = some ⟨oc31, od31, .func (PySem.W.fnOf "_law_cell_at" "_law_cell_at" (defArgs s_l_cell_at) (defBody s_l_cell_at) (defScope s_l_cell_at) .none kV31 dc31 pm31 an31 cd31 ct31), sl31⟩) (c31 : PySem.W.codeIn K cd31 "_law_cell_at" = true) (k31 : PySem.W.keepIn K (.ref f31) = true)
    (a32 : PySem.W.nsIn K mainGlobals "_law_power" = some (some (.ref f32))) (l32 : K.lookup f32 = some ⟨oc32, od32, .func (PySem.W.fnOf "_law_power" "_law_power" (defArgs s_l_power) (defBody s_l_power) (defScope s_l_power) .none kV32 dc32 pm32 an32 cd32 ct32), sl32⟩) (c32 : PySem.W.codeIn K cd32 "_law_power" = true) (k32 : PySem.W.keepIn K (.ref f32) = true)
    (a33 : PySem.W.nsIn K mainGlobals "_law_prime" = some (some (.ref f33))) (l33 : K.lookup f33 = some ⟨oc33, od33, .func (PySem.W.fnOf "_law_prime" "_law_prime" (defArgs s_l_prime) (defBody s_l_prime) (defScope s_l_prime) .none kV33 dc33 pm33 an33 cd33 ct33), sl33⟩) (c33 : PySem.W.codeIn K cd33 "_law_prime" = true) (k33 : PySem.W.keepIn K (.ref f33) = true)
    (a34 : PySem.W.nsIn K mainGlobals "_law_divisor" = some (some (.ref f34))) (l34 : K.lookup f34 = some ⟨oc34, od34, .func (PySem.W.fnOf "_law_divisor" "_law_divisor" (defArgs s_l_divisor) (defBody s_l_divisor) (defScope s_l_divisor) .none kV34 dc34 pm34 an34 cd34 ct34), sl34⟩) (c34 : PySem.W.codeIn K cd34 "_law_divisor" = true) (k34 : PySem.W.keepIn K (.ref f34) = true)
    (a35 : PySem.W.nsIn K mainGlobals "_law_without" = some (some (.ref f35))) (l35 : K.lookup f35 = some ⟨oc35, od35, .func (PySem.W.fnOf "_law_without" "_law_without" (defArgs s_l_without) (defBody s_l_without) (defScope s_l_without) .none kV35 dc35 pm35 an35 cd35 ct35), sl35⟩) (c35 : PySem.W.codeIn K cd35 "_law_without" = true) (k35 : PySem.W.keepIn K (.ref f35) = true)
    (a36 : PySem.W.nsIn K mainGlobals "_law_lowest" = some (some (.ref f36))) (l36 : K.lookup f36 = some ⟨oc36, od36, .func (PySem.W.fnOf "_law_lowest" "_law_lowest" (defArgs s_l_lowest) (defBody s_l_lowest) (defScope s_l_lowest) .none kV36 dc36 pm36 an36 cd36 ct36), sl36⟩) (c36 : PySem.W.codeIn K cd36 "_law_lowest" = true) (k36 : PySem.W.keepIn K (.ref f36) = true)
    (a37 : PySem.W.nsIn K mainGlobals "_law_part" = some (some (.ref f37))) (l37 : K.lookup f37 = some ⟨oc37, od37, .func (PySem.W.fnOf "_law_part" "_law_part" (defArgs s_l_part) (defBody s_l_part) (defScope s_l_part) .none kV37 dc37 pm37 an37 cd37 ct37), sl37⟩) (c37 : PySem.W.codeIn K cd37 "_law_part" = true) (k37 : PySem.W.keepIn K (.ref f37) = true)
    (a38 : PySem.W.nsIn K mainGlobals "_law_exponent" = some (some (.ref f38))) (l38 : K.lookup f38 = some ⟨oc38, od38, .func (PySem.W.fnOf "_law_exponent" "_law_exponent" (defArgs s_l_exponent) (defBody s_l_exponent) (defScope s_l_exponent) .none kV38 dc38 pm38 an38 cd38 ct38), sl38⟩) (c38 : PySem.W.codeIn K cd38 "_law_exponent" = true) (k38 : PySem.W.keepIn K (.ref f38) = true)
    (a39 : PySem.W.nsIn K mainGlobals "_law_enough" = some (some (.ref f39))) (l39 : K.lookup f39 = some ⟨oc39, od39, .func (PySem.W.fnOf "_law_enough" "_law_enough" (defArgs s_l_enough) (defBody s_l_enough) (defScope s_l_enough) .none kV39 dc39 pm39 an39 cd39 ct39), sl39⟩) (c39 : PySem.W.codeIn K cd39 "_law_enough" = true) (k39 : PySem.W.keepIn K (.ref f39) = true)
    (a40 : PySem.W.nsIn K mainGlobals "_law_too_few" = some (some (.ref f40))) (l40 : K.lookup f40 = some ⟨oc40, od40, .func (PySem.W.fnOf "_law_too_few" "_law_too_few" (defArgs s_l_too_few) (defBody s_l_too_few) (defScope s_l_too_few) .none kV40 dc40 pm40 an40 cd40 ct40), sl40⟩) (c40 : PySem.W.codeIn K cd40 "_law_too_few" = true) (k40 : PySem.W.keepIn K (.ref f40) = true)
    (a41 : PySem.W.nsIn K mainGlobals "_law_made" = some (some (.ref f41))) (l41 : K.lookup f41 = some ⟨oc41, od41, .func (PySem.W.fnOf "_law_made" "_law_made" (defArgs s_l_made) (defBody s_l_made) (defScope s_l_made) .none kV41 dc41 pm41 an41 cd41 ct41), sl41⟩) (c41 : PySem.W.codeIn K cd41 "_law_made" = true) (k41 : PySem.W.keepIn K (.ref f41) = true)
    (a42 : PySem.W.nsIn K mainGlobals "_law_told" = some (some (.ref f42))) (l42 : K.lookup f42 = some ⟨oc42, od42, .func (PySem.W.fnOf "_law_told" "_law_told" (defArgs s_l_told) (defBody s_l_told) (defScope s_l_told) .none kV42 dc42 pm42 an42 cd42 ct42), sl42⟩) (c42 : PySem.W.codeIn K cd42 "_law_told" = true) (k42 : PySem.W.keepIn K (.ref f42) = true)
    (a43 : PySem.W.nsIn K mainGlobals "law" = some (some (.ref f43))) (l43 : K.lookup f43 = some ⟨oc43, od43, .func (PySem.W.fnOf "law" "law" (defArgs s_law) (defBody s_law) (defScope s_law) .none kV43 dc43 pm43 an43 cd43 ct43), sl43⟩) (c43 : PySem.W.codeIn K cd43 "law" = true) (k43 : PySem.W.keepIn K (.ref f43) = true)
    (a_PRIMES_ : PySem.W.nsIn K mainGlobals "PRIMES" = some (some (.ref a_PRIMES))) (l_PRIMES : K.lookup a_PRIMES = some ⟨.type "tuple", od_PRIMES, .seq it_PRIMES n_PRIMES, sl_PRIMES⟩) (v_PRIMES : it_PRIMES.size ≤ sizeLine ∧ Vals (primesL.map V.int) it_PRIMES.toList)
    (a_MOST_TIMES_ : PySem.W.nsIn K mainGlobals "MOST_TIMES" = some (some (.int 1000 t_MOST_TIMES)))
    (a_LeftError_ : PySem.W.nsIn K mainGlobals "LeftError" = some (some (.ref a_LeftError)))
    (a_NoPrime_ : PySem.W.nsIn K mainGlobals "NoPrime" = some (some (.ref a_NoPrime)))
    (a_NoFraction_ : PySem.W.nsIn K mainGlobals "NoFraction" = some (some (.ref a_NoFraction)))
    (a_NoPlace_ : PySem.W.nsIn K mainGlobals "NoPlace" = some (some (.ref a_NoPlace)))
    (a_NoFigures_ : PySem.W.nsIn K mainGlobals "NoFigures" = some (some (.ref a_NoFigures)))
    (a_Unlike_ : PySem.W.nsIn K mainGlobals "Unlike" = some (some (.ref a_Unlike)))
    (a_NoQuotient_ : PySem.W.nsIn K mainGlobals "NoQuotient" = some (some (.ref a_NoQuotient)))
    (a_NoPower_ : PySem.W.nsIn K mainGlobals "NoPower" = some (some (.ref a_NoPower)))
    (a_TooFew_ : PySem.W.nsIn K mainGlobals "TooFew" = some (some (.ref a_TooFew)))
    (a_NoSize_ : PySem.W.nsIn K mainGlobals "NoSize" = some (some (.ref a_NoSize)))
    (x_NoPrime : PySem.W.excIn K a_NoPrime bmVE "ValueError.__new__" = true)
    (x_NoPlace : PySem.W.excIn K a_NoPlace bmVE "ValueError.__new__" = true)
    (x_NoFigures : PySem.W.excIn K a_NoFigures bmVE "ValueError.__new__" = true)
    (x_Unlike : PySem.W.excIn K a_Unlike bmVE "ValueError.__new__" = true)
    (x_NoQuotient : PySem.W.excIn K a_NoQuotient bmVE "ValueError.__new__" = true)
    (x_NoPower : PySem.W.excIn K a_NoPower bmVE "ValueError.__new__" = true)
    (x_NoFraction : PySem.W.excIn K a_NoFraction bmVE "ValueError.__new__" = true)
    (x_NoSize : PySem.W.excIn K a_NoSize bmVE "ValueError.__new__" = true)
    (x_TooFew : PySem.W.excIn K a_TooFew bmVE "ValueError.__new__" = true)
    (z_abs : PySem.W.nsIn K mainGlobals "abs" = some none)
    (z_all : PySem.W.nsIn K mainGlobals "all" = some none)
    (z_bool : PySem.W.nsIn K mainGlobals "bool" = some none)
    (z_int : PySem.W.nsIn K mainGlobals "int" = some none)
    (z_isinstance : PySem.W.nsIn K mainGlobals "isinstance" = some none)
    (z_len : PySem.W.nsIn K mainGlobals "len" = some none)
    (z_list : PySem.W.nsIn K mainGlobals "list" = some none)
    (z_max : PySem.W.nsIn K mainGlobals "max" = some none)
    (z_min : PySem.W.nsIn K mainGlobals "min" = some none)
    (z_range : PySem.W.nsIn K mainGlobals "range" = some none)
    (z_reversed : PySem.W.nsIn K mainGlobals "reversed" = some none)
    (z_tuple : PySem.W.nsIn K mainGlobals "tuple" = some none) :
    ∃ fd : FuncData, (∀ (s : Shared) (v : Value), BindsTo s fd ⟨[v], []⟩ [("_law_script", v)]) ∧ ∀ base : Heap, K.In base → base.Ns mainGlobals mg → FnOk l.prog w K mg base CX0 9 fa fd ["_law_script"] (spLawB K) := by
  have e := hfa.symm.trans (PySem.W.mg_of X G a43)
  cases e
  have F0 := fun_mk (st := s_is_whole) l0 c0 k0
  have b0 := F0.binds (ps := ["thing"]) fun _ _ _ _ _ _ us hl => match us, hl with | [_], _ => rfl
  have F1 := fun_mk (st := s_is_prime) l1 c1 k1
  have b1 := F1.binds (ps := ["thing"]) fun _ _ _ _ _ _ us hl => match us, hl with | [_], _ => rfl
  have F2 := fun_mk (st := s_exponent) l2 c2 k2
  have b2 := F2.binds (ps := ["p", "number"]) fun _ _ _ _ _ _ us hl => match us, hl with | [_, _], _ => rfl
  have F3 := fun_mk (st := s_power_of) l3 c3 k3
  have b3 := F3.binds (ps := ["p", "times"]) fun _ _ _ _ _ _ us hl => match us, hl with | [_, _], _ => rfl
  have F4 := fun_mk (st := s_common_divisor) l4 c4 k4
  have b4 := F4.binds (ps := ["one", "other"]) fun _ _ _ _ _ _ us hl => match us, hl with | [_, _], _ => rfl
  have F5 := funD_mk (st := s_fraction) l5 c5 k5
  have b5 : Binds K (PySem.W.fnOf "fraction" "fraction" (defArgs s_fraction) (defBody s_fraction) (defScope s_fraction) (.ref dt5) kV5 dc5 pm5 an5 cd5 ct5) ["top", "bottom"] [] := fun s us X hl => match us, hl with | [_, _], _ => PySem.W.binds_K X rfl ld5 rfl rfl rfl
  have bd5 : Binds K (PySem.W.fnOf "fraction" "fraction" (defArgs s_fraction) (defBody s_fraction) (defScope s_fraction) (.ref dt5) kV5 dc5 pm5 an5 cd5 ct5) ["top", "bottom"] [.int 1 dk5_0] := fun s us X hl => match us, (show us.length = 1 by have := hl; rw [List.length_append] at this; exact Nat.add_right_cancel (m := 1) this) with | [_], _ => PySem.W.binds_K X rfl ld5 rfl rfl rfl
  have F6 := fun_mk (st := s_is_fraction) l6 c6 k6
  have b6 := F6.binds (ps := ["thing"]) fun _ _ _ _ _ _ us hl => match us, hl with | [_], _ => rfl
  have F7 := fun_mk (st := s_exponent_of) l7 c7 k7
  have b7 := F7.binds (ps := ["p", "one"]) fun _ _ _ _ _ _ us hl => match us, hl with | [_, _], _ => rfl
  have F8 := fun_mk (st := s_without_prime) l8 c8 k8
  have b8 := F8.binds (ps := ["p", "one"]) fun _ _ _ _ _ _ us hl => match us, hl with | [_, _], _ => rfl
  have F9 := fun_mk (st := s_are_figures) l9 c9 k9
  have b9 := F9.binds (ps := ["p", "things"]) fun _ _ _ _ _ _ us hl => match us, hl with | [_, _], _ => rfl
  have F10 := fun_mk (st := s_left_number) l10 c10 k10
  have b10 := F10.binds (ps := ["p", "least", "figures"]) fun _ _ _ _ _ _ us hl => match us, hl with | [_, _, _], _ => rfl
  have F11 := fun_mk (st := s_refuse_unlike) l11 c11 k11
  have b11 := F11.binds (ps := ["one", "other"]) fun _ _ _ _ _ _ us hl => match us, hl with | [_, _], _ => rfl
  have F12 := fun_mk (st := s_known_of) l12 c12 k12
  have b12 := F12.binds (ps := ["one"]) fun _ _ _ _ _ _ us hl => match us, hl with | [_], _ => rfl
  have F13 := fun_mk (st := s_number_of) l13 c13 k13
  have b13 := F13.binds (ps := ["p", "figures"]) fun _ _ _ _ _ _ us hl => match us, hl with | [_, _], _ => rfl
  have F14 := fun_mk (st := s_unit_of) l14 c14 k14
  have b14 := F14.binds (ps := ["one"]) fun _ _ _ _ _ _ us hl => match us, hl with | [_], _ => rfl
  have F15 := fun_mk (st := s_back_of) l15 c15 k15
  have b15 := F15.binds (ps := ["p", "number"]) fun _ _ _ _ _ _ us hl => match us, hl with | [_, _], _ => rfl
  have F16 := fun_mk (st := s_first_figures) l16 c16 k16
  have b16 := F16.binds (ps := ["p", "top", "bottom", "many"]) fun _ _ _ _ _ _ us hl => match us, hl with | [_, _, _, _], _ => rfl
  have F17 := fun_mk (st := s_of_whole) l17 c17 k17
  have b17 := F17.binds (ps := ["p", "least", "number", "many"]) fun _ _ _ _ _ _ us hl => match us, hl with | [_, _, _, _], _ => rfl
  have F18 := fun_mk (st := s_paper_of) l18 c18 k18
  have b18 := F18.binds (ps := ["power", "unit", "size"]) fun _ _ _ _ _ _ us hl => match us, hl with | [_, _, _], _ => rfl
  have F19 := fun_mk (st := s_times_power) l19 c19 k19
  have b19 := F19.binds (ps := ["p", "top", "bottom", "times"]) fun _ _ _ _ _ _ us hl => match us, hl with | [_, _, _, _], _ => rfl
  have F20 := fun_mk (st := s_found_again) l20 c20 k20
  have b20 := F20.binds (ps := ["one", "size"]) fun _ _ _ _ _ _ us hl => match us, hl with | [_, _], _ => rfl
  have F21 := fun_mk (st := s_lengthened) l21 c21 k21
  have b21 := F21.binds (ps := ["one", "figure"]) fun _ _ _ _ _ _ us hl => match us, hl with | [_, _], _ => rfl
  have F22 := fun_mk (st := s_refuse_power) l22 c22 k22
  have b22 := F22.binds (ps := ["n"]) fun _ _ _ _ _ _ us hl => match us, hl with | [_], _ => rfl
  have F23 := fun_mk (st := s_power_rest) l23 c23 k23
  have b23 := F23.binds (ps := ["number", "times", "divisor"]) fun _ _ _ _ _ _ us hl => match us, hl with | [_, _, _], _ => rfl
  have F24 := fun_mk (st := s_with_chosen_sign) l24 c24 k24
  have b24 := F24.binds (ps := ["one", "n"]) fun _ _ _ _ _ _ us hl => match us, hl with | [_, _], _ => rfl
  have F25 := fun_mk (st := s_raised) l25 c25 k25
  have b25 := F25.binds (ps := ["one", "n"]) fun _ _ _ _ _ _ us hl => match us, hl with | [_, _], _ => rfl
  have F26 := fun_mk (st := s_multiplied) l26 c26 k26
  have b26 := F26.binds (ps := ["one", "other"]) fun _ _ _ _ _ _ us hl => match us, hl with | [_, _], _ => rfl
  have F27 := fun_mk (st := s_refuse_divisor) l27 c27 k27
  have b27 := F27.binds (ps := ["one", "other"]) fun _ _ _ _ _ _ us hl => match us, hl with | [_, _], _ => rfl
  have F28 := fun_mk (st := s_divided) l28 c28 k28
  have b28 := F28.binds (ps := ["one", "other"]) fun _ _ _ _ _ _ us hl => match us, hl with | [_, _], _ => rfl
  have F29 := fun_mk (st := s_seen_left) l29 c29 k29
  have b29 := F29.binds (ps := ["p", "part", "place"]) fun _ _ _ _ _ _ us hl => match us, hl with | [_, _, _], _ => rfl
  have F30 := fun_mk (st := s_size_of) l30 c30 k30
  have b30 := F30.binds (ps := ["p", "part"]) fun _ _ _ _ _ _ us hl => match us, hl with | [_, _], _ => rfl
  have F31 := fun_mk (st := s_l_cell_at) l31 c31 k31
  have b31 := F31.binds (ps := ["_law_script", "_law_k"]) fun _ _ _ _ _ _ us hl => match us, hl with | [_, _], _ => rfl
  have F32 := fun_mk (st := s_l_power) l32 c32 k32
  have b32 := F32.binds (ps := ["_law_p", "_law_times"]) fun _ _ _ _ _ _ us hl => match us, hl with | [_, _], _ => rfl
  have F33 := fun_mk (st := s_l_prime) l33 c33 k33
  have b33 := F33.binds (ps := ["_law_cell"]) fun _ _ _ _ _ _ us hl => match us, hl with | [_], _ => rfl
  have F34 := fun_mk (st := s_l_divisor) l34 c34 k34
  have b34 := F34.binds (ps := ["_law_one", "_law_other"]) fun _ _ _ _ _ _ us hl => match us, hl with | [_, _], _ => rfl
  have F35 := fun_mk (st := s_l_without) l35 c35 k35
  have b35 := F35.binds (ps := ["_law_p", "_law_number"]) fun _ _ _ _ _ _ us hl => match us, hl with | [_, _], _ => rfl
  have F36 := fun_mk (st := s_l_lowest) l36 c36 k36
  have b36 := F36.binds (ps := ["_law_top", "_law_bottom"]) fun _ _ _ _ _ _ us hl => match us, hl with | [_, _], _ => rfl
  have F37 := fun_mk (st := s_l_part) l37 c37 k37
  have b37 := F37.binds (ps := ["_law_p", "_law_cells"]) fun _ _ _ _ _ _ us hl => match us, hl with | [_, _], _ => rfl
  have F38 := fun_mk (st := s_l_exponent) l38 c38 k38
  have b38 := F38.binds (ps := ["_law_p", "_law_part_here"]) fun _ _ _ _ _ _ us hl => match us, hl with | [_, _], _ => rfl
  have F39 := fun_mk (st := s_l_enough) l39 c39 k39
  have b39 := F39.binds (ps := ["_law_p", "_law_size"]) fun _ _ _ _ _ _ us hl => match us, hl with | [_, _], _ => rfl
  have F40 := fun_mk (st := s_l_too_few) l40 c40 k40
  have b40 := F40.binds (ps := ["_law_one", "_law_size"]) fun _ _ _ _ _ _ us hl => match us, hl with | [_, _], _ => rfl
  have F41 := fun_mk (st := s_l_made) l41 c41 k41
  have b41 := F41.binds (ps := ["_law_way", "_law_one", "_law_other", "_law_times"]) fun _ _ _ _ _ _ us hl => match us, hl with | [_, _, _, _], _ => rfl
  have F42 := fun_mk (st := s_l_told) l42 c42 k42
  have b42 := F42.binds (ps := ["_law_way", "_law_p", "_law_parts", "_law_times", "_law_more"]) fun _ _ _ _ _ _ us hl => match us, hl with | [_, _, _, _, _], _ => rfl
  have F43 := fun_mk (st := s_law) l43 c43 k43
  have T : Txt K mg := ⟨f0, _, F0, b0, PySem.W.mg_of X G a0, k0, f1, _, F1, b1, PySem.W.mg_of X G a1, k1, f2, _, F2, b2, PySem.W.mg_of X G a2, k2, f3, _, F3, b3, PySem.W.mg_of X G a3, k3, f4, _, F4, b4, PySem.W.mg_of X G a4, k4, f5, _, F5, b5, PySem.W.mg_of X G a5, k5, ⟨_, .cons ⟨_, rfl⟩ (.nil), bd5⟩, f6, _, F6, b6, PySem.W.mg_of X G a6, k6, f7, _, F7, b7, PySem.W.mg_of X G a7, k7, f8, _, F8, b8, PySem.W.mg_of X G a8, k8, f9, _, F9, b9, PySem.W.mg_of X G a9, k9, f10, _, F10, b10, PySem.W.mg_of X G a10, k10, f11, _, F11, b11, PySem.W.mg_of X G a11, k11, f12, _, F12, b12, PySem.W.mg_of X G a12, k12, f13, _, F13, b13, PySem.W.mg_of X G a13, k13, f14, _, F14, b14, PySem.W.mg_of X G a14, k14, f15, _, F15, b15, PySem.W.mg_of X G a15, k15, f16, _, F16, b16, PySem.W.mg_of X G a16, k16, f17, _, F17, b17, PySem.W.mg_of X G a17, k17, f18, _, F18, b18, PySem.W.mg_of X G a18, k18, f19, _, F19, b19, PySem.W.mg_of X G a19, k19, f20, _, F20, b20, PySem.W.mg_of X G a20, k20, f21, _, F21, b21, PySem.W.mg_of X G a21, k21, f22, _, F22, b22, PySem.W.mg_of X G a22, k22, f23, _, F23, b23, PySem.W.mg_of X G a23, k23, f24, _, F24, b24, PySem.W.mg_of X G a24, k24, f25, _, F25, b25, PySem.W.mg_of X G a25, k25, f26, _, F26, b26, PySem.W.mg_of X G a26, k26, f27, _, F27, b27, PySem.W.mg_of X G a27, k27, f28, _, F28, b28, PySem.W.mg_of X G a28, k28, f29, _, F29, b29, PySem.W.mg_of X G a29, k29, f30, _, F30, b30, PySem.W.mg_of X G a30, k30, f31, _, F31, b31, PySem.W.mg_of X G a31, k31, f32, _, F32, b32, PySem.W.mg_of X G a32, k32, f33, _, F33, b33, PySem.W.mg_of X G a33, k33, f34, _, F34, b34, PySem.W.mg_of X G a34, k34, f35, _, F35, b35, PySem.W.mg_of X G a35, k35, f36, _, F36, b36, PySem.W.mg_of X G a36, k36, f37, _, F37, b37, PySem.W.mg_of X G a37, k37, f38, _, F38, b38, PySem.W.mg_of X G a38, k38, f39, _, F39, b39, PySem.W.mg_of X G a39, k39, f40, _, F40, b40, PySem.W.mg_of X G a40, k40, f41, _, F41, b41, PySem.W.mg_of X G a41, k41, f42, _, F42, b42, PySem.W.mg_of X G a42, k42, a_PRIMES, PySem.W.mg_of X G a_PRIMES_, fun _ => .inr ⟨_, it_PRIMES, n_PRIMES, l_PRIMES, rfl, rfl, v_PRIMES.1, v_PRIMES.2⟩, t_MOST_TIMES, PySem.W.mg_of X G a_MOST_TIMES_, a_LeftError, PySem.W.mg_of X G a_LeftError_, a_NoPrime, PySem.W.mg_of X G a_NoPrime_, a_NoFraction, PySem.W.mg_of X G a_NoFraction_, a_NoPlace, PySem.W.mg_of X G a_NoPlace_, a_NoFigures, PySem.W.mg_of X G a_NoFigures_, a_Unlike, PySem.W.mg_of X G a_Unlike_, a_NoQuotient, PySem.W.mg_of X G a_NoQuotient_, a_NoPower, PySem.W.mg_of X G a_NoPower_, a_TooFew, PySem.W.mg_of X G a_TooFew_, a_NoSize, PySem.W.mg_of X G a_NoSize_, x_NoPrime, x_NoPlace, x_NoFigures, x_Unlike, x_NoQuotient, x_NoPower, x_NoFraction, x_NoSize, x_TooFew, PySem.W.mg_none_of X G z_abs, PySem.W.mg_none_of X G z_all, PySem.W.mg_none_of X G z_bool, PySem.W.mg_none_of X G z_int, PySem.W.mg_none_of X G z_isinstance, PySem.W.mg_none_of X G z_len, PySem.W.mg_none_of X G z_list, PySem.W.mg_none_of X G z_max, PySem.W.mg_none_of X G z_min, PySem.W.mg_none_of X G z_range, PySem.W.mg_none_of X G z_reversed, PySem.W.mg_none_of X G z_tuple⟩
  exact ⟨PySem.W.fnOf "law" "law" (defArgs s_law) (defBody s_law) (defScope s_law) .none kV43 dc43 pm43 an43 cd43 ct43, fun s v => .of_eq rfl, fun base _ _ => ok_all T F43⟩
theorem walk {l : PySem.W.OpenLaw} {q : Program} {loose : List Str} {XP : (Str → Option Value) → Heap → Prop} {YP : World → Heap → Prop} {d : DefRec} {K : Params → PySem.W.Frag} (hn : l.most = some 63) (hdf : d.params.defaults = [])
    (hY : ∀ (w : World) (h : Heap), YP w h → (K w.params).In h)
    (F : ∀ (w : World) (mg : Str → Option Value) (fa : Addr) (h : Heap), (K w.params).In h → h.Ns mainGlobals mg → mg d.name = some (.ref fa) →
      ∃ fd : FuncData, (∀ (s : Shared) (u : Value), BindsTo s fd ⟨[u], []⟩ [("_law_script", u)]) ∧ ∀ base : Heap, (K w.params).In base → base.Ns mainGlobals mg → FnOk l.prog w (K w.params) mg base CX0 9 fa fd ["_law_script"] (spLawB (K w.params))) :
    PySem.W.WalkO q loose XP YP l.row.toRowW d [] (fun f vs => PySem.call f vs) :=
  L2.walk_ofB (n := 63) (k := 9) (x := "_law_script") (CX := fun _ => CX0) (sp := fun w => spLawB (K w.params)) hn (by decide) hdf ⟨rfl, by decide, by decide⟩ hY F (fun _ _ a ns hl hb _ hS => ⟨a, ns, rfl, hS, hl, bd_getD hb, fun _ => rfl⟩) fun _ _ _ _ _ z => z
end K55
def PySem.W.Fast.tw12662490960411453482 : Unit := ()
def PySem.W.Fast.tw15087692540231857210 : Unit := ()
def PySem.W.Fast.tw16181039478730489681 : Unit := ()
def PySem.W.Fast.tw16343222102254951996 : Unit := ()
def PySem.W.Fast.tw16692783195016703178 : Unit := ()
def PySem.W.Fast.tw2841030112603070388 : Unit := ()
def PySem.W.Fast.tw2970102295618921524 : Unit := ()
def PySem.W.Fast.tw3013530137947688441 : Unit := ()
def PySem.W.Fast.tw3039902566438625479 : Unit := ()
def PySem.W.Fast.tw600233248820789364 : Unit := ()
def PySem.W.Fast.tw6468268694465227295 : Unit := ()
def PySem.W.Fast.tw7561579761692167629 : Unit := ()
def PySem.W.Fast.tw8395336735197228694 : Unit := ()
def PySem.W.Fast.tw9235959733283072335 : Unit := ()
def PySem.W.Fast.tw9255271380302122651 : Unit := ()
open PySem PySem.W PyProof.Rows
set_option maxRecDepth 100000 in
set_option maxHeartbeats 0 in
theorem PySem.Challenge.cw_leftnumbers_k55_whole_found_behind_deeds_holds : PySem.Challenge.rw_leftnumbers_k55_whole_found_behind_deeds.Holds := by
  w_on; o_law; k_head; (case hw => w_witness2)
  k_fill
  refine K55.walk (l := PySem.Challenge.rw_leftnumbers_k55_whole_found_behind_deeds) rfl rfl (fun w h Y => PySem.W.kIn_of Y) ?F
  case F =>
    intro w mg fa h KX G hmg
    refine' K55.all_mk KX G hmg ?a0 ?l0 ?c0 ?k0 ?a1 ?l1 ?c1 ?k1 ?a2 ?l2 ?c2 ?k2 ?a3 ?l3 ?c3 ?k3 ?a4 ?l4 ?c4 ?k4 ?a5 ?l5 ?c5 ?k5 ?ld5 ?a6 ?l6 ?c6 ?k6 ?a7 ?l7 ?c7 ?k7 ?a8 ?l8 ?c8 ?k8 ?a9 ?l9 ?c9 ?k9 ?a10 ?l10 ?c10 ?k10 ?a11 ?l11 ?c11 ?k11 ?a12 ?l12 ?c12 ?k12 ?a13 ?l13 ?c13 ?k13 ?a14 ?l14 ?c14 ?k14 ?a15 ?l15 ?c15 ?k15 ?a16 ?l16 ?c16 ?k16 ?a17 ?l17 ?c17 ?k17 ?a18 ?l18 ?c18 ?k18 ?a19 ?l19 ?c19 ?k19 ?a20 ?l20 ?c20 ?k20 ?a21 ?l21 ?c21 ?k21 ?a22 ?l22 ?c22 ?k22 ?a23 ?l23 ?c23 ?k23 ?a24 ?l24 ?c24 ?k24 ?a25 ?l25 ?c25 ?k25 ?a26 ?l26 ?c26 ?k26 ?a27 ?l27 ?c27 ?k27 ?a28 ?l28 ?c28 ?k28 ?a29 ?l29 ?c29 ?k29 ?a30 ?l30 ?c30 ?k30 ?a31 ?l31 ?c31 ?k31 ?a32 ?l32 ?c32 ?k32 ?a33 ?l33 ?c33 ?k33 ?a34 ?l34 ?c34 ?k34 ?a35 ?l35 ?c35 ?k35 ?a36 ?l36 ?c36 ?k36 ?a37 ?l37 ?c37 ?k37 ?a38 ?l38 ?c38 ?k38 ?a39 ?l39 ?c39 ?k39 ?a40 ?l40 ?c40 ?k40 ?a41 ?l41 ?c41 ?k41 ?a42 ?l42 ?c42 ?k42 ?a43 ?l43 ?c43 ?k43 ?a_PRIMES_ ?l_PRIMES ?v_PRIMES ?a_MOST_TIMES_ ?a_LeftError_ ?a_NoPrime_ ?a_NoFraction_ ?a_NoPlace_ ?a_NoFigures_ ?a_Unlike_ ?a_NoQuotient_ ?a_NoPower_ ?a_TooFew_ ?a_NoSize_ ?x_NoPrime ?x_NoPlace ?x_NoFigures ?x_Unlike ?x_NoQuotient ?x_NoPower ?x_NoFraction ?x_NoSize ?x_TooFew ?z_abs ?z_all ?z_bool ?z_int ?z_isinstance ?z_len ?z_list ?z_max ?z_min ?z_range ?z_reversed ?z_tuple
    (case a0 => k_is)
    (case l0 => k_is)
    (case c0 => k_is)
    (case k0 => k_is)
    (case a1 => k_is)
    (case l1 => k_is)
    (case c1 => k_is)
    (case k1 => k_is)
    (case a2 => k_is)
    (case l2 => k_is)
    (case c2 => k_is)
    (case k2 => k_is)
    (case a3 => k_is)
    (case l3 => k_is)
    (case c3 => k_is)
    (case k3 => k_is)
    (case a4 => k_is)
    (case l4 => k_is)
    (case c4 => k_is)
    (case k4 => k_is)
    (case a5 => k_is)
    (case l5 => k_is)
    (case c5 => k_is)
    (case k5 => k_is)
    (case ld5 => k_is)
    (case a6 => k_is)
    (case l6 => k_is)
    (case c6 => k_is)
    (case k6 => k_is)
    (case a7 => k_is)
    (case l7 => k_is)
    (case c7 => k_is)
    (case k7 => k_is)
    (case a8 => k_is)
    (case l8 => k_is)
    (case c8 => k_is)
    (case k8 => k_is)
    (case a9 => k_is)
    (case l9 => k_is)
    (case c9 => k_is)
    (case k9 => k_is)
    (case a10 => k_is)
    (case l10 => k_is)
    (case c10 => k_is)
    (case k10 => k_is)
    (case a11 => k_is)
    (case l11 => k_is)
    (case c11 => k_is)
    (case k11 => k_is)
    (case a12 => k_is)
    (case l12 => k_is)
    (case c12 => k_is)
    (case k12 => k_is)
    (case a13 => k_is)
    (case l13 => k_is)
    (case c13 => k_is)
    (case k13 => k_is)
    (case a14 => k_is)
    (case l14 => k_is)
    (case c14 => k_is)
    (case k14 => k_is)
    (case a15 => k_is)
    (case l15 => k_is)
    (case c15 => k_is)
    (case k15 => k_is)
    (case a16 => k_is)
    (case l16 => k_is)
    (case c16 => k_is)
    (case k16 => k_is)
    (case a17 => k_is)
    (case l17 => k_is)
    (case c17 => k_is)
    (case k17 => k_is)
    (case a18 => k_is)
    (case l18 => k_is)
    (case c18 => k_is)
    (case k18 => k_is)
    (case a19 => k_is)
    (case l19 => k_is)
    (case c19 => k_is)
    (case k19 => k_is)
    (case a20 => k_is)
    (case l20 => k_is)
    (case c20 => k_is)
    (case k20 => k_is)
    (case a21 => k_is)
    (case l21 => k_is)
    (case c21 => k_is)
    (case k21 => k_is)
    (case a22 => k_is)
    (case l22 => k_is)
    (case c22 => k_is)
    (case k22 => k_is)
    (case a23 => k_is)
    (case l23 => k_is)
    (case c23 => k_is)
    (case k23 => k_is)
    (case a24 => k_is)
    (case l24 => k_is)
    (case c24 => k_is)
    (case k24 => k_is)
    (case a25 => k_is)
    (case l25 => k_is)
    (case c25 => k_is)
    (case k25 => k_is)
    (case a26 => k_is)
    (case l26 => k_is)
    (case c26 => k_is)
    (case k26 => k_is)
    (case a27 => k_is)
    (case l27 => k_is)
    (case c27 => k_is)
    (case k27 => k_is)
    (case a28 => k_is)
    (case l28 => k_is)
    (case c28 => k_is)
    (case k28 => k_is)
    (case a29 => k_is)
    (case l29 => k_is)
    (case c29 => k_is)
    (case k29 => k_is)
    (case a30 => k_is)
    (case l30 => k_is)
    (case c30 => k_is)
    (case k30 => k_is)
    (case a31 => k_is)
    (case l31 => k_is)
    (case c31 => k_is)
    (case k31 => k_is)
    (case a32 => k_is)
    (case l32 => k_is)
    (case c32 => k_is)
    (case k32 => k_is)
    (case a33 => k_is)
    (case l33 => k_is)
    (case c33 => k_is)
    (case k33 => k_is)
    (case a34 => k_is)
    (case l34 => k_is)
    (case c34 => k_is)
    (case k34 => k_is)
    (case a35 => k_is)
    (case l35 => k_is)
    (case c35 => k_is)
    (case k35 => k_is)
    (case a36 => k_is)
    (case l36 => k_is)
    (case c36 => k_is)
    (case k36 => k_is)
    (case a37 => k_is)
    (case l37 => k_is)
    (case c37 => k_is)
    (case k37 => k_is)
    (case a38 => k_is)
    (case l38 => k_is)
    (case c38 => k_is)
    (case k38 => k_is)
    (case a39 => k_is)
    (case l39 => k_is)
    (case c39 => k_is)
    (case k39 => k_is)
    (case a40 => k_is)
    (case l40 => k_is)
    (case c40 => k_is)
    (case k40 => k_is)
    (case a41 => k_is)
    (case l41 => k_is)
    (case c41 => k_is)
    (case k41 => k_is)
    (case a42 => k_is)
    (case l42 => k_is)
    (case c42 => k_is)
    (case k42 => k_is)
    (case a43 => k_is)
    (case l43 => k_is)
    (case c43 => k_is)
    (case k43 => k_is)
    (case a_PRIMES_ => k_is)
    (case l_PRIMES => k_is)
    (case v_PRIMES => exact ⟨by decide, by repeat (first | exact .nil | refine .cons ⟨_, rfl⟩ ?_)⟩)
    (case a_MOST_TIMES_ => k_is)
    (case a_LeftError_ => k_is)
    (case a_NoPrime_ => k_is)
    (case a_NoFraction_ => k_is)
    (case a_NoPlace_ => k_is)
    (case a_NoFigures_ => k_is)
    (case a_Unlike_ => k_is)
    (case a_NoQuotient_ => k_is)
    (case a_NoPower_ => k_is)
    (case a_TooFew_ => k_is)
    (case a_NoSize_ => k_is)
    (case x_NoPrime => k_exc)
    (case x_NoPlace => k_exc)
    (case x_NoFigures => k_exc)
    (case x_Unlike => k_exc)
    (case x_NoQuotient => k_exc)
    (case x_NoPower => k_exc)
    (case x_NoFraction => k_exc)
    (case x_NoSize => k_exc)
    (case x_TooFew => k_exc)
    (case z_abs => k_is)
    (case z_all => k_is)
    (case z_bool => k_is)
    (case z_int => k_is)
    (case z_isinstance => k_is)
    (case z_len => k_is)
    (case z_list => k_is)
    (case z_max => k_is)
    (case z_min => k_is)
    (case z_range => k_is)
    (case z_reversed => k_is)
    (case z_tuple => k_is)
