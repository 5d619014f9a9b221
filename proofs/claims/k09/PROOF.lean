import PyProof.Rows.All
import Wide.All
import OpenK.AllK
import Wide.FinOn
import Lean
import PyProof.EqAt
import PyProof.EqKinds
import PyProof.TupleCall
import PySem.Challenge.RW_againbook_k09_calls_at_any_place
set_option Elab.async false
set_option linter.all false
set_option maxRecDepth 100000
/-! THE HAND LAYER, for ints, bools, texts, own classes, LISTS and tuples (index, slices, in, append, pop ..), calls, loops. Paste it whole ahead of your own text; what your proof does not reach may be deleted. -/
namespace L2
open PySem PySem.Spec PyProof.Rows

/-- a key: an int or a str -/
noncomputable abbrev Key := Sum Int Str
noncomputable def keyIs : Key → Value → Bool
  | .inl k, v => Value.isInt k v
  | .inr x, v => Value.isStrOf x v
noncomputable def keyH (w : World) : Key → Int
  | .inl k => hashInt k
  | .inr x => hashStr w x
theorem keyIs_shape : ∀ {k : Key} {v : Value}, keyIs k v = true → (∃ i t, k = Sum.inl i ∧ v = Value.int i t) ∨ (∃ x t, k = Sum.inr x ∧ v = Value.str x t)
  | .inl i, v, h => by
    obtain ⟨t, e⟩ := Value.isInt_shape (k := i) (v := v) h
    exact .inl ⟨i, t, rfl, e⟩
  | .inr x, v, h => by
    obtain ⟨t, e⟩ := Value.isStrOf_shape (x := x) (v := v) h
    exact .inr ⟨x, t, rfl, e⟩
theorem keyIs_int (i : Int) (t : Tok) : keyIs (.inl i) (.int i t) = true := by simp [keyIs, Value.isInt]
theorem keyIs_str (x : Str) (t : Tok) : keyIs (.inr x) (.str x t) = true := by simp [keyIs, Value.isStrOf]
theorem key_ll (a b : Int) : decide ((Sum.inl a : Key) = Sum.inl b) = (a == b) := by
  by_cases e : a = b
  · subst e; simp
  · have h : ¬ (Sum.inl a : Key) = Sum.inl b := fun q => e (Sum.inl.inj q)
    rw [decide_eq_false h]
    exact (beq_eq_false_iff_ne.mpr e).symm
theorem key_rr (a b : Str) : decide ((Sum.inr a : Key) = Sum.inr b) = decide (a = b) := by
  by_cases e : a = b
  · subst e; simp
  · have h : ¬ (Sum.inr a : Key) = Sum.inr b := fun q => e (Sum.inr.inj q)
    rw [decide_eq_false h, decide_eq_false e]
theorem key_lr (a : Int) (b : Str) : decide ((Sum.inl a : Key) = Sum.inr b) = false := decide_eq_false (fun q => nomatch q)
theorem key_rl (a : Str) (b : Int) : decide ((Sum.inr a : Key) = Sum.inl b) = false := decide_eq_false (fun q => nomatch q)

noncomputable def mixKind (prog : Program) (w : World) : PySem.KeyKind prog w Key where
  is := keyIs
  hash := keyH w
  inj := fun v a b ha hb => by
    rcases keyIs_shape ha with ⟨i, t, rfl, rfl⟩ | ⟨x, t, rfl, rfl⟩
    · rcases keyIs_shape hb with ⟨j, u, rfl, e⟩ | ⟨y, u, rfl, e⟩
      · injection e with e1 _; rw [e1]
      · exact nomatch e
    · rcases keyIs_shape hb with ⟨j, u, rfl, e⟩ | ⟨y, u, rfl, e⟩
      · exact nomatch e
      · injection e with e1 _; rw [e1]
  byValue := fun k v h => by
    rcases keyIs_shape h with ⟨i, t, rfl, rfl⟩ | ⟨x, t, rfl, rfl⟩ <;> rfl
  pyHash := fun hv h => by
    rcases keyIs_shape hv with ⟨i, t, rfl, rfl⟩ | ⟨x, t, rfl, rfl⟩
    · exact wpAny_pyHash_int h
    · exact wpAny_pyHash_str h
  eqBool := fun hu hv h => by
    rcases keyIs_shape hu with ⟨i, t, rfl, rfl⟩ | ⟨x, t, rfl, rfl⟩
    · rcases keyIs_shape hv with ⟨j, u, rfl, rfl⟩ | ⟨y, u, rfl, rfl⟩
      · rw [key_ll] at h; exact wpAny_eqBool_int h
      · rw [key_lr] at h; exact SeqAt.EqAt.int_str i t y u _ _ _ _ h
    · rcases keyIs_shape hv with ⟨j, u, rfl, rfl⟩ | ⟨y, u, rfl, rfl⟩
      · rw [key_rl] at h; exact SeqAt.EqAt.str_int x t j u _ _ _ _ h
      · rw [key_rr] at h; exact wpAny_eqBool_str h
  «strs» := fun k x t v h => by
    rcases keyIs_shape h with ⟨i, u, rfl, e⟩ | ⟨y, u, rfl, e⟩
    · exact nomatch e
    · injection e with e1 _
      subst e1
      cases v <;> rfl

theorem mixKind_int (prog : Program) (w : World) (i : Int) (t : Tok) : (mixKind prog w).is (.inl i) (.int i t) = true := keyIs_int i t
theorem mixKind_str (prog : Program) (w : World) (x : Str) (t : Tok) : (mixKind prog w).is (.inr x) (.str x t) = true := keyIs_str x t
end L2

namespace L2
open PySem PySem.Spec PyProof.Rows

/-- a value, without the heap -/
inductive V where
  | non | bl (b : Bool) | int (i : Int) | str (x : Str) | byt (b : Array UInt8) | flt (b : UInt64) | ref (a : Addr) | ty (n : String)
  deriving DecidableEq

noncomputable def RelV : V → Value → Prop
  | .non, u => u = Value.none
  | .bl b, u => u = Value.bool b
  | .int i, u => ∃ t, u = Value.int i t
  | .str x, u => ∃ t, u = Value.str x t
  | .byt b, u => ∃ t, u = Value.bytes b t
  | .flt b, u => ∃ t, u = Value.float b t
  | .ref a, u => u = Value.ref a
  | .ty n, u => u = Value.type n

noncomputable abbrev Vals : List V → List Value → Prop := Paired RelV
theorem Vals.length {xs : List V} {us : List Value} (r : Vals xs us) : xs.length = us.length := Paired.length r
theorem Vals.get : ∀ {xs : List V} {us : List Value} {i : Nat} {x : V}, Vals xs us → xs[i]? = some x → ∃ u, us[i]? = some u ∧ RelV x u
  | _, _, _, _, .nil, e => by simp at e
  | _, _, 0, _, .cons r _, e => by simp at e; subst e; exact ⟨_, rfl, r⟩
  | _, _, i + 1, x, .cons _ t, e => by
    obtain ⟨u, h1, h2⟩ := Vals.get (i := i) (x := x) t (by simpa using e)
    exact ⟨u, by simpa using h1, h2⟩
theorem Vals.set {x : V} {u : Value} (r : RelV x u) : ∀ {xs : List V} {us : List Value} (i : Nat), Vals xs us → Vals (xs.set i x) (us.set i u)
  | _, _, _, .nil => .nil
  | _, _, 0, .cons _ t => .cons r t
  | _, _, i + 1, .cons q t => .cons q (Vals.set r i t)
theorem Vals.append : ∀ {xs ys : List V} {us ws : List Value}, Vals xs us → Vals ys ws → Vals (xs ++ ys) (us ++ ws)
  | _, _, _, _, .nil, s => s
  | _, _, _, _, .cons r t, s => .cons r (Vals.append t s)
theorem Vals.take : ∀ {xs : List V} {us : List Value} (n : Nat), Vals xs us → Vals (xs.take n) (us.take n)
  | _, _, 0, _ => .nil
  | _, _, _ + 1, .nil => .nil
  | _, _, n + 1, .cons r t => .cons r (Vals.take n t)
theorem Vals.drop : ∀ {xs : List V} {us : List Value} (n : Nat), Vals xs us → Vals (xs.drop n) (us.drop n)
  | _, _, 0, r => r
  | _, _, _ + 1, .nil => .nil
  | _, _, n + 1, .cons _ t => Vals.drop n t

noncomputable def RelO : Option V → Option Value → Prop
  | some v, some u => RelV v u
  | none, none => True
  | _, _ => False
noncomputable def KV {κ : Type} : List (κ × V) → List (κ × Value) → Prop := Paired fun (p : κ × V) (q : κ × Value) => p.1 = q.1 ∧ RelV p.2 q.2

/-- a key of a dict (00_mix): an int or a text -/
noncomputable def kV : Key → V
  | .inl i => .int i
  | .inr x => .str x

/-- what stands at a tracked address -/
inductive HO where
  /-- a list -/
  | lst (xs : List V)
  /-- a tuple (never changes) -/
  | tup (xs : List V)
  /-- a dict whose keys are ints and texts; one whose keys are tuples of ints and texts (the empty one is both) -/
  | dK (kvs : List (Key × V)) | dT (kvs : List (List Key × V))
  /-- a set of ints: its members, its size -/
  | set (S : Int → Bool) (n : Nat)
  /-- an instance of the class at C, its dict at dx, its attributes -/
  | ins (C dx : Addr) (fs : List (Str × V))
  /-- the dict of the instance at x -/
  | own (x : Addr)
  /-- the dict of an exception -/
  | xd (fs : List (Str × V))
  /-- a bound method, f of x -/
  | met (f x : Addr)
  /-- a range object lo, lo + 1, .. below hi -/
  | rng (lo hi : Int)
  /-- a thing that is known to the object (the script; a dict while a loop walks it): read, never written while it is so -/
  | frz (o : Obj) (u : HO)
  /-- a code object's table -/
  | tbl (ps : Array Value)
  /-- any other thing, by what is true of its one object (a def of one's own: SetO a S n := HO.ext fun h => ..) -/
  | ext (φ : Heap → Prop)

noncomputable abbrev Hp := Addr → Option HO
noncomputable def upd (H : Hp) (a : Addr) (o : HO) : Hp := fun b => if b = a then some o else H b
theorem upd_same {H : Hp} {a : Addr} {o : HO} : upd H a o a = some o := by unfold upd; rw [if_pos rfl]
theorem upd_ne {H : Hp} {a b : Addr} {o : HO} (h : b ≠ a) : upd H a o b = H b := by unfold upd; rw [if_neg h]
/-- two objects of different content stand apart -/
theorem ne_of {H : Hp} {a b : Addr} {o u : HO} (h : H a = some o) (h' : H b = some u) (d : o ≠ u) : a ≠ b := by
  intro e; subst e; rw [h] at h'; exact d (Option.some.inj h')
theorem ne_of_none {H : Hp} {a b : Addr} {o : HO} (h : H a = some o) (h' : H b = none) : a ≠ b := by
  intro e; subst e; rw [h] at h'; cases h'

section
variable (P : Program) (w : World)
noncomputable def ObjOk (H : Hp) (h : Heap) (a : Addr) : HO → Prop
  | .lst xs => xs.length ≤ sizeLine ∧ ∃ (its : List Value) (n : Nat), Vals xs its ∧ h.get? a = some { cls := .type "list", data := .seq its.toArray n }
  | .tup xs => xs.length ≤ sizeLine ∧ ∃ its : List Value, Vals xs its ∧ IsTup h a its.toArray
  | .dK kvs => kvs.length ≤ sizeLine ∧ (a == sysModules) = false ∧ ∃ vs, KV kvs vs ∧ h.DictOf (mixKind P w) a vs
  | .dT kvs => kvs.length ≤ sizeLine ∧ (a == sysModules) = false ∧ ∃ xs : List (List Key × Addr × Value),
      Paired (fun (p : List Key × V) (q : List Key × Addr × Value) => p.1 = q.1 ∧ H q.2.1 = some (.tup (p.1.map kV)) ∧ RelV p.2 q.2.2) kvs xs ∧
      ∃ o es ep, h.get? a = some o ∧ o.ExactDict ∧ o.data = .dict es ep ∧ es.toList = xs.map (entryOfKey (tupleKind (mixKind P w))) ∧ (xs.map (·.1)).Nodup
  | .set S n => h.SetOf (intKind P w) a S n
  | .ins C dx fs => H dx = some (.own a) ∧ fs.length ≤ 1000 ∧ dx ≠ a ∧ h.get? a = some (PySem.W.instObj C dx) ∧
      ∃ mA, h.Ns1 dx mA ∧ (∀ f, RelO (fs.lookup f) (mA f)) ∧ PySem.Within mA (fs.map (·.1))
  | .own _ => ∃ o, h.get? a = some o
  | .xd fs => ∃ mA, h.Ns1 a mA ∧ ∀ f, RelO (fs.lookup f) (mA f)
  | .rng lo hi => ∃ t u v, h.get? a = some { cls := .type "range", data := .fields #[.int lo t, .int hi u, .int 1 v] }
  | .frz o u => h.get? a = some o ∧ ObjOk H h a u
  | .tbl ps => h.get? a = some { cls := .none, data := .fields ps }
  | .met f x => h.get? a = some (PySem.W.methodObj (.ref f) (.ref x))
  | .ext φ => φ h ∧ (∃ o, h.get? a = some o) ∧ ∀ h1 h2 : Heap, φ h1 → (∀ o, h1.get? a = some o → h2.get? a = some o) → φ h2
/-- the abstract heap is held -/
noncomputable def HOk (H : Hp) (h : Heap) : Prop := ∀ a o, H a = some o → ObjOk P w H h a o
end

section
variable {P : Program} {w : World} {H H' : Hp} {h h' : Heap} {a : Addr} {o : HO}
theorem ObjOk.lt (x : ObjOk P w H h a o) : a < h.objs.size := by
  cases o with
  | lst xs => obtain ⟨_, _, _, _, e⟩ := x; exact Heap.lt_size e
  | tup xs => obtain ⟨_, _, _, p⟩ := x; exact p.lt
  | dK kvs => obtain ⟨_, _, _, _, o, _, _, e, _⟩ := x; exact Heap.lt_size e
  | dT kvs => obtain ⟨_, _, _, _, o, _, _, e, _⟩ := x; exact Heap.lt_size e
  | set S n => obtain ⟨o, _, _, _, e, _⟩ := x; exact Heap.lt_size e
  | ins C dx fs => obtain ⟨_, _, _, e, _⟩ := x; exact Heap.lt_size e
  | own y => obtain ⟨_, e⟩ := x; exact Heap.lt_size e
  | xd fs => obtain ⟨_, ⟨_, _, _, e, _⟩, _⟩ := x; exact Heap.lt_size e
  | rng lo hi => obtain ⟨_, _, _, e⟩ := x; exact Heap.lt_size e
  | frz ob u => obtain ⟨e, _⟩ := x; exact Heap.lt_size e
  | tbl ps => exact Heap.lt_size (show h.get? a = some _ from x)
  | met f y => exact Heap.lt_size (show h.get? a = some _ from x)
  | ext φ => obtain ⟨_, ⟨_, e⟩, _⟩ := x; exact Heap.lt_size e
theorem Paired.mapP {α β : Type} {F G : α → β → Prop} : ∀ {l₁ : List α} {l₂ : List β}, Paired F l₁ l₂ → (∀ a b, F a b → G a b) → Paired G l₁ l₂
  | _, _, .nil, _ => .nil
  | _, _, .cons r t, f => .cons (f _ _ r) (Paired.mapP t f)
/-- what an object's description leans on: its own object, its own dict, the tuples -/
theorem ObjOk.stay (x : ObjOk P w H h a o) (k : ∀ b u, (b = a ∨ H b = some (.own a)) → h.get? b = some u → h'.get? b = some u)
    (ho : ∀ b, H b = some (.own a) → H' b = some (.own a)) (ht : ∀ b xs, H b = some (.tup xs) → H' b = some (.tup xs)) : ObjOk P w H' h' a o := by
  induction o with
  | lst xs => obtain ⟨z, its, n, r, e⟩ := x; exact ⟨z, its, n, r, k _ _ (.inl rfl) e⟩
  | tup xs => obtain ⟨z, its, r, ob, e, c⟩ := x; exact ⟨z, its, r, ob, k _ _ (.inl rfl) e, c⟩
  | dK kvs => obtain ⟨z, y, vs, r, ob, es, ep, e, c⟩ := x; exact ⟨z, y, vs, r, ob, es, ep, k _ _ (.inl rfl) e, c⟩
  | dT kvs =>
    obtain ⟨z, y, xs, r, ob, es, ep, e, c⟩ := x
    exact ⟨z, y, xs, Paired.mapP r fun p q z => ⟨z.1, ht _ _ z.2.1, z.2.2⟩, ob, es, ep, k _ _ (.inl rfl) e, c⟩
  | set S n => obtain ⟨ob, es, ep, t, e, c⟩ := x; exact ⟨ob, es, ep, t, k _ _ (.inl rfl) e, c⟩
  | ins C dx fs =>
    obtain ⟨d, z, ne, e, mA, ⟨od, es, ep, e2, c⟩, r⟩ := x
    exact ⟨ho _ d, z, ne, k _ _ (.inl rfl) e, mA, ⟨od, es, ep, k _ _ (.inr d) e2, c⟩, r⟩
  | own y => obtain ⟨ob, e⟩ := x; exact ⟨ob, k _ _ (.inl rfl) e⟩
  | xd fs => obtain ⟨mA, ⟨od, es, ep, e, c⟩, r⟩ := x; exact ⟨mA, ⟨od, es, ep, k _ _ (.inl rfl) e, c⟩, r⟩
  | rng lo hi => obtain ⟨t, u, v, e⟩ := x; exact ⟨t, u, v, k _ _ (.inl rfl) e⟩
  | frz ob u ih => obtain ⟨e, q⟩ := x; exact ⟨k _ _ (.inl rfl) e, ih q⟩
  | tbl ps =>
    have e : h.get? a = some { cls := .none, data := .fields ps } := x
    show h'.get? a = some { cls := .none, data := .fields ps }
    exact k a _ (.inl rfl) e
  | met f y =>
    have e : h.get? a = some (PySem.W.methodObj (.ref f) (.ref y)) := x
    show h'.get? a = some (PySem.W.methodObj (.ref f) (.ref y))
    exact k a _ (.inl rfl) e
  | ext φ => obtain ⟨p, ⟨o, e⟩, st⟩ := x; exact ⟨st _ _ p fun o q => k _ _ (.inl rfl) q, ⟨o, k _ _ (.inl rfl) e⟩, st⟩
theorem HOk.lt (x : HOk P w H h) (e : H a = some o) : a < h.objs.size := (x a o e).lt
theorem HOk.fresh (x : HOk P w H h) (e : h.objs.size ≤ a) : H a = none := by
  cases q : H a with
  | none => rfl
  | some u => exact absurd (Nat.lt_of_lt_of_le (x.lt q) e) (Nat.lt_irrefl _)
/-- every object of the heap is kept -/
theorem HOk.kept (x : HOk P w H h) (k : ∀ b u, h.get? b = some u → h'.get? b = some u) : HOk P w H h' := fun a o e =>
  (x a o e).stay (fun b u _ q => k b u q) (fun _ q => q) fun _ _ q => q
/-- a new object is laid and tracked -/
theorem HOk.laid (x : HOk P w H h) (k : ∀ b u, h.get? b = some u → h'.get? b = some u) (hp : h.objs.size ≤ a) (new : ObjOk P w (upd H a o) h' a o) : HOk P w (upd H a o) h' := fun b u e => by
  have hn := x.fresh hp
  by_cases hb : b = a
  · subst hb; rw [upd_same] at e; cases e; exact new
  · rw [upd_ne hb] at e
    exact (x b u e).stay (fun c v _ q => k c v q) (fun c q => by rw [upd_ne (ne_of_none q hn)]; exact q) fun c xs q => by rw [upd_ne (ne_of_none q hn)]; exact q
end

/-- what may be read as u: it is u, or a known u -/
noncomputable def Rd (H : Hp) (a : Addr) (u : HO) : Prop := H a = some u ∨ ∃ o, H a = some (.frz o u)
theorem Rd.ok {P : Program} {w : World} {H : Hp} {h : Heap} {a : Addr} {u : HO} (r : Rd H a u) (x : HOk P w H h) : ObjOk P w H h a u := by
  rcases r with r | ⟨o, r⟩
  · exact x a u r
  · obtain ⟨_, q⟩ := x a _ r
    exact q
/-- what may be written -/
noncomputable def Mut : Option HO → Prop
  | some (.lst _) => True
  | some (.dK _) => True
  | some (.dT _) => True
  | some (.set _ _) => True
  | some (.ins _ _ _) => True
  | some (.ext _) => True
  | _ => False
section
variable {P : Program} {w : World} {H : Hp} {h h' : Heap} {x e : Addr} {o' : HO}
/-- the object at e is changed: x itself, or the dict of the instance x -/
theorem HOk.write (ok : HOk P w H h) (mu : Mut (H x)) (he : e = x ∨ H e = some (.own x)) (k : ∀ b u, b ≠ e → h.get? b = some u → h'.get? b = some u) (heo : ∃ u, h'.get? e = some u)
    (new : ObjOk P w (upd H x o') h' x o') : HOk P w (upd H x o') h' := fun b u q => by
  have nown : ∀ c y, H c = some (.own y) → c ≠ x := fun c y r z => by subst z; rw [r] at mu; exact mu
  have ntup : ∀ c xs, H c = some (.tup xs) → c ≠ x := fun c xs r z => by subst z; rw [r] at mu; exact mu
  by_cases hb : b = x
  · subst hb; rw [upd_same] at q; cases q; exact new
  · rw [upd_ne hb] at q
    by_cases hbe : b = e
    · have q' : H b = some (.own x) := by
        rcases he with z | z
        · exact absurd (hbe.trans z) hb
        · rw [hbe]; exact z
      rw [q] at q'; cases q'
      obtain ⟨v, hv⟩ := heo
      exact ⟨v, by rw [hbe]; exact hv⟩
    · refine (ok b u q).stay (fun c v hc r => k c v ?_ r) (fun c r => by rw [upd_ne (nown c b r)]; exact r) fun c xs r => by rw [upd_ne (ntup c xs r)]; exact r
      rcases hc with rfl | hc
      · exact hbe
      · rintro rfl
        rcases he with z | z
        · exact nown c b hc z
        · rw [hc] at z; cases z; exact hb rfl
end

/-! ### kept unless tracked; of the frames at fs (the callers') the slots may change (an exception that passes writes there); of the records at ex (iterators) nothing is said -/
structure Un (fs ex : List Addr) (H H' : Hp) (h h' : Heap) : Prop where
  keep : ∀ b o, h.get? b = some o → H b = none → b ∉ fs → b ∉ ex → h'.get? b = some o
  slot : ∀ b o, h.get? b = some o → H b = none → b ∈ fs → b ∉ ex → ∃ sl, h'.get? b = some { o with slots := sl }
  free : ∀ b o, h.get? b = some o → H b = none → b ∉ ex → H' b = none
  there : ∀ b o, h.get? b = some o → b ∉ ex → ∃ o', h'.get? b = some o'
  tups : ∀ b xs, H b = some (.tup xs) → H' b = some (.tup xs)
  frzs : ∀ b o u, H b = some (.frz o u) → H' b = some (.frz o u)
  tbls : ∀ b ps, H b = some (.tbl ps) → ∃ more, H' b = some (.tbl (ps ++ more))
section
variable {fs fs' ex ex' : List Addr} {H H1 H2 : Hp} {h h1 h2 h' : Heap} {a x e : Addr} {o : HO}
theorem Un.any (u : Un fs ex H H1 h h1) {b : Addr} {ob : Obj} (q : h.get? b = some ob) (n : H b = none) (hx : b ∉ ex) : ∃ sl, h1.get? b = some { ob with slots := sl } := by
  by_cases hb : b ∈ fs
  · exact u.slot b ob q n hb hx
  · exact ⟨ob.slots, u.keep b ob q n hb hx⟩
theorem Un.kept (k : ∀ b u, h.get? b = some u → h'.get? b = some u) : Un fs ex H H h h' :=
  ⟨fun b ob q _ _ _ => k b ob q, fun b ob q _ _ _ => ⟨ob.slots, k b ob q⟩, fun _ _ _ n _ => n, fun b ob q _ => ⟨ob, k b ob q⟩, fun _ _ q => q, fun _ _ _ q => q, fun _ ps q => ⟨#[], by rw [q]; simp⟩⟩
theorem Un.refl : Un fs ex H H h h := Un.kept fun _ _ q => q
theorem Un.laid (k : ∀ b u, h.get? b = some u → h'.get? b = some u) (hp : h.objs.size ≤ a) (hn : H a = none) : Un fs ex H (upd H a o) h h' where
  keep := fun b u q _ _ _ => k b u q
  slot := fun b u q _ _ _ => ⟨u.slots, k b u q⟩
  free := fun b u q n _ => by rw [upd_ne (Nat.ne_of_lt (Nat.lt_of_lt_of_le (Heap.lt_size q) hp))]; exact n
  there := fun b u q _ => ⟨u, k b u q⟩
  tups := fun b xs q => by rw [upd_ne (ne_of_none q hn)]; exact q
  frzs := fun b u xs q => by rw [upd_ne (ne_of_none q hn)]; exact q
  tbls := fun b ps q => ⟨#[], by rw [upd_ne (ne_of_none q hn), q]; simp⟩
theorem Un.write (mu : Mut (H x)) (he : e = x ∨ H e = some (.own x)) (k : ∀ b u, b ≠ e → h.get? b = some u → h'.get? b = some u) (heo : ∃ u, h'.get? e = some u) : Un fs ex H (upd H x o) h h' := by
  have hx : ∀ b, H b = none → b ≠ x := fun b n z => by subst z; rw [n] at mu; exact mu
  have hb : ∀ b, H b = none → b ≠ e := fun b n z => by
    subst z
    rcases he with r | r
    · exact hx b n r
    · rw [n] at r; cases r
  have hm : ∀ b u, H b = some u → ¬ Mut (some u) → b ≠ x := fun b u q nm z => by subst z; rw [q] at mu; exact nm mu
  refine ⟨fun b u q n _ _ => k b u (hb b n) q, fun b u q n _ _ => ⟨u.slots, k b u (hb b n) q⟩, fun b u q n _ => by rw [upd_ne (hx b n)]; exact n, fun b u q _ => ?_,
    fun b xs q => by rw [upd_ne (hm b _ q fun z => z)]; exact q, fun b u xs q => by rw [upd_ne (hm b _ q fun z => z)]; exact q, fun b ps q => ⟨#[], by rw [upd_ne (hm b _ q fun z => z), q]; simp⟩⟩
  by_cases hbe : b = e
  · subst hbe; exact heo
  · exact ⟨u, k b u hbe q⟩
end

/-! ### the heap without what is tracked -/
noncomputable def trk (h : Heap) (H : Hp) : List Addr := (List.range h.objs.size).filter fun a => (H a).isSome
noncomputable def hidT (h : Heap) (H : Hp) : Heap := PySem.W.hideAll h (trk h H)
theorem hidT_size (h : Heap) (H : Hp) : (hidT h H).objs.size = h.objs.size := PySem.W.hideAll_size _ _
theorem hidT_get {h : Heap} {H : Hp} {b : Addr} {o : Obj} (e : h.get? b = some o) (n : H b = none) : (hidT h H).get? b = some o :=
  PySem.W.hideAll_get _ e fun hm => by
    have q : (H b).isSome = true := (List.mem_filter.mp hm).2
    rw [n] at q; simp at q
theorem of_hidT {h : Heap} {H : Hp} {b : Addr} {o : Obj} (e : (hidT h H).get? b = some o) : h.get? b = some o ∧ H b = none := by
  have e' : h.get? b = some o := PySem.W.of_hideAll (trk h H) e
  refine ⟨e', ?_⟩
  cases q : H b with
  | none => rfl
  | some x =>
    have hm : b ∈ trk h H := List.mem_filter.mpr ⟨List.mem_range.mpr (Heap.lt_size e'), by simp [q]⟩
    have z : (hidT h H).get? b = none := PySem.W.hideAll_none (trk h H) hm
    rw [z] at e; cases e

/-! ### OpenK's ledger, filled with every new object but one -/
noncomputable def allNews (g h : Heap) (L : Addr) : List (Addr × Obj) := (List.range h.objs.size).filterMap fun a => if a = L ∨ (g.get? a).isSome = true then none else (h.get? a).map fun o => (a, o)
noncomputable def rest (g h : Heap) (L d : Addr) : List (Addr × Obj) := (allNews g h L).filter fun p => decide (p.1 ≠ d)
end L2

namespace L2
open PySem PySem.Spec PyProof.Rows

/-- the module's facts, over the base: the heap at the law's entry without what is tracked there -/
structure Mod (K : PySem.W.Frag) (mg : Str → Option Value) (base : Heap) : Prop where
  kin : K.In base
  glob : base.Ns mainGlobals mg
  blt : ∃ mb, base.Ns builtinsNs mb ∧ ∀ x : Str, x ≠ "__name__" → mb x = bootBuiltins x
  nolimit : base.NoLimit

/-- the context: a def's body (or a comprehension's block) running. base: fixed through the whole law; s₀, H₀: the entry; outer: the frames whose slots others may change (a def's callers); stack: all frames that run;
   ex: iterators that were made ahead of the entry and are walked here (a comprehension's); fn: the names whose cells were made at the entry (a def: all; a comprehension's block: its own); calm: not within an except suite; pn: pins that every state bears; xe: what is wanted of an exception that leaves the code -/
structure Cx where
  prog : Program
  w : World
  K : PySem.W.Frag
  mg : Str → Option Value
  base : Heap
  A : Around
  N : List Str
  s₀ : Shared
  H₀ : Hp
  env : Env
  outer : List Env
  stack : List Env
  ex : List Addr
  fn : Str → Bool
  calm : Bool
  pn : List (Addr × Obj)
  xe : Value → Shared → Prop
/-- the callers' frames -/
noncomputable def frs (l : List Env) : List Addr := l.filterMap (·.frame)
noncomputable abbrev Cx.fs (X : Cx) : List Addr := frs X.outer

noncomputable def Vis (sc : Scope) (x : Str) : Prop := sc.names.lookup x = some .local ∨ sc.names.lookup x = some .cell ∨ sc.names.lookup x = some .free
noncomputable def Loc (sc : Scope) (x : Str) : Prop := sc.names.lookup x = some .local ∨ sc.names.lookup x = some .cell
noncomputable def Look (env : Env) (h : Heap) (m : Str → Option Value) (x : Str) (u : Value) : Prop :=
  (env.kindOf x = some .local ∧ m x = some u) ∨ ((env.kindOf x = some .cell ∨ env.kindOf x = some .free) ∧ ∃ c, env.cells.lookup x = some c ∧ h.IsCell c (some u))

structure Cx.Ok (X : Cx) : Prop where
  mod : Mod X.K X.mg X.base
  kind : X.env.scope.kind = .function
  glob : X.env.globals = mainGlobals
  blt : X.env.builtins = builtinsNs
  above : X.s₀.heap.objs.size ≤ X.env.locals
  inj : ∀ x y c, X.env.cells.lookup x = some c → X.env.cells.lookup y = some c → x = y
  has : ∀ x, (X.env.kindOf x = some .cell ∨ X.env.kindOf x = some .free) → ∃ c, X.env.cells.lookup x = some c
  cab : ∀ x c, X.fn x = true → X.env.cells.lookup x = some c → X.s₀.heap.objs.size ≤ c
  hd : X.calm = true → X.A.handled = none
  frames : X.A.frames = some X.stack
  stk : X.stack = X.outer ∨ (X.stack = X.env :: X.outer ∧ X.env.frame = some X.env.locals)
  exf : ∀ b ∈ X.ex, b ≠ X.env.locals ∧ ∀ x c, X.env.cells.lookup x = some c → c ≠ b
  bs : ∀ b o, X.base.get? b = some o → X.s₀.heap.get? b = some o ∧ X.H₀ b = none
  bsz : X.base.objs.size ≤ X.s₀.heap.objs.size
  noex : ∀ b o, X.base.get? b = some o → b ∉ X.ex
  exfs : ∀ b ∈ X.ex, b ∉ X.fs
  funs : X.s₀.heap.FunFrames X.base X.outer
  frf : ∀ b ∈ X.fs, X.H₀ b = none

structure Inv (X : Cx) (pins : List (Addr × Obj)) (σ : List (Option V)) (H : Hp) (s : Shared) : Prop where
  ok : X.Ok
  os : s.os = X.s₀.os
  bare : AllBare s.gens
  base : Un X.fs X.ex X.H₀ H X.s₀.heap s.heap
  loc : ∃ m, s.heap.Ns X.env.locals m ∧ ∀ (i : Nat) (x : Str) (v : V), X.N[i]? = some x → σ[i]? = some (some v) → Vis X.env.scope x → ∃ u, RelV v u ∧ Look X.env s.heap m x u
  cell : ∀ x c, X.env.cells.lookup x = some c → ∃ v, s.heap.IsCell c v
  free : H X.env.locals = none
  freeC : ∀ x c, X.env.cells.lookup x = some c → H c = none
  pin : ∀ p ∈ X.pn ++ pins, s.heap.get? p.1 = some p.2 ∧ H p.1 = none ∧ p.1 ≠ X.env.locals ∧ p.1 ∉ X.fs ∧ ∀ v, p.2.data ≠ .cell v
  hok : HOk X.prog X.w H s.heap
  len : σ.length = X.N.length

section
variable {X : Cx} {pins : List (Addr × Obj)} {σ : List (Option V)} {H H' : Hp} {s : Shared} {h' : Heap}

theorem Cx.Ok.nofr (ok : X.Ok) {b : Addr} {o : Obj} (e : X.base.get? b = some o) : b ∉ X.fs := fun hb => by
  have := (ok.funs.mem hb).1
  rw [e] at this; cases this
theorem Inv.bs (I : Inv X pins σ H s) : ∀ b o, X.base.get? b = some o → s.heap.get? b = some o ∧ H b = none := fun b o e =>
  ⟨I.base.keep b o (I.ok.bs b o e).1 (I.ok.bs b o e).2 (I.ok.nofr e) (I.ok.noex b o e), I.base.free b o (I.ok.bs b o e).1 (I.ok.bs b o e).2 (I.ok.noex b o e)⟩
theorem Inv.bk (I : Inv X pins σ H s) : ∀ b o, X.base.get? b = some o → s.heap.get? b = some o := fun b o e => (I.bs b o e).1
theorem Inv.mod (I : Inv X pins σ H s) : Mod X.K X.mg X.base := I.ok.mod
theorem Inv.kIn (I : Inv X pins σ H s) : X.K.In s.heap := I.ok.mod.kin.keeps I.bk
theorem Inv.lt (I : Inv X pins σ H s) : X.env.locals < s.heap.objs.size := let ⟨_, hn, _⟩ := I.loc; hn.lt
theorem Inv.sz (I : Inv X pins σ H s) : X.s₀.heap.objs.size ≤ s.heap.objs.size := Nat.le_trans I.ok.above (Nat.le_of_lt I.lt)
theorem Inv.nofs (I : Inv X pins σ H s) {a : Addr} (h : s.heap.objs.size ≤ a) : a ∉ X.fs := fun hb => by
  obtain ⟨_, o, ho, _⟩ := I.ok.funs.mem hb
  exact absurd (Nat.lt_of_lt_of_le (Heap.lt_size ho) (Nat.le_trans I.sz h)) (Nat.lt_irrefl _)
theorem Inv.cne (I : Inv X pins σ H s) : ∀ x c, X.env.cells.lookup x = some c → c ≠ X.env.locals := fun x c e z => by
  obtain ⟨v, o, ho, hd⟩ := I.cell x c e
  obtain ⟨m, ⟨o', es, ep, ho', hd', _⟩, _⟩ := I.loc
  rw [z, ho'] at ho; cases ho; rw [hd'] at hd; cases hd
theorem Inv.funs (I : Inv X pins σ H s) : s.heap.FunFrames X.base X.outer := by
  have all : ∀ (l : List Env), (∀ b ∈ frs l, b ∈ X.fs) → X.s₀.heap.FunFrames X.base l → s.heap.FunFrames X.base l := by
    intro l
    induction l with
    | nil => intro _ _; trivial
    | cons env r ih =>
      intro hs hl
      obtain ⟨hk, ⟨L, o, hf, hn, ho, hd⟩, hr⟩ := hl
      have hL : L ∈ X.fs := hs L (by unfold frs; rw [List.filterMap_cons, hf]; exact List.mem_cons_self)
      obtain ⟨sl, e⟩ := I.base.slot L o ho (I.ok.frf L hL) hL fun z => I.ok.exfs L z hL
      exact ⟨hk, ⟨L, _, hf, hn, e, hd⟩, ih (fun b hb => hs b (by unfold frs; rw [List.filterMap_cons, hf]; exact List.mem_cons_of_mem _ hb)) hr⟩
  exact all X.outer (fun _ hb => hb) I.ok.funs

/-- the frames that run, for a call -/
theorem Inv.stack (I : Inv X pins σ H s) : s.heap.FunFrames X.base X.stack := by
  rcases I.ok.stk with e | ⟨e, hf⟩
  · rw [e]; exact I.funs
  · rw [e]
    obtain ⟨m, hn, _⟩ := I.loc
    refine .cons (by rw [I.ok.kind]; decide) hf hn ?_ I.funs
    exact Heap.get?_none_of_le (Nat.le_trans I.ok.bsz I.ok.above)
theorem Inv.stkSub (I : Inv X pins σ H s) : ∀ b ∈ frs X.stack, b ∈ X.env.locals :: X.fs := fun b hb => by
  rcases I.ok.stk with e | ⟨e, hf⟩
  · rw [e] at hb; exact List.mem_cons_of_mem _ hb
  · rw [e] at hb
    unfold frs at hb
    rw [List.filterMap_cons, hf] at hb
    exact hb
theorem Inv.stkFree (I : Inv X pins σ H s) : ∀ b ∈ frs X.stack, H b = none := fun b hb => by
  rcases List.mem_cons.mp (I.stkSub b hb) with e | hb
  · rw [e]; exact I.free
  · obtain ⟨_, o, ho, _⟩ := I.ok.funs.mem hb
    exact I.base.free b o ho (I.ok.frf b hb) fun z => I.ok.exfs b z hb

/-- THE STEP: the untracked objects but the frame and the records at ch are kept (the callers' frames up to slots), the frame's map is kept, the new abstract heap is held -/
theorem Inv.step {g' : Array GenState} {t' : Nat} {d' : Drawn} {ch : List Addr} (I : Inv X pins σ H s)
    (hch : ∀ b ∈ ch, (b ∈ X.ex ∨ X.s₀.heap.objs.size ≤ b) ∧ b ≠ X.env.locals ∧ (∀ x c, X.env.cells.lookup x = some c → c ≠ b) ∧ ∀ p ∈ X.pn ++ pins, p.1 ≠ b)
    (keep : ∀ b o, b ≠ X.env.locals → b ∉ X.fs → b ∉ ch → s.heap.get? b = some o → H b = none → h'.get? b = some o)
    (slot : ∀ b o, b ≠ X.env.locals → b ∈ X.fs → b ∉ ch → s.heap.get? b = some o → H b = none → ∃ sl, h'.get? b = some { o with slots := sl }) (free : ∀ b o, b ∉ ch → s.heap.get? b = some o → H b = none → H' b = none)
    (there : ∀ b o, b ∉ ch → s.heap.get? b = some o → ∃ o', h'.get? b = some o')
    (tups : ∀ b xs, H b = some (.tup xs) → H' b = some (.tup xs)) (frzs : ∀ b o u, H b = some (.frz o u) → H' b = some (.frz o u)) (tbls : ∀ b ps, H b = some (.tbl ps) → ∃ more, H' b = some (.tbl (ps ++ more)))
    (ns : ∀ m, s.heap.Ns X.env.locals m → h'.Ns X.env.locals m) (hok : HOk X.prog X.w H' h') (hg : AllBare g') :
    Inv X pins σ H' { s with heap := h', gens := g', drawn := d', toks := t' } := by
  have neL : ∀ b o, X.s₀.heap.get? b = some o → b ≠ X.env.locals := fun b o e => Nat.ne_of_lt (Nat.lt_of_lt_of_le (Heap.lt_size e) I.ok.above)
  have neC : ∀ b o, X.s₀.heap.get? b = some o → b ∉ X.ex → b ∉ ch := fun b o e hx hb => by
    rcases (hch b hb).1 with z | z
    · exact hx z
    · exact absurd (Nat.lt_of_lt_of_le (Heap.lt_size e) z) (Nat.lt_irrefl _)
  have cellK : ∀ x c, X.env.cells.lookup x = some c → ∀ v, s.heap.IsCell c v → h'.IsCell c v := fun x c e v ⟨o, ho, hd⟩ => by
    have nch : c ∉ ch := fun z => (hch c z).2.2.1 x c e rfl
    by_cases hc : c ∈ X.fs
    · obtain ⟨sl, q⟩ := slot c o (I.cne x c e) hc nch ho (I.freeC x c e)
      exact ⟨_, q, hd⟩
    · exact ⟨o, keep c o (I.cne x c e) hc nch ho (I.freeC x c e), hd⟩
  refine ⟨I.ok, I.os, hg, ⟨fun b o e n hb hx => ?_, fun b o e n hb hx => ?_, fun b o e n hx => ?_, fun b o e hx => ?_, fun b xs e => tups b xs (I.base.tups b xs e), fun b o xs e => frzs b o xs (I.base.frzs b o xs e), fun b ps e => ?_⟩, ?_, fun x c e => ?_, ?_, fun x c e => ?_, fun p hp => ?_, hok, I.len⟩
  · exact keep b o (neL b o e) hb (neC b o e hx) (I.base.keep b o e n hb hx) (I.base.free b o e n hx)
  · obtain ⟨sl, e1⟩ := I.base.slot b o e n hb hx
    obtain ⟨sl', e2⟩ := slot b _ (neL b o e) hb (neC b o e hx) e1 (I.base.free b o e n hx)
    exact ⟨sl', e2⟩
  · obtain ⟨o', e1⟩ := I.base.there b o e hx
    exact free b o' (neC b o e hx) e1 (I.base.free b o e n hx)
  · obtain ⟨o', e1⟩ := I.base.there b o e hx
    exact there b o' (neC b o e hx) e1
  · obtain ⟨m1, e1⟩ := I.base.tbls b ps e
    obtain ⟨m2, e2⟩ := tbls b _ e1
    exact ⟨m1 ++ m2, by rw [e2, Array.append_assoc]⟩
  · obtain ⟨m, hn, hl⟩ := I.loc
    refine ⟨m, ns m hn, fun i x v e1 e2 e3 => ?_⟩
    obtain ⟨u, r, l⟩ := hl i x v e1 e2 e3
    refine ⟨u, r, ?_⟩
    rcases l with l | ⟨k, c, e, z⟩
    · exact .inl l
    · exact .inr ⟨k, c, e, cellK x c e _ z⟩
  · obtain ⟨v, z⟩ := I.cell x c e
    exact ⟨v, cellK x c e v z⟩
  · obtain ⟨m, ⟨o, _, _, ho, _⟩, _⟩ := I.loc
    exact free _ o (fun z => (hch _ z).2.1 rfl) ho I.free
  · obtain ⟨v, o, ho, hd⟩ := I.cell x c e
    exact free c o (fun z => (hch c z).2.2.1 x c e rfl) ho (I.freeC x c e)
  · obtain ⟨e, n, ne, nf, d⟩ := I.pin p hp
    have nch : p.1 ∉ ch := fun z => (hch p.1 z).2.2.2 p hp rfl
    exact ⟨keep p.1 p.2 ne nf nch e n, free p.1 p.2 nch e n, ne, nf, d⟩
/-- .. where the frame's own object is kept too -/
theorem Inv.un {t' : Nat} (I : Inv X pins σ H s) (u : Un X.fs [] H H' s.heap h') (hok : HOk X.prog X.w H' h') : Inv X pins σ H' { s with heap := h', toks := t' } := by
  obtain ⟨m, ⟨o, es, ep, ho, r⟩, _⟩ := id I.loc
  obtain ⟨sl, hL⟩ := u.any ho I.free (by simp)
  exact I.step (g' := s.gens) (d' := s.drawn) (ch := []) (fun _ z => nomatch z) (fun b o _ hb _ e n => u.keep b o e n hb (by simp)) (fun b o _ hb _ e n => u.slot b o e n hb (by simp)) (fun b o _ e n => u.free b o e n (by simp)) (fun b o _ e => u.there b o e (by simp)) u.tups u.frzs u.tbls (fun m' hm => by
    obtain ⟨o', es', ep', ho', r'⟩ := hm
    rw [ho] at ho'; cases ho'
    exact ⟨_, es', ep', hL, r'⟩) hok I.bare
/-- behind a call (or a comprehension's block): the slots of this frame may have changed too, the records at ch may have turned -/
theorem Inv.call {g' : Array GenState} {t' : Nat} {d' : Drawn} {ch : List Addr} (I : Inv X pins σ H s) (u : Un (frs X.stack) ch H H' s.heap h') (hok : HOk X.prog X.w H' h') (hg : AllBare g')
    (hch : ∀ b ∈ ch, (b ∈ X.ex ∨ X.s₀.heap.objs.size ≤ b) ∧ b ≠ X.env.locals ∧ (∀ x c, X.env.cells.lookup x = some c → c ≠ b) ∧ ∀ p ∈ X.pn ++ pins, p.1 ≠ b) :
    Inv X pins σ H' { s with heap := h', gens := g', drawn := d', toks := t' } := by
  obtain ⟨m, ⟨o, es, ep, ho, r⟩, _⟩ := id I.loc
  obtain ⟨sl, hL⟩ := u.any ho I.free fun z => (hch _ z).2.1 rfl
  exact I.step (ch := ch) hch (fun b o hL hb hc e n => u.keep b o e n (fun z => (List.mem_cons.mp (I.stkSub b z)).elim hL hb) hc) (fun b o _ _ hc e n => u.any e n hc) (fun b o hc e n => u.free b o e n hc) (fun b o hc e => u.there b o e hc) u.tups u.frzs u.tbls (fun m' hm => by
    obtain ⟨o', es', ep', ho', r'⟩ := hm
    rw [ho] at ho'; cases ho'
    exact ⟨_, es', ep', hL, r'⟩) hok hg
/-- an untracked record of ours (an iterator) has turned -/
theorem Inv.turned {t' : Nat} {it : Addr} (I : Inv X pins σ H s) (k : ∀ b o, b ≠ it → s.heap.get? b = some o → h'.get? b = some o) (hn : H it = none) (hL : it ≠ X.env.locals)
    (h1 : it ∈ X.ex ∨ X.s₀.heap.objs.size ≤ it) (h2 : ∀ x c, X.env.cells.lookup x = some c → c ≠ it) (h3 : ∀ p ∈ X.pn ++ pins, p.1 ≠ it) : Inv X pins σ H { s with heap := h', toks := t' } := by
  have nit : ∀ b u, H b = some u → b ≠ it := fun b u e z => by rw [z, hn] at e; cases e
  refine I.step (g' := s.gens) (d' := s.drawn) (ch := [it]) (fun b hb => ?_) (fun b o _ _ hc e _ => k b o (fun z => hc (by simp [z])) e) (fun b o _ _ hc e _ => ⟨o.slots, k b o (fun z => hc (by simp [z])) e⟩) (fun _ _ _ _ n => n)
    (fun b o hc e => ⟨o, k b o (fun z => hc (by simp [z])) e⟩) (fun _ _ e => e) (fun _ _ _ e => e) (fun b ps e => ⟨#[], by rw [e]; simp⟩) (fun m hm => ?_) (fun b u e => ?_) I.bare
  · have e : b = it := by simpa using hb
    subst e
    exact ⟨h1, hL, h2, h3⟩
  · obtain ⟨o, es, ep, ho, r⟩ := hm
    exact ⟨o, es, ep, k _ o (Ne.symm hL) ho, r⟩
  · refine (I.hok b u e).stay (fun c v hc q => k c v ?_ q) (fun _ q => q) fun _ _ q => q
    rcases hc with z | z
    · rw [z]; exact nit b u e
    · exact nit c _ z
theorem Inv.tok (I : Inv X pins σ H s) (t : Nat) : Inv X pins σ H { s with toks := t } := I.un (h' := s.heap) (t' := t) Un.refl I.hok
/-- all objects kept -/
theorem Inv.kept {t' : Nat} (I : Inv X pins σ H s) (k : ∀ b u, s.heap.get? b = some u → h'.get? b = some u) : Inv X pins σ H { s with heap := h', toks := t' } := I.un (Un.kept k) (I.hok.kept k)
/-- a new object laid and tracked -/
theorem Inv.laid {a : Addr} {o : HO} {t' : Nat} (I : Inv X pins σ H s) (k : ∀ b u, s.heap.get? b = some u → h'.get? b = some u) (hp : s.heap.objs.size ≤ a) (new : ObjOk X.prog X.w (upd H a o) h' a o) :
    Inv X pins σ (upd H a o) { s with heap := h', toks := t' } := I.un (Un.laid k hp (I.hok.fresh hp)) (I.hok.laid k hp new)
/-- an object written -/
theorem Inv.write {x e : Addr} {o : HO} {t' : Nat} (I : Inv X pins σ H s) (mu : Mut (H x)) (he : e = x ∨ H e = some (.own x)) (k : ∀ b u, b ≠ e → s.heap.get? b = some u → h'.get? b = some u) (heo : ∃ u, h'.get? e = some u)
    (new : ObjOk X.prog X.w (upd H x o) h' x o) : Inv X pins σ (upd H x o) { s with heap := h', toks := t' } := I.un (Un.write mu he k heo) (I.hok.write mu he k heo new)
theorem Inv.pins_of {pins' : List (Addr × Obj)} (I : Inv X pins σ H s) (h : ∀ p ∈ pins', s.heap.get? p.1 = some p.2 ∧ H p.1 = none ∧ p.1 ≠ X.env.locals ∧ p.1 ∉ X.fs ∧ ∀ v, p.2.data ≠ .cell v) : Inv X pins' σ H s :=
  ⟨I.ok, I.os, I.bare, I.base, I.loc, I.cell, I.free, I.freeC, fun p hp => (List.mem_append.mp hp).elim (fun z => I.pin p (List.mem_append_left _ z)) (h p), I.hok, I.len⟩

theorem nodup_ix {N : List Str} (hN : N.Nodup) {i j : Nat} {x : Str} (a : N[i]? = some x) (b : N[j]? = some x) : i = j := by
  obtain ⟨h1, e1⟩ := List.getElem?_eq_some_iff.mp a
  obtain ⟨h2, e2⟩ := List.getElem?_eq_some_iff.mp b
  exact (List.getElem_inj hN).mp (e1.trans e2.symm)

/-- a name is stored; what changed -/
theorem store_ok2 {M : Model} {A : Around} {E : Value → Shared → Prop} {i : Nat} {x : Str} {v : V} {u : Value} {Q : Unit → Shared → Prop} (I : Inv X pins σ H s) (hN : X.N.Nodup) (hi : X.N[i]? = some x) (hx : Loc X.env.scope x) (r : RelV v u)
    (h : ∀ s', Inv X pins (σ.set i (some v)) H s' → (∃ a, Heap.SameBut a s.heap s'.heap ∧ (a = X.env.locals ∨ X.env.cells.lookup x = some a)) → Q () s') (hf : X.fn x = true ∨ X.env.scope.names.lookup x = some .local := by first | exact .inl rfl | exact .inr rfl | assumption) : wpAny M A (storeName X.env x u) Q E s := by
  obtain ⟨m, hn, hl⟩ := id I.loc
  have hcls : (X.env.scope.kind == .class || (X.env.scope.kind == .module && X.env.locals != X.env.globals)) = false := by rw [I.ok.kind]; rfl
  have hiσ : i < σ.length := by rw [I.len]; exact (List.getElem?_eq_some_iff.mp hi).1
  have cne := I.cne
  have tracked : ∀ {a : Addr} {h' : Heap}, (∃ o, s.heap.get? a = some o ∧ H a = none) → Heap.SameBut a s.heap h' → HOk X.prog X.w H h' := fun {a h'} ha hs b ob e => by
    obtain ⟨_, _, hfree⟩ := ha
    refine (I.hok b ob e).stay (fun c w' hc q => (hs.2 c ?_).trans q) (fun _ q => q) fun _ _ q => q
    rintro rfl
    rcases hc with rfl | hc
    · rw [hfree] at e; cases e
    · rw [hfree] at hc; cases hc
  rcases hx with hk | hk
  · refine wpAny_storeName_local hk hn (fun h' hn' hs => ?_) hcls
    obtain ⟨oL, _, _, hoL, _⟩ := id hn
    refine h _ ⟨I.ok, I.os, I.bare, ⟨fun b o e n hb hx => ?_, fun b o e n hb hx => ?_, I.base.free, fun b o e hx => ?_, I.base.tups, I.base.frzs, I.base.tbls⟩, ⟨_, hn', fun j y v' e1 e2 e3 => ?_⟩, fun y c e => ?_, I.free, I.freeC, fun p hp => ?_, tracked ⟨oL, hoL, I.free⟩ hs, by simpa using I.len⟩ ⟨_, hs, .inl rfl⟩
    · exact (hs.2 b (Nat.ne_of_lt (Nat.lt_of_lt_of_le (Heap.lt_size e) I.ok.above))).trans (I.base.keep b o e n hb hx)
    · obtain ⟨sl, e1⟩ := I.base.slot b o e n hb hx
      exact ⟨sl, (hs.2 b (Nat.ne_of_lt (Nat.lt_of_lt_of_le (Heap.lt_size e) I.ok.above))).trans e1⟩
    · obtain ⟨o', e1⟩ := I.base.there b o e hx
      exact ⟨o', (hs.2 b (Nat.ne_of_lt (Nat.lt_of_lt_of_le (Heap.lt_size e) I.ok.above))).trans e1⟩
    · by_cases hj : j = i
      · subst hj
        rw [hi] at e1; cases e1
        rw [List.getElem?_set_self hiσ] at e2
        cases e2
        exact ⟨u, r, .inl ⟨hk, by simp⟩⟩
      · rw [List.getElem?_set_ne (Ne.symm hj)] at e2
        obtain ⟨u', r', q⟩ := hl j y v' e1 e2 e3
        refine ⟨u', r', ?_⟩
        rcases q with ⟨k, e⟩ | ⟨k, c, e, z⟩
        · refine .inl ⟨k, ?_⟩
          have : y ≠ x := fun e => hj (nodup_ix hN e1 (e ▸ hi))
          simp [this, e]
        · exact .inr ⟨k, c, e, z.sameBut hs (cne y c e)⟩
    · obtain ⟨w', z⟩ := I.cell y c e
      exact ⟨w', z.sameBut hs (cne y c e)⟩
    · obtain ⟨e, n, ne, nf, d⟩ := I.pin p hp
      exact ⟨(hs.2 p.1 ne).trans e, n, ne, nf, d⟩
  · have hfn : X.fn x = true := by
      rcases hf with z | z
      · exact z
      · rw [z] at hk; cases hk
    obtain ⟨c, hc⟩ := I.ok.has x (.inl hk)
    obtain ⟨w', z⟩ := I.cell x c hc
    refine wpAny_storeName_cell I.ok.kind hk hc z (fun h' hc' hs => ?_)
    obtain ⟨oc, hoc, hocd⟩ := id z
    refine h { s with heap := h' } ⟨I.ok, I.os, I.bare, ⟨fun b o e n hb hx => ?_, fun b o e n hb hx => ?_, I.base.free, fun b o e hx => ?_, I.base.tups, I.base.frzs, I.base.tbls⟩, ⟨m, hn.sameBut hs (Ne.symm (cne x c hc)), fun j y v' e1 e2 e3 => ?_⟩, fun y c' e => ?_, I.free, I.freeC, fun p hp => ?_, tracked ⟨oc, hoc, I.freeC x c hc⟩ hs, by simpa using I.len⟩ ⟨c, hs, .inr hc⟩
    · exact (hs.2 b (Nat.ne_of_lt (Nat.lt_of_lt_of_le (Heap.lt_size e) (I.ok.cab x c hfn hc)))).trans (I.base.keep b o e n hb hx)
    · obtain ⟨sl, e1⟩ := I.base.slot b o e n hb hx
      exact ⟨sl, (hs.2 b (Nat.ne_of_lt (Nat.lt_of_lt_of_le (Heap.lt_size e) (I.ok.cab x c hfn hc)))).trans e1⟩
    · obtain ⟨o', e1⟩ := I.base.there b o e hx
      exact ⟨o', (hs.2 b (Nat.ne_of_lt (Nat.lt_of_lt_of_le (Heap.lt_size e) (I.ok.cab x c hfn hc)))).trans e1⟩
    · by_cases hj : j = i
      · subst hj
        rw [hi] at e1; cases e1
        rw [List.getElem?_set_self hiσ] at e2
        cases e2
        exact ⟨u, r, .inr ⟨.inl hk, c, hc, hc'⟩⟩
      · rw [List.getElem?_set_ne (Ne.symm hj)] at e2
        obtain ⟨u', r', q⟩ := hl j y v' e1 e2 e3
        refine ⟨u', r', ?_⟩
        rcases q with q | ⟨k, c', e, z'⟩
        · exact .inl q
        · refine .inr ⟨k, c', e, z'.sameBut hs ?_⟩
          rintro rfl
          exact hj (nodup_ix hN e1 (I.ok.inj _ _ _ e hc ▸ hi))
    · by_cases hcc : c' = c
      · subst hcc; exact ⟨_, hc'⟩
      · obtain ⟨w2, z2⟩ := I.cell y c' e
        exact ⟨w2, z2.sameBut hs hcc⟩
    · obtain ⟨e, n, ne, nf, d⟩ := I.pin p hp
      refine ⟨(hs.2 p.1 ?_).trans e, n, ne, nf, d⟩
      intro q
      rw [q, hoc] at e
      have q' : oc = p.2 := Option.some.inj e
      exact d w' (by rw [← q']; exact hocd)
theorem store_ok {M : Model} {A : Around} {E : Value → Shared → Prop} {i : Nat} {x : Str} {v : V} {u : Value} {Q : Unit → Shared → Prop} (I : Inv X pins σ H s) (hN : X.N.Nodup) (hi : X.N[i]? = some x) (hx : Loc X.env.scope x) (r : RelV v u)
    (h : ∀ s', Inv X pins (σ.set i (some v)) H s' → Q () s') (hf : X.fn x = true ∨ X.env.scope.names.lookup x = some .local := by first | exact .inl rfl | exact .inr rfl | assumption) : wpAny M A (storeName X.env x u) Q E s :=
  store_ok2 I hN hi hx r (fun s' I' _ => h s' I') hf
/-- behind a call or a block, the state as it is -/
theorem Inv.call' {s' : Shared} {ch : List Addr} (I : Inv X pins σ H s) (ho : s'.os = s.os) (u : Un (frs X.stack) ch H H' s.heap s'.heap) (hok : HOk X.prog X.w H' s'.heap) (hg : AllBare s'.gens)
    (hch : ∀ b ∈ ch, (b ∈ X.ex ∨ X.s₀.heap.objs.size ≤ b) ∧ b ≠ X.env.locals ∧ (∀ x c, X.env.cells.lookup x = some c → c ≠ b) ∧ ∀ p ∈ X.pn ++ pins, p.1 ≠ b) : Inv X pins σ H' s' := by
  obtain ⟨h', g', d', t', o'⟩ := s'
  have e : o' = s.os := ho
  subst e
  exact I.call (g' := g') (t' := t') (d' := d') u hok hg hch
end

/-! ### the judgements -/
/-- an exception: its class, its own dict's address (where it has one), the abstract heap behind it -/
noncomputable abbrev XK := Value → Option Addr → Hp → Prop
noncomputable abbrev St := List (Option V)
noncomputable abbrev VK := V → Hp → Prop
/-- an expression's reading; a test's; an argument list's -/
noncomputable abbrev TE := St → Hp → VK → Prop
noncomputable abbrev TT := St → Hp → (Bool → Hp → Prop) → Prop
noncomputable abbrev TA := St → Hp → (List V → Hp → Prop) → Prop
/-- what is wanted behind a statement -/
structure Ends where
  nx : St → Hp → Prop
  rt : VK
  bk : St → Hp → Prop := fun _ _ => False
  ct : St → Hp → Prop := fun _ _ => False
noncomputable abbrev TS := Ends → St → Hp → Prop

noncomputable def EP (X : Cx) (pins : List (Addr × Obj)) (σ : St) (Q : VK) (u : Value) (s' : Shared) : Prop := ∃ v H', Inv X pins σ H' s' ∧ RelV v u ∧ Q v H'
noncomputable def TP (X : Cx) (pins : List (Addr × Obj)) (σ : St) (Q : Bool → Hp → Prop) (b : Bool) (s' : Shared) : Prop := ∃ H', Inv X pins σ H' s' ∧ Q b H'
noncomputable def AP (X : Cx) (pins : List (Addr × Obj)) (σ : St) (Q : List V → Hp → Prop) (us : List Value) (s' : Shared) : Prop := ∃ vs H', Inv X pins σ H' s' ∧ Vals vs us ∧ Q vs H'
noncomputable def SP (X : Cx) (pins : List (Addr × Obj)) (D : Ends) (f : Flow) (s' : Shared) : Prop :=
  match f with
  | .next => ∃ σ' H', Inv X pins σ' H' s' ∧ D.nx σ' H'
  | .brk => ∃ σ' H', Inv X pins σ' H' s' ∧ D.bk σ' H'
  | .cont => ∃ σ' H', Inv X pins σ' H' s' ∧ D.ct σ' H'
  | .ret u => ∃ v σ' H', Inv X pins σ' H' s' ∧ RelV v u ∧ D.rt v H'

noncomputable def PE (X : Cx) (e : Expr) (t : TE) : Prop :=
  ∀ (pins : List (Addr × Obj)) (s : Shared) (σ : St) (H : Hp) (Q : VK), Inv X pins σ H s → t σ H Q → wpAny (model X.prog X.w) X.A (eval e X.env) (EP X pins σ Q) X.xe s
noncomputable def PT (X : Cx) (e : Expr) (t : TT) : Prop :=
  ∀ (pins : List (Addr × Obj)) (s : Shared) (σ : St) (H : Hp) (Q : Bool → Hp → Prop), Inv X pins σ H s → t σ H Q → wpAny (model X.prog X.w) X.A (isTrue e X.env (eval e X.env)) (TP X pins σ Q) X.xe s
/-- a test whatever its 'whole' is (and, or) -/
noncomputable def PW (X : Cx) (e : Expr) (t : TT) : Prop :=
  ∀ (whole : Sem Value) (pins : List (Addr × Obj)) (s : Shared) (σ : St) (H : Hp) (Q : Bool → Hp → Prop), Inv X pins σ H s → t σ H Q → wpAny (model X.prog X.w) X.A (isTrue e X.env whole) (TP X pins σ Q) X.xe s
theorem PW.pt {X : Cx} {e : Expr} {t : TT} (h : PW X e t) : PT X e t := h _
/-- an argument list (no star), from the left -/
noncomputable def PA (X : Cx) (es : List Expr) (t : TA) : Prop :=
  ∀ (pos : Pos) (pins : List (Addr × Obj)) (s : Shared) (σ : St) (H : Hp) (Q : List V → Hp → Prop), Inv X pins σ H s → t σ H Q → wpAny (model X.prog X.w) X.A (spliced (backTo pos (starEach es X.env))) (AP X pins σ Q) X.xe s
noncomputable def PS (X : Cx) (st : Stmt) (t : TS) : Prop :=
  ∀ (pins : List (Addr × Obj)) (s : Shared) (σ : St) (H : Hp) (D : Ends), Inv X pins σ H s → t D σ H → wpAny (model X.prog X.w) X.A (exec st X.env) (SP X pins D) X.xe s
noncomputable def PSs (X : Cx) (st : List Stmt) (t : TS) : Prop :=
  ∀ (pins : List (Addr × Obj)) (s : Shared) (σ : St) (H : Hp) (D : Ends), Inv X pins σ H s → t D σ H → wpAny (model X.prog X.w) X.A (execs st X.env) (SP X pins D) X.xe s
/-- weaken the end -/
theorem thn {α : Type} {t : Sem α} {Q Q' : α → Shared → Prop} {M : Model} {A : Around} {E : Value → Shared → Prop} {s : Shared} (h : wpAny M A t Q E s) (hQ : ∀ a s, Q a s → Q' a s) : wpAny M A t Q' E s := wpAny_mono h hQ fun _ _ x => x
end L2

namespace L2
open PySem PySem.Spec PyProof.Rows
section
variable {X : Cx}


/-! ### names and constants -/
noncomputable def tVar (i : Nat) : TE := fun σ H Q => ∃ v, σ[i]? = some (some v) ∧ Q v H
noncomputable def tC (v : V) : TE := fun _ H Q => Q v H
theorem pe_var {i : Nat} {x : Str} {pos : Pos} (hN : X.N[i]? = some x) (hv : Vis X.env.scope x) (hd : (x == ("__debug__" : Str)) = false := by decide) (hcd : (x == ("__classdict__" : Str)) = false := by decide) : PE X (.Name x pos) (tVar i) := by
  intro pins s σ H Q I h
  obtain ⟨v, e, h⟩ := h
  obtain ⟨m, hn, hl⟩ := I.loc
  obtain ⟨u, r, l⟩ := hl i x v hN e hv
  have fin : EP X pins σ Q u s := ⟨v, H, I, r, h⟩
  rcases l with ⟨hk, hm⟩ | ⟨hk, c, hc, hcell⟩
  · exact wpAny_Name (wpAny_loadName_local I.ok.kind hk hn hm fin) hd
  · rcases hk with hk | hk
    · exact wpAny_Name (wpAny_loadName_cell I.ok.kind hk hc hcell fin) hd
    · exact wpAny_Name (wpAny_loadName_free I.ok.kind hk hc hcell fin hcd) hd
theorem pe_int {i j pos} : PE X (.Constant (.int i) j pos) (tC (.int i)) := fun _ _ _ H _ I h => wpAny_Constant_int ⟨.int i, H, I.tok _, ⟨_, rfl⟩, h⟩
theorem pe_bl {b j pos} : PE X (.Constant (.bool b) j pos) (tC (.bl b)) := fun _ _ _ H _ I h => Constant_bool ⟨.bl b, H, I, rfl, h⟩
theorem pe_non {j pos} : PE X (.Constant .none j pos) (tC .non) := fun _ _ _ H _ I h => Constant_none ⟨.non, H, I, rfl, h⟩
theorem pe_str {x j pos} : PE X (.Constant (.str x) j pos) (tC (.str x)) := fun _ _ _ H _ I h => Calls.Constant_str ⟨.str x, H, I.tok _, ⟨_, rfl⟩, h⟩

/-- a global name of the def -/
noncomputable def Gl (X : Cx) (x : Str) : Prop := X.env.kindOf x = some .globalImplicit
theorem ld_glob {E : Value → Shared → Prop} {pins : List (Addr × Obj)} {s : Shared} {σ : St} {H : Hp} {x : Str} {u : Value} {pos : Pos} {Q : Value → Shared → Prop} (I : Inv X pins σ H s) (hg : Gl X x) (hm : X.mg x = some u) (h : Q u s)
    (hd : (x == ("__debug__" : Str)) = false := by decide) : wpAny (model X.prog X.w) X.A (eval (.Name x pos) X.env) Q E s :=
  Calls.Name_function_global I.ok.kind hg (Calls.loadGlobal_global (by rw [I.ok.glob]; exact I.mod.glob.keeps I.bk) hm h) hd
theorem ld_blt {E : Value → Shared → Prop} {pins : List (Addr × Obj)} {s : Shared} {σ : St} {H : Hp} {x : Str} {u : Value} {pos : Pos} {Q : Value → Shared → Prop} (I : Inv X pins σ H s) (hg : Gl X x) (hm : X.mg x = none) (hv : bootBuiltins x = some u) (h : Q u s)
    (hn : x ≠ "__name__" := by decide) (hd : (x == ("__debug__" : Str)) = false := by decide) : wpAny (model X.prog X.w) X.A (eval (.Name x pos) X.env) Q E s := by
  obtain ⟨mb, h1, h2⟩ := I.mod.blt
  exact Calls.Name_function_global I.ok.kind hg (Calls.loadGlobal_builtin (by rw [I.ok.glob]; exact I.mod.glob.keeps I.bk) hm (by rw [I.ok.blt]; exact h1.keeps I.bk) ((h2 x hn).trans hv) h) hd
/-- a module's constant, a class, a function, as a value -/
theorem pe_glob {x : Str} {v : V} {u : Value} {pos : Pos} (hg : Gl X x) (hm : X.mg x = some u) (r : RelV v u) (hd : (x == ("__debug__" : Str)) = false := by decide) : PE X (.Name x pos) (tC v) :=
  fun _ _ _ H _ I h => ld_glob I hg hm ⟨v, H, I, r, h⟩ hd
theorem pe_bltn {x : Str} {v : V} {u : Value} {pos : Pos} (hg : Gl X x) (hm : X.mg x = none) (hv : bootBuiltins x = some u) (r : RelV v u) (hn : x ≠ "__name__" := by decide) (hd : (x == ("__debug__" : Str)) = false := by decide) : PE X (.Name x pos) (tC v) :=
  fun _ _ _ H _ I h => ld_blt I hg hm hv ⟨v, H, I, r, h⟩ hn hd

/-! ### arithmetic -/
/-- two ints -/
noncomputable def t2I (ta tb : TE) (k : Int → Int → Hp → Prop) : St → Hp → Prop := fun σ H => ta σ H fun x H1 => tb σ H1 fun y H2 => ∃ i j, x = .int i ∧ y = .int j ∧ k i j H2
noncomputable def tAdd (ta tb : TE) : TE := fun σ H Q => t2I ta tb (fun i j H2 => Q (.int (i + j)) H2) σ H
noncomputable def tSub (ta tb : TE) : TE := fun σ H Q => t2I ta tb (fun i j H2 => Q (.int (i - j)) H2) σ H
/-- the left factor below 2^64 -/
noncomputable def tMul (ta tb : TE) : TE := fun σ H Q => t2I ta tb (fun i j H2 => (-(2 ^ 64) < i ∧ i < 2 ^ 64) ∧ Q (.int (i * j)) H2) σ H
variable {a b : Expr} {ta tb : TE} {pos : Pos}

/-! ### comparisons -/
noncomputable def PC (X : Cx) (op : CmpOp) (a b : Expr) (t : TE) : Prop :=
  ∀ (pins : List (Addr × Obj)) (s : Shared) (σ : St) (H : Hp) (Q : VK), Inv X pins σ H s → t σ H Q →
    wpAny (model X.prog X.w) X.A (eval a X.env) (fun v s₁ => wpAny (model X.prog X.w) X.A (eval b X.env) (fun u s₂ => wpAny (model X.prog X.w) X.A (compareOp op v u) (EP X pins σ Q) X.xe s₂) X.xe s₁) X.xe s
noncomputable def tCmp (p : Int → Int → Bool) (ta tb : TE) : TE := fun σ H Q => t2I ta tb (fun i j H2 => Q (.bl (p i j)) H2) σ H
noncomputable abbrev tLt : TE → TE → TE := tCmp fun i j => decide (i < j)
noncomputable abbrev tLe : TE → TE → TE := tCmp fun i j => decide (i ≤ j)
noncomputable abbrev tGt : TE → TE → TE := tCmp fun i j => decide (j < i)
noncomputable abbrev tGe : TE → TE → TE := tCmp fun i j => decide (j ≤ i)
noncomputable abbrev tEqI : TE → TE → TE := tCmp fun i j => decide (i = j)
noncomputable abbrev tNeI : TE → TE → TE := tCmp fun i j => !decide (i = j)
/-- is None -/
noncomputable def tIsN (ta : TE) : TE := fun σ H Q => ta σ H fun x H1 => Q (.bl (decide (x = .non))) H1
noncomputable def tNotN (ta : TE) : TE := fun σ H Q => ta σ H fun x H1 => Q (.bl (!decide (x = .non))) H1
theorem RelV.none_iff {x : V} {v : Value} (r : RelV x v) : (v == Value.none) = decide (x = .non) := by
  cases x with
  | non => cases r; rfl
  | bl _ => cases r; rfl
  | int _ => obtain ⟨t, rfl⟩ := r; rfl
  | str _ => obtain ⟨t, rfl⟩ := r; rfl
  | byt _ => obtain ⟨t, rfl⟩ := r; rfl
  | flt _ => obtain ⟨t, rfl⟩ := r; rfl
  | ref _ => cases r; rfl
  | ty _ => cases r; rfl
theorem pc_isN {j pos'} (ha : PE X a ta) : PC X .Is a (.Constant .none j pos') (tIsN ta) := by
  intro pins s σ H Q I h
  refine thn (ha pins s σ H _ I h) fun v s1 ⟨x, H1, I1, r1, q1⟩ => ?_
  exact Constant_none (is_none_gen ⟨.bl _, H1, I1, by rw [r1.none_iff]; rfl, q1⟩)
/-- a comparison as a value, as a test -/
noncomputable def tB (t : TE) : TT := fun σ H Q => t σ H fun x H1 => ∃ c, x = .bl c ∧ Q c H1
theorem pt_cmp {op : CmpOp} {t : TE} (h : PC X op a b t) (h1 : behindInMarks op b = false := by first | exact nobehind _ (by decide) (by decide) | rfl) : PT X (.Compare a [op] [b] pos) (tB t) := by
  intro pins s σ H Q I hw
  refine wpAny_isTrue_Compare1 (thn (h pins s σ H _ I hw) fun v s1 h1 => thn h1 fun u s2 h2 => thn h2 fun c s3 ⟨x, H1, I1, r1, q1⟩ => ?_) h1
  obtain ⟨d, rfl, q⟩ := q1
  cases r1
  exact wpAny_truthy_bool ⟨H1, I1, q⟩
/-- an expression whose value is a bool, as a test -/
theorem pt_val {e : Expr} {t : TE} (h : PE X e t) (he : ∀ whole, isTrue e X.env whole = (do let v ← whole; standAt e.pos; holding [v] (truthy v)) := by intro _; rfl) : PT X e (tB t) := by
  intro pins s σ H Q I hw
  refine isTrue_plain (thn (h pins s σ H _ I hw) fun v s1 ⟨x, H1, I1, r1, q1⟩ => ?_) (he _)
  obtain ⟨d, rfl, q⟩ := q1
  cases r1
  exact wpAny_truthy_bool ⟨H1, I1, q⟩

/-! ### and, or, not -/
variable {tA tB' : TT} {rest : List Expr}
noncomputable def tAnd (t u : TT) : TT := fun σ H Q => t σ H fun c H1 => if c = true then u σ H1 Q else Q false H1
noncomputable def tOr (t u : TT) : TT := fun σ H Q => t σ H fun c H1 => if c = true then Q true H1 else u σ H1 Q
noncomputable def tNot (t : TT) : TT := fun σ H Q => t σ H fun c H1 => Q (!c) H1
theorem pw_and1 (ha : PT X a tA) : PW X (.BoolOp .And [a] pos) tA := by
  intro wh pins s σ H Q I h
  refine isTrue_and (thn (ha pins s σ H Q I h) fun c s1 e => ?_)
  cases c with
  | true => exact isTrue_and_nil e
  | false => exact e
theorem pw_or1 (ha : PT X a tA) : PW X (.BoolOp .Or [a] pos) tA := by
  intro wh pins s σ H Q I h
  refine isTrue_or (thn (ha pins s σ H Q I h) fun c s1 e => ?_)
  cases c with
  | false => exact isTrue_or_nil e
  | true => exact e
theorem pw_and (ha : PT X a tA) (hb : PW X (.BoolOp .And (b :: rest) pos) tB') : PW X (.BoolOp .And (a :: b :: rest) pos) (tAnd tA tB') := by
  intro wh pins s σ H Q I h
  refine isTrue_and (thn (ha pins s σ H _ I h) fun c s1 ⟨H1, I1, q1⟩ => ?_)
  cases c with
  | true => exact hb wh pins s1 σ H1 Q I1 q1
  | false => exact ⟨H1, I1, q1⟩
theorem pw_or (ha : PT X a tA) (hb : PW X (.BoolOp .Or (b :: rest) pos) tB') : PW X (.BoolOp .Or (a :: b :: rest) pos) (tOr tA tB') := by
  intro wh pins s σ H Q I h
  refine isTrue_or (thn (ha pins s σ H _ I h) fun c s1 ⟨H1, I1, q1⟩ => ?_)
  cases c with
  | true => exact ⟨H1, I1, q1⟩
  | false => exact hb wh pins s1 σ H1 Q I1 q1
theorem pt_not (ha : PT X a tA) : PT X (.UnaryOp .Not a pos) (tNot tA) := by
  intro pins s σ H Q I h
  exact isTrue_not (ha pins s σ H (fun c H1 => Q (!c) H1) I h)
/-- .. as values (bools) -/
noncomputable def tAndV (ta tb : TE) : TE := fun σ H Q => ta σ H fun x H1 => ∃ c, x = .bl c ∧ if c = true then tb σ H1 Q else Q (.bl false) H1
noncomputable def tOrV (ta tb : TE) : TE := fun σ H Q => ta σ H fun x H1 => ∃ c, x = .bl c ∧ if c = true then Q (.bl true) H1 else tb σ H1 Q
noncomputable def tNotV (ta : TE) : TE := fun σ H Q => ta σ H fun x H1 => ∃ c, x = .bl c ∧ Q (.bl (!c)) H1
theorem pe_one {op} {t : TE} (h : PE X a t) : PE X (.BoolOp op [a] pos) t := fun pins s σ H Q I hw => BoolOp_one (h pins s σ H Q I hw)
theorem pe_and (ha : PE X a ta) (hb : PE X (.BoolOp .And (b :: rest) pos) tb) : PE X (.BoolOp .And (a :: b :: rest) pos) (tAndV ta tb) := by
  intro pins s σ H Q I h
  refine BoolOp_and (thn (ha pins s σ H _ I h) fun v s1 ⟨x, H1, I1, r1, q1⟩ => ?_)
  obtain ⟨c, rfl, q1⟩ := q1
  cases r1
  refine wpAny_truthy_bool ?_
  cases c with
  | true => exact hb pins s1 σ H1 Q I1 q1
  | false => exact ⟨.bl false, H1, I1, rfl, q1⟩
/-- a if t else b -/
noncomputable def tIf (t : TT) (ta tb : TE) : TE := fun σ H Q => t σ H fun c H1 => if c = true then ta σ H1 Q else tb σ H1 Q
end
end L2

namespace L2
open PySem PySem.Spec PyProof.Rows

/-! ### a list, a tuple that is read: tracked, frozen, or an object of the module -/
noncomputable def SqL (K : PySem.W.Frag) (H : Hp) (a : Addr) (xs : List V) : Prop :=
  Rd H a (.lst xs) ∨
    ∃ (o : Obj) (its : Array Value) (n : Nat), K.lookup a = some o ∧ o.cls = .type "list" ∧ o.dict = none ∧ o.data = .seq its n ∧ its.size ≤ sizeLine ∧ Vals xs its.toList
noncomputable def SqT (K : PySem.W.Frag) (H : Hp) (a : Addr) (xs : List V) : Prop :=
  Rd H a (.tup xs) ∨
    ∃ (o : Obj) (its : Array Value) (n : Nat), K.lookup a = some o ∧ o.cls = .type "tuple" ∧ o.data = .seq its n ∧ its.size ≤ sizeLine ∧ Vals xs its.toList
noncomputable def absV : Value → Option V
  | .none => some .non
  | .bool b => some (.bl b)
  | .int i _ => some (.int i)
  | .str x _ => some (.str x)
  | .bytes b _ => some (.byt b)
  | .float b _ => some (.flt b)
  | .ref a => some (.ref a)
  | .type n => some (.ty n)
  | _ => none
theorem RelV.abs {x : V} {u : Value} (r : RelV x u) : absV u = some x := by
  cases x with
  | non => cases r; rfl
  | bl _ => cases r; rfl
  | int _ => obtain ⟨t, rfl⟩ := r; rfl
  | str _ => obtain ⟨t, rfl⟩ := r; rfl
  | byt _ => obtain ⟨t, rfl⟩ := r; rfl
  | flt _ => obtain ⟨t, rfl⟩ := r; rfl
  | ref _ => cases r; rfl
  | ty _ => cases r; rfl
theorem RelV.inj {x y : V} {u : Value} (r : RelV x u) (q : RelV y u) : x = y := Option.some.inj (r.abs.symm.trans q.abs)
theorem Vals.inj : ∀ {xs ys : List V} {us : List Value}, Vals xs us → Vals ys us → xs = ys
  | _, _, _, .nil, .nil => rfl
  | _, _, _, .cons r t, .cons r' t' => by rw [r.inj r', Vals.inj t t']
section
variable {X : Cx} {pins : List (Addr × Obj)} {σ : St} {H : Hp} {s : Shared} {a : Addr} {xs ys : List V}
theorem SqL.of {K : PySem.W.Frag} (h : H a = some (.lst xs)) : SqL K H a xs := .inl (.inl h)
theorem SqT.of {K : PySem.W.Frag} (h : H a = some (.tup xs)) : SqT K H a xs := .inl (.inl h)
theorem Inv.list (I : Inv X pins σ H s) (h : SqL X.K H a xs) : ∃ its : List Value, Vals xs its ∧ PlainL s.heap a its.toArray ∧ xs.length ≤ sizeLine := by
  rcases h with h | ⟨o, its, n, hk, hc, hd, hs, hz, r⟩
  · obtain ⟨z, its, n, r, e⟩ := h.ok I.hok
    exact ⟨its, r, ⟨_, n, e, rfl, rfl, rfl⟩, z⟩
  · refine ⟨its.toList, r, ⟨o, n, I.kIn a o hk, hc, hd, by simpa using hs⟩, ?_⟩
    have e := r.length
    simp only [Array.length_toList] at e
    omega
theorem Inv.tuple (I : Inv X pins σ H s) (h : SqT X.K H a xs) : ∃ its : List Value, Vals xs its ∧ IsTup s.heap a its.toArray ∧ xs.length ≤ sizeLine := by
  rcases h with h | ⟨o, its, n, hk, hc, hs, hz, r⟩
  · obtain ⟨z, its, r, p⟩ := h.ok I.hok
    exact ⟨its, r, p, z⟩
  · refine ⟨its.toList, r, ⟨o, I.kIn a o hk, hc, n, by simpa using hs⟩, ?_⟩
    have e := r.length
    simp only [Array.length_toList] at e
    omega
theorem Inv.list_inj (I : Inv X pins σ H s) (h : SqL X.K H a xs) (h' : SqL X.K H a ys) : xs = ys := by
  obtain ⟨its, r, ⟨o, n, e, _, _, d⟩, _⟩ := I.list h
  obtain ⟨its', r', ⟨o', n', e', _, _, d'⟩, _⟩ := I.list h'
  rw [e] at e'; cases e'
  rw [d] at d'
  injection d' with d1 _
  have : its = its' := by simpa using congrArg Array.toList d1
  subst this
  exact r.inj r'
theorem Inv.tuple_inj (I : Inv X pins σ H s) (h : SqT X.K H a xs) (h' : SqT X.K H a ys) : xs = ys := by
  obtain ⟨its, r, ⟨o, e, _, n, d⟩, _⟩ := I.tuple h
  obtain ⟨its', r', ⟨o', e', _, n', d'⟩, _⟩ := I.tuple h'
  rw [e] at e'; cases e'
  rw [d] at d'
  injection d' with d1 _
  have : its = its' := by simpa using congrArg Array.toList d1
  subst this
  exact r.inj r'
end

/-! ### another wish about exceptions -/
noncomputable abbrev Cx.wish (X : Cx) (E : Value → Shared → Prop) : Cx := { X with xe := E }
/-- no exception leaves -/
noncomputable abbrev Cx.nox (X : Cx) : Cx := X.wish fun _ _ => False
theorem Cx.Ok.wish {X : Cx} (ok : X.Ok) (E : Value → Shared → Prop) : (X.wish E).Ok :=
  ⟨ok.mod, ok.kind, ok.glob, ok.blt, ok.above, ok.inj, ok.has, ok.cab, ok.hd, ok.frames, ok.stk, ok.exf, ok.bs, ok.bsz, ok.noex, ok.exfs, ok.funs, ok.frf⟩
theorem Cx.Ok.unwish {X : Cx} {E : Value → Shared → Prop} (ok : (X.wish E).Ok) : X.Ok :=
  ⟨ok.mod, ok.kind, ok.glob, ok.blt, ok.above, ok.inj, ok.has, ok.cab, ok.hd, ok.frames, ok.stk, ok.exf, ok.bs, ok.bsz, ok.noex, ok.exfs, ok.funs, ok.frf⟩
section
variable {X : Cx} {pins : List (Addr × Obj)} {σ : St} {H : Hp} {s : Shared} {E : Value → Shared → Prop}
theorem Inv.wish (I : Inv X pins σ H s) (E : Value → Shared → Prop) : Inv (X.wish E) pins σ H s := ⟨I.ok.wish E, I.os, I.bare, I.base, I.loc, I.cell, I.free, I.freeC, I.pin, I.hok, I.len⟩
theorem Inv.unwish (I : Inv (X.wish E) pins σ H s) : Inv X pins σ H s := ⟨I.ok.unwish, I.os, I.bare, I.base, I.loc, I.cell, I.free, I.freeC, I.pin, I.hok, I.len⟩
theorem SP.unwish {D : Ends} {f : Flow} {s' : Shared} (h : SP (X.wish E) pins D f s') : SP X pins D f s' := by
  cases f with
  | next => obtain ⟨σ', H', I, q⟩ := h; exact ⟨σ', H', I.unwish, q⟩
  | brk => obtain ⟨σ', H', I, q⟩ := h; exact ⟨σ', H', I.unwish, q⟩
  | cont => obtain ⟨σ', H', I, q⟩ := h; exact ⟨σ', H', I.unwish, q⟩
  | ret u => obtain ⟨v, σ', H', I, r, q⟩ := h; exact ⟨v, σ', H', I.unwish, r, q⟩
theorem PSs.nox {st : List Stmt} {t : TS} (h : PSs X.nox st t) : PSs X st t := fun pins s σ H D I hw =>
  wpAny_mono (h pins s σ H D (I.wish _) hw) (fun _ _ q => q.unwish) fun _ _ z => False.elim z
end

/-! ### blocks and small statements -/
section
variable {X : Cx} {st : Stmt} {rest : List Stmt} {t u : TS} {e : Expr} {te : TE} {pos : Pos}
noncomputable def tNext : TS := fun D σ H => D.nx σ H
noncomputable def tSeq (t u : TS) : TS := fun D σ H => t { D with nx := u D } σ H
theorem pss_nil : PSs X [] tNext := fun _ _ σ H _ I h => wpAny_execs_nil ⟨σ, H, I, h⟩
theorem pss_cons (h1 : PS X st t) (h2 : PSs X rest u) : PSs X (st :: rest) (tSeq t u) := by
  intro pins s σ H D I h
  refine wpAny_execs_cons (thn (h1 pins s σ H { D with nx := u D } I h) fun f s1 q => ?_)
  cases f with
  | next =>
    obtain ⟨σ', H', I', q⟩ := q
    exact h2 pins s1 σ' H' D I' q
  | ret v => exact q
  | brk => exact q
  | cont => exact q
theorem pss_one (h1 : PS X st t) : PSs X [st] t := by
  intro pins s σ H D I h
  refine wpAny_execs_cons (thn (h1 pins s σ H D I h) fun f s1 q => ?_)
  cases f with
  | next => exact wpAny_execs_nil q
  | ret v => exact q
  | brk => exact q
  | cont => exact q
noncomputable def tBreak : TS := fun D σ H => D.bk σ H
noncomputable def tCont : TS := fun D σ H => D.ct σ H
/-- in a def's body nothing is shown -/
theorem Inv.quiet {pins : List (Addr × Obj)} {σ : St} {H : Hp} {s : Shared} (I : Inv X pins σ H s) : interactive X.env = false := by simp [interactive, I.ok.kind]
/-- an expression whose value is dropped -/
noncomputable def tDrop (te : TE) : TS := fun D σ H => te σ H fun _ H1 => D.nx σ H1
theorem ps_expr (he : PE X e te) (hs : swapsWith e none pos.line X.env = pure false := by rfl) : PS X (.Expr e pos) (tDrop te) := by
  intro pins s σ H D I h
  exact wpAny_Expr_any (thn (he pins s σ H _ I h) fun v s1 ⟨x, H1, I1, r1, q1⟩ => ⟨σ, H1, I1, q1⟩) I.quiet hs
noncomputable def tRet (te : TE) : TS := fun D σ H => te σ H D.rt
theorem ps_ret (he : PE X e te) : PS X (.Return (some e) pos) (tRet te) := by
  intro pins s σ H D I h
  exact wpAny_Return_some (thn (he pins s σ H _ I h) fun v s1 ⟨x, H1, I1, r1, q1⟩ => ⟨x, σ, H1, I1, r1, q1⟩)
noncomputable def tRetN : TS := fun D _ H => D.rt .non H
noncomputable def tIfS (c : TT) (t u : TS) : TS := fun D σ H => c σ H fun b H1 => if b = true then t D σ H1 else u D σ H1
theorem ps_if {c : Expr} {a b : List Stmt} {tc : TT} (hc : PT X c tc) (ha : PSs X a t) (hb : PSs X b u) : PS X (.If c a b pos) (tIfS tc t u) := by
  intro pins s σ H D I h
  refine wpAny_If (thn (hc pins s σ H _ I h) fun d s1 ⟨H1, I1, q1⟩ => ?_)
  cases d with
  | true => exact ha pins s1 σ H1 D I1 q1
  | false => exact hb pins s1 σ H1 D I1 q1
/-- code that the proof never comes to -/
noncomputable def tNever : TS := fun _ _ _ => False
end

/-! ### targets -/
noncomputable abbrev TG := V → St → Hp → (St → Hp → Prop) → Prop
noncomputable abbrev TGs := List V → St → Hp → (St → Hp → Prop) → Prop
noncomputable def PG (X : Cx) (target : Expr) (t : TG) : Prop :=
  ∀ (pins : List (Addr × Obj)) (s : Shared) (σ : St) (H : Hp) (v : V) (u : Value) (Q : St → Hp → Prop), Inv X pins σ H s → RelV v u → t v σ H Q →
    wpAny (model X.prog X.w) X.A (assign target X.env u) (fun _ s' => ∃ σ' H', Inv X pins σ' H' s' ∧ Q σ' H') X.xe s
/-- several targets, one after another -/
noncomputable def PGs (X : Cx) (ts : List Expr) (t : TGs) : Prop :=
  ∀ (pins : List (Addr × Obj)) (s : Shared) (σ : St) (H : Hp) (vs : List V) (us : List Value) (Q : St → Hp → Prop), Inv X pins σ H s → Vals vs us → t vs σ H Q →
    wpAny (model X.prog X.w) X.A (assignInOrder ((assignEach ts X.env).map (·.2)) us) (fun _ s' => ∃ σ' H', Inv X pins σ' H' s' ∧ Q σ' H') X.xe s
/-- o[i] = v, by values -/
noncomputable abbrev TSet := V → V → V → Hp → (Hp → Prop) → Prop
noncomputable def PSet (X : Cx) (t : TSet) : Prop :=
  ∀ (pins : List (Addr × Obj)) (s : Shared) (σ : St) (H : Hp) (o i v : V) (ov iv u : Value) (Q : Hp → Prop), Inv X pins σ H s → RelV o ov → RelV i iv → RelV v u → t o i v H Q →
    wpAny (model X.prog X.w) X.A (setItem ov iv u) (fun _ s' => ∃ H', Inv X pins σ H' s' ∧ Q H') X.xe s
/-- a op= b, by values -/
noncomputable abbrev TIp := V → V → Hp → VK → Prop
noncomputable def PIp (X : Cx) (op : Operator) (t : TIp) : Prop :=
  ∀ (pins : List (Addr × Obj)) (s : Shared) (σ : St) (H : Hp) (x y : V) (v u : Value) (Q : VK), Inv X pins σ H s → RelV x v → RelV y u → t x y H Q →
    wpAny (model X.prog X.w) X.A (inplaceOp op v u) (EP X pins σ Q) X.xe s
section
variable {X : Cx} {pos : Pos}
noncomputable def gName (i : Nat) : TG := fun v σ H Q => Q (σ.set i (some v)) H
theorem pg_name {i : Nat} {x : Str} (hN : X.N.Nodup) (hi : X.N[i]? = some x) (hx : Loc X.env.scope x) (hf : X.fn x = true ∨ X.env.scope.names.lookup x = some .local := by first | exact .inl rfl | exact .inr rfl | assumption) : PG X (.Name x pos) (gName i) := by
  intro pins s σ H v u Q I r h
  exact wpAny_assign_Name (store_ok I hN hi hx r (fun s' I' => ⟨_, H, I', h⟩) hf)
noncomputable def gNil : TGs := fun vs σ H Q => vs = [] ∧ Q σ H
noncomputable def gCons (t : TG) (u : TGs) : TGs := fun vs σ H Q => ∃ v r, vs = v :: r ∧ t v σ H fun σ' H' => u r σ' H' Q
theorem pgs_nil : PGs X [] gNil := by
  intro pins s σ H vs us Q I r h
  obtain ⟨e, h⟩ := h
  subst e
  cases r
  exact assignInOrder_nil ⟨σ, H, I, h⟩
theorem pgs_cons {e : Expr} {es : List Expr} {t : TG} {u : TGs} (h1 : PG X e t) (h2 : PGs X es u)
    (hs : (assignEach (e :: es) X.env).map (·.2) = assign e X.env :: (assignEach es X.env).map (·.2) := by rfl) : PGs X (e :: es) (gCons t u) := by
  intro pins s σ H vs us Q I r h
  obtain ⟨v, vr, e1, h⟩ := h
  subst e1
  cases r with
  | cons r rr =>
    rw [hs]
    refine assignInOrder_cons (thn (h1 pins s σ H _ _ _ I r h) fun _ s1 ⟨σ1, H1, I1, q1⟩ => ?_)
    exact h2 pins s1 σ1 H1 _ _ Q I1 rr q1
/-- (a, b, ..) = a tuple of that length -/
noncomputable def gTup (K : PySem.W.Frag) (n : Nat) (t : TGs) : TG := fun v σ H Q => ∃ a xs, v = .ref a ∧ SqT K H a xs ∧ xs.length = n ∧ t xs σ H Q
theorem pg_tup {es : List Expr} {k : Nat} {t : TGs} {n : Nat} (hc : X.calm = true) (h : PGs X es t)
    (hn : (assignEach es X.env).length = n := by rfl) (hst : (assignEach es X.env).findIdx? (·.1) = none := by rfl) : PG X (.Tuple es k pos) (gTup X.K n t) := by
  intro pins s σ H v u Q I r hw
  obtain ⟨a, xs, e1, hq, hl, hw⟩ := hw
  subst e1
  cases r
  obtain ⟨its, rv, ht, hz⟩ := I.tuple hq
  refine assign_Tuple_tuple (I.ok.hd hc) ht (by simp [hn, ← hl, rv.length]) hst fun h' hx => ?_
  have I1 : Inv X pins σ H { s with heap := h' } := I.kept (t' := s.toks) fun b o e => hx b o (Nat.ne_of_lt (Heap.lt_size e)) e
  exact h pins _ σ H xs _ Q I1 (by simpa using rv) hw
/-- o[i] = .. -/
noncomputable def gSub (to ti : TE) (t : TSet) : TG := fun v σ H Q => to σ H fun o H1 => ti σ H1 fun i H2 => t o i v H2 fun H3 => Q σ H3
theorem pg_sub {o i : Expr} {to ti : TE} {t : TSet} (ho : PE X o to) (hi : PE X i ti) (hs : PSet X t)
    (ha : ∀ v, assign (.Subscript o i pos) X.env v = (do
      let ov ← holding [v] (eval o X.env)
      let iv ← holding [v, ov] (eval i X.env)
      standAt pos
      holding [v, ov, iv] (setItem ov iv v)
      release [v, ov, iv] []) := by intro _; rfl) : PG X (.Subscript o i pos) (gSub to ti t) := by
  intro pins s σ H v u Q I r h
  rw [ha]
  refine wpAny_bind (wpAny_holding (thn (ho pins s σ H _ I h) fun ov s1 ⟨x, H1, I1, r1, q1⟩ => ?_))
  refine wpAny_bind (wpAny_holding (thn (hi pins s1 σ H1 _ I1 q1) fun iv s2 ⟨y, H2, I2, r2, q2⟩ => ?_))
  refine wpAny_bind (wpAny_standAt (wpAny_bind (wpAny_holding (thn (hs pins s2 σ H2 x y v ov iv u _ I2 r1 r2 r q2) fun _ s3 ⟨H3, I3, q3⟩ => ?_))))
  exact wpAny_release ⟨σ, H3, I3, q3⟩
/-- target = value -/
noncomputable def tAsg (te : TE) (g : TG) : TS := fun D σ H => te σ H fun x H1 => g x σ H1 D.nx
theorem ps_asg {tg e : Expr} {te : TE} {g : TG} (he : PE X e te) (hg : PG X tg g) (hs : swapsWithSole [tg] e pos.line X.env = pure false := by rfl) (hw : swappedStores [tg] e X.env = pure none := by rfl)
    (h1 : (assignEach [tg] X.env).map (·.2) = [assign tg X.env] := by rfl) : PS X (.Assign [tg] e pos) (tAsg te g) := by
  intro pins s σ H D I h
  refine wpAny_Assign_stores (thn (he pins s σ H _ I h) fun v s1 ⟨x, H1, I1, r1, q1⟩ => ?_) hs hw
  rw [h1]
  exact thn (hg pins s1 σ H1 x v _ I1 r1 q1) fun _ s2 q => q
/-- name = value -/
theorem ps_set {i : Nat} {x : Str} {e : Expr} {te : TE} {pos' : Pos} (hN : X.N.Nodup) (hi : X.N[i]? = some x) (hx : Loc X.env.scope x) (he : PE X e te) (hs : swapsWith e (some (.Name x pos')) pos.line X.env = pure false := by rfl) (hf : X.fn x = true ∨ X.env.scope.names.lookup x = some .local := by first | exact .inl rfl | exact .inr rfl | assumption) :
    PS X (.Assign [.Name x pos'] e pos) (tAsg te (gName i)) := by
  intro pins s σ H D I h
  refine wpAny_Assign_Name (thn (he pins s σ H _ I h) fun v s1 ⟨y, H1, I1, r1, q1⟩ => ?_) hs
  exact store_ok I1 hN hi hx r1 (fun s2 I2 => ⟨_, H1, I2, q1⟩) hf
/-- a, b = x, y with plain local names: stored from the right; the pair itself is not tracked (the opening rows as in PyProof/Rows/TupAssign.lean:23) -/
noncomputable def tPar (i j : Nat) (ta : TA) : TS := fun D σ H => ta σ H fun vs H1 => ∃ v w, vs = [v, w] ∧ D.nx ((σ.set i (some v)).set j (some w)) H1
/-- name op= e -/
noncomputable def tAug (i : Nat) (te : TE) (ti : TIp) : TS := fun D σ H => ∃ x, σ[i]? = some (some x) ∧ te σ H fun y H1 => ti x y H1 fun z H2 => D.nx (σ.set i (some z)) H2
/-- o[i] op= e -/
noncomputable def tAugS (to ti te : TE) (tget : V → V → Hp → VK → Prop) (tip : TIp) (tset : TSet) : TS := fun D σ H => to σ H fun o H1 => ti σ H1 fun i H2 => tget o i H2 fun x H3 => te σ H3 fun y H4 => tip x y H4 fun z H5 => tset o i z H5 fun H6 => D.nx σ H6
/-- o[i], by values -/
noncomputable def PGet (X : Cx) (t : V → V → Hp → VK → Prop) : Prop :=
  ∀ (pins : List (Addr × Obj)) (s : Shared) (σ : St) (H : Hp) (o i : V) (ov iv : Value) (Q : VK), Inv X pins σ H s → RelV o ov → RelV i iv → t o i H Q →
    wpAny (model X.prog X.w) X.A (getItem ov iv) (EP X pins σ Q) X.xe s
/-- ints -/
noncomputable def ipI (f : Int → Int → Int) : TIp := fun x y H Q => ∃ i j, x = .int i ∧ y = .int j ∧ Q (.int (f i j)) H
end

/-! ### while -/
section
variable {X : Cx} {pos : Pos}
/-- the invariant W with its measure -/
noncomputable def tWhile (c : TT) (tb : TS) : TS := fun D σ H => ∃ W : Nat → St → Hp → Prop, (∃ m, W m σ H) ∧ ∀ m σ H, W m σ H →
  c σ H fun b H1 => if b = true then ∃ N : St → Hp → Prop, (∀ σ' H', N σ' H' → ∃ m', m' < m ∧ W m' σ' H') ∧ tb { D with nx := N, ct := N, bk := D.nx } σ H1 else D.nx σ H1
theorem ps_while {c : Expr} {body : List Stmt} {tc : TT} {tb : TS} (hp : PassesOwn (model X.prog X.w) X.A X.env X.xe) (hc : PT X c tc) (hb : PSs X body tb) : PS X (.While c body [] pos) (tWhile tc tb) := by
  intro pins s σ H D I h
  obtain ⟨W, ⟨m0, w0⟩, turn⟩ := h
  refine wpAny_While (codeAny_whileLoop (fun n s' => ∃ σ' H', Inv X pins σ' H' s' ∧ W n σ' H') ?_ m0 ⟨σ, H, I, w0⟩)
  rintro n s1 ⟨σ1, H1, I1, w1⟩
  refine wpAny_passesOwn hp (thn (hc pins s1 σ1 H1 _ I1 (turn n σ1 H1 w1)) fun b s2 ⟨H2, I2, q2⟩ => ?_)
  cases b with
  | true =>
    obtain ⟨N, hN, q2⟩ := q2
    rw [if_pos rfl]
    refine wpAny_passesOwn hp (thn (hb pins s2 σ1 H2 _ I2 q2) fun f s3 q3 => ?_)
    cases f with
    | next =>
      obtain ⟨σ3, H3, I3, n3⟩ := q3
      obtain ⟨m', hm, w3⟩ := hN σ3 H3 n3
      exact ⟨m', hm, σ3, H3, I3, w3⟩
    | cont =>
      obtain ⟨σ3, H3, I3, n3⟩ := q3
      obtain ⟨m', hm, w3⟩ := hN σ3 H3 n3
      exact ⟨m', hm, σ3, H3, I3, w3⟩
    | brk => exact q3
    | ret v => exact q3
  | false =>
    rw [if_neg Bool.false_ne_true]
    exact wpAny_execs_nil ⟨σ1, H2, I2, q2⟩
end

/-! ### what a loop or a comprehension walks -/
/-- at turn i: it yields x (the heap may grow), or it stops -/
structure It where
  go : Nat → Hp → Prop
  yld : Nat → Hp → V → Hp → Prop
  stop : Nat → Hp → Prop
/-- the iterator's own objects may turn: they are not the frame's, not pinned, younger than the entry (or a comprehension's own) -/
noncomputable def FpOk (X : Cx) (pins : List (Addr × Obj)) (H : Hp) (b : Addr) : Prop :=
  H b = none ∧ b ≠ X.env.locals ∧ b ∉ X.fs ∧ (b ∈ X.ex ∨ X.s₀.heap.objs.size ≤ b) ∧ (∀ x c, X.env.cells.lookup x = some c → c ≠ b) ∧ ∀ p ∈ X.pn ++ pins, p.1 ≠ b
theorem Inv.fpOk {X : Cx} {pins : List (Addr × Obj)} {σ : St} {H H' : Hp} {s : Shared} {b : Addr} (I : Inv X pins σ H s) (hb : s.heap.objs.size ≤ b) (hn : H' b = none) : FpOk X pins H' b := by
  refine ⟨hn, Nat.ne_of_gt (Nat.lt_of_lt_of_le I.lt hb), I.nofs hb, .inr (Nat.le_trans I.sz hb), fun x c e z => ?_, fun p hp z => ?_⟩
  · obtain ⟨v, q⟩ := I.cell x c e
    exact absurd (Nat.lt_of_lt_of_le q.lt (by rw [z]; exact hb)) (Nat.lt_irrefl _)
  · exact absurd (Nat.lt_of_lt_of_le (Heap.lt_size (I.pin p hp).1) (by rw [z]; exact hb)) (Nat.lt_irrefl _)
structure Turn (P : Program) (w : World) (K : PySem.W.Frag) (tg : Expr) (J : It) (fp : List Addr) (it : Addr) (tn : Nat → Heap → Prop) : Prop where
  mem : it ∈ fp
  obj : ∀ i h, tn i h → ∀ b ∈ fp, ∃ o, h.get? b = some o ∧ ∀ v, o.data ≠ .cell v
  keep : ∀ i h h', tn i h → (∀ b ∈ fp, ∀ o, h.get? b = some o → h'.get? b = some o) → tn i h'
  item : ∀ (X : Cx), X.prog = P → X.w = w → X.K = K → X.calm = true → ∀ (i : Nat) (pins : List (Addr × Obj)) (s : Shared) (σ : St) (H : Hp) (E : Value → Shared → Prop), Inv X pins σ H s → (∀ b ∈ fp, FpOk X pins H b) → tn i s.heap → J.go i H →
    wpAny (model P w) X.A (pyNext (.ref it)) (fun r s1 => ∃ u, r = some u ∧
      wpAny (model P w) X.A (letOwnedTupleGo tg (.ref it) u) (fun _ s2 => ∃ x H', Inv X pins σ H' s2 ∧ RelV x u ∧ J.yld i H x H' ∧ tn (i + 1) s2.heap ∧ ∀ b ∈ fp, H' b = none) E s1) E s
  done : ∀ (X : Cx), X.prog = P → X.w = w → X.K = K → X.calm = true → ∀ (i : Nat) (pins : List (Addr × Obj)) (s : Shared) (σ : St) (H : Hp) (E : Value → Shared → Prop), Inv X pins σ H s → (∀ b ∈ fp, FpOk X pins H b) → tn i s.heap → J.stop i H →
    wpAny (model P w) X.A (pyNext (.ref it)) (fun r s1 => r = none ∧ Inv X pins σ H s1) E s
  self : ∀ (A : Around) (i : Nat) (s : Shared) (Q : Value → Shared → Prop) (E : Value → Shared → Prop), tn i s.heap → Q (.ref it) s → wpAny (model P w) A (pyIter (.ref it)) Q E s
noncomputable abbrev TI := St → Hp → (It → Hp → Prop) → Prop
/-- an iterator has come -/
noncomputable def PIE (X : Cx) (pins : List (Addr × Obj)) (σ : St) (tg : Expr) (R : It → Hp → Prop) (itv : Value) (s2 : Shared) : Prop :=
  ∃ (it : Addr) (fp : List Addr) (tn : Nat → Heap → Prop) (J : It) (H' : Hp), itv = .ref it ∧ Inv X pins σ H' s2 ∧ Turn X.prog X.w X.K tg J fp it tn ∧ tn 0 s2.heap ∧ (∀ b ∈ fp, FpOk X pins H' b) ∧ R J H'
noncomputable def PI (X : Cx) (tg iter : Expr) (wi : TI) : Prop :=
  ∀ (pins : List (Addr × Obj)) (s : Shared) (σ : St) (H : Hp) (R : It → Hp → Prop), Inv X pins σ H s → wi σ H R →
    wpAny (model X.prog X.w) X.A (eval iter X.env) (fun v s1 => wpAny (model X.prog X.w) X.A (pyIter v) (PIE X pins σ tg R) X.xe s1) X.xe s

/-- the step ahead of the store is nothing for an iterator that keeps no tuple -/
theorem go_of {M : Model} {A : Around} {E : Value → Shared → Prop} {s : Shared} {tg : Expr} {it : Addr} {u : Value} {o : Obj} {n : String} {vs : Array Value} {Q : Unit → Shared → Prop} (ho : s.heap.get? it = some o) (hc : o.cls = .type n) (hd : o.data = .fields vs)
    (hn : ["enumerate", "zip", "dict_itemiterator", "dict_reverseitemiterator", "odict_iterator", "itertools.zip_longest", "itertools.pairwise"].contains n = false) (hQ : Q () s) : wpAny M A (letOwnedTupleGo tg (.ref it) u) Q E s := by
  unfold letOwnedTupleGo
  cases tg <;> first
    | exact wpAny_pure hQ
    | (cases u <;> first
        | exact wpAny_pure hQ
        | (refine wpAny_bind (wpAny_load ho ?_)
           rw [hc, hd]
           show wpAny M A (if (["enumerate", "zip", "dict_itemiterator", "dict_reverseitemiterator", "odict_iterator", "itertools.zip_longest", "itertools.pairwise"].contains n && vs[0]? == some (rawInt _)) = true then _ else _) Q E s
           rw [if_neg (by intro h; rw [hn, Bool.false_and] at h; cases h)]
           exact wpAny_pure hQ))

/-- the list at a, as it stands at each turn (a loop may append to it) -/
noncomputable def Itl (K : PySem.W.Frag) (a : Addr) : It :=
  ⟨fun i H => ∃ xs x, SqL K H a xs ∧ xs[i]? = some x, fun i H x H' => H' = H ∧ ∀ xs, SqL K H a xs → xs[i]? = some x, fun i H => ∃ xs, SqL K H a xs ∧ xs.length ≤ i⟩
noncomputable def Itt (K : PySem.W.Frag) (a : Addr) : It :=
  ⟨fun i H => ∃ xs x, SqT K H a xs ∧ xs[i]? = some x, fun i H x H' => H' = H ∧ ∀ xs, SqT K H a xs → xs[i]? = some x, fun i H => ∃ xs, SqT K H a xs ∧ xs.length ≤ i⟩
/-- lo, lo + 1, .. (n of them) -/
noncomputable def Itr (lo : Int) (n : Nat) : It := ⟨fun i _ => i < n, fun i H x H' => H' = H ∧ x = .int (lo + i), fun i _ => n ≤ i⟩
theorem turn_list {P : Program} {w : World} {K : PySem.W.Frag} {tg : Expr} (a it : Addr) : Turn P w K tg (Itl K a) [it] it (fun i h => h.IsListIter it a i) where
  mem := by simp
  obj := fun i h st b hb => by
    have e : b = it := by simpa using hb
    subst e
    obtain ⟨o, e, c, d⟩ := st
    exact ⟨o, e, fun v z => by rw [d] at z; cases z⟩
  keep := fun i h h' st k => st.at fun o e => k it (by simp) o e
  item := by
    intro X hP hw hK hc i pins s σ H E I hf st hg
    subst hP hw hK
    obtain ⟨xs, x, hq, hx⟩ := hg
    obtain ⟨its, rv, p, hz⟩ := I.list hq
    obtain ⟨u, hu, ru⟩ := rv.get hx
    obtain ⟨f0, f1, f2, f3, f4, f5⟩ := hf it (by simp)
    refine wpAny_pyNext_list_item st p.isList (x := u) (by simpa using hu) fun h' st' sb => ?_
    have I1 : Inv X pins σ H { s with heap := h' } := I.turned (t' := s.toks) (fun b o hb e => (sb.2 b hb).trans e) f0 f1 f3 f4 f5
    obtain ⟨o, e, c, d⟩ := id st'
    exact ⟨u, rfl, go_of (s := { s with heap := h' }) e c d (by decide) ⟨x, H, I1, ru, ⟨rfl, fun ys hy => by rw [I.list_inj hy hq]; exact hx⟩, st', fun b hb => (hf b hb).1⟩⟩
  done := by
    intro X hP hw hK hc i pins s σ H E I hf st hg
    subst hP hw hK
    obtain ⟨xs, hq, hx⟩ := hg
    obtain ⟨its, rv, p, hz⟩ := I.list hq
    obtain ⟨f0, f1, f2, f3, f4, f5⟩ := hf it (by simp)
    have hl := rv.length
    exact wpAny_pyNext_list_end (I.ok.hd hc) st p.isList (by simp; omega) fun h' eb => ⟨rfl, I.turned (t' := s.toks) (fun b o hb e => eb b o hb e) f0 f1 f3 f4 f5⟩
  self := fun _ _ _ _ _ st h => wpAny_pyIter_listiter st h
theorem turn_tuple {P : Program} {w : World} {K : PySem.W.Frag} {tg : Expr} (a it : Addr) : Turn P w K tg (Itt K a) [it] it (fun i h => h.IsTupleIter it a i) where
  mem := by simp
  obj := fun i h st b hb => by
    have e : b = it := by simpa using hb
    subst e
    obtain ⟨o, e, c, d⟩ := st
    exact ⟨o, e, fun v z => by rw [d] at z; cases z⟩
  keep := fun i h h' st k => st.at fun o e => k it (by simp) o e
  item := by
    intro X hP hw hK hc i pins s σ H E I hf st hg
    subst hP hw hK
    obtain ⟨xs, x, hq, hx⟩ := hg
    obtain ⟨its, rv, p, hz⟩ := I.tuple hq
    obtain ⟨u, hu, ru⟩ := rv.get hx
    obtain ⟨f0, f1, f2, f3, f4, f5⟩ := hf it (by simp)
    refine wpAny_pyNext_tuple_item st (show s.heap.IsTuple a its.toArray from p) (x := u) (by simpa using hu) fun h' st' sb => ?_
    have I1 : Inv X pins σ H { s with heap := h' } := I.turned (t' := s.toks) (fun b o hb e => (sb.2 b hb).trans e) f0 f1 f3 f4 f5
    obtain ⟨o, e, c, d⟩ := id st'
    exact ⟨u, rfl, go_of (s := { s with heap := h' }) e c d (by decide) ⟨x, H, I1, ru, ⟨rfl, fun ys hy => by rw [I.tuple_inj hy hq]; exact hx⟩, st', fun b hb => (hf b hb).1⟩⟩
  done := by
    intro X hP hw hK hc i pins s σ H E I hf st hg
    subst hP hw hK
    obtain ⟨xs, hq, hx⟩ := hg
    obtain ⟨its, rv, p, hz⟩ := I.tuple hq
    obtain ⟨f0, f1, f2, f3, f4, f5⟩ := hf it (by simp)
    have hl := rv.length
    exact wpAny_pyNext_tuple_end (I.ok.hd hc) st (show s.heap.IsTuple a its.toArray from p) (by simp; omega) fun h' eb => ⟨rfl, I.turned (t' := s.toks) (fun b o hb e => eb b o hb e) f0 f1 f3 f4 f5⟩
  self := fun _ _ _ _ _ st h => wpAny_pyIter_tupleiter st h
theorem turn_range {P : Program} {w : World} {K : PySem.W.Frag} {tg : Expr} (it : Addr) (lo : Int) (n : Nat) : Turn P w K tg (Itr lo n) [it] it (fun i h => IsRangeIter h it (lo + (i : Nat) * 1) ((n : Int) - (i : Nat)) 1) where
  mem := by simp
  obj := fun i h st b hb => by
    have e : b = it := by simpa using hb
    subst e
    exact ⟨_, st, fun v z => by
      have z' : Data.fields _ = Data.cell v := z
      cases z'⟩
  keep := fun i h h' st k => k it (by simp) _ st
  item := by
    intro X hP hw hK hc i pins s σ H E I hf st hg
    subst hP hw hK
    obtain ⟨f0, f1, f2, f3, f4, f5⟩ := hf it (by simp)
    have W := Walks.range (prog := X.prog) (w := X.w) (I.ok.hd hc) it lo 1 n
    refine W.item i s _ _ hg st fun v h' tk hv st' kk => ?_
    obtain ⟨t, rfl⟩ := hv
    have I1 : Inv X pins σ H { s with heap := h', toks := tk } := I.turned (fun b o hb e => kk b o (by simpa using hb) e) f0 f1 f3 f4 f5
    refine ⟨_, rfl, go_of (s := { s with heap := h', toks := tk }) (n := "range_iterator") st' rfl rfl (by decide) ⟨.int (lo + i), H, I1, ⟨t, ?_⟩, ⟨rfl, rfl⟩, st', fun b hb => (hf b hb).1⟩⟩
    rw [Int.mul_one]
  done := by
    intro X hP hw hK hc i pins s σ H E I hf st hg
    subst hP hw hK
    obtain ⟨f0, f1, f2, f3, f4, f5⟩ := hf it (by simp)
    exact wpAny_pyNext_range_end (I.ok.hd hc) st (by have : n ≤ i := hg; omega) fun h' eb => ⟨rfl, I.turned (t' := s.toks) (fun b o hb e => eb b o hb e) f0 f1 f3 f4 f5⟩
  self := fun _ _ _ _ _ st h => wpAny_pyIter_rangeiter st h
end L2

namespace L2
open PySem PySem.Spec PyProof.Rows
section
variable {X : Cx} {tg : Expr}
noncomputable def iList (K : PySem.W.Frag) (tl : TE) : TI := fun σ H R => tl σ H fun x H1 => ∃ a, x = .ref a ∧ (∃ xs, SqL K H1 a xs) ∧ R (Itl K a) H1
noncomputable def iTup (K : PySem.W.Frag) (tl : TE) : TI := fun σ H R => tl σ H fun x H1 => ∃ a, x = .ref a ∧ (∃ xs, SqT K H1 a xs) ∧ R (Itt K a) H1
theorem pi_list {l : Expr} {tl : TE} (hl : PE X l tl) : PI X tg l (iList X.K tl) := by
  intro pins s σ H R I h
  refine thn (hl pins s σ H _ I h) fun v s1 ⟨x, H1, I1, r1, q1⟩ => ?_
  obtain ⟨a, e, ⟨xs, hq⟩, q⟩ := q1
  subst e
  cases r1
  obtain ⟨its, rv, p, hz⟩ := I1.list hq
  refine wpAny_pyIter_list p.isList ?_
  refine ⟨s1.heap.objs.size, [s1.heap.objs.size], _, _, H1, rfl, I1.kept (t' := s1.toks) fun b o e => Heap.get?_push_of_some _ e, turn_list a _, ⟨_, Heap.get?_push_size _ rfl, rfl, rfl⟩, fun b hb => ?_, q⟩
  have e : b = s1.heap.objs.size := by simpa using hb
  subst e
  exact I1.fpOk (Nat.le_refl _) (I1.hok.fresh (Nat.le_refl _))
theorem pi_tup {l : Expr} {tl : TE} (hl : PE X l tl) : PI X tg l (iTup X.K tl) := by
  intro pins s σ H R I h
  refine thn (hl pins s σ H _ I h) fun v s1 ⟨x, H1, I1, r1, q1⟩ => ?_
  obtain ⟨a, e, ⟨xs, hq⟩, q⟩ := q1
  subst e
  cases r1
  obtain ⟨its, rv, p, hz⟩ := I1.tuple hq
  refine wpAny_pyIter_tuple (show s1.heap.IsTuple a its.toArray from p) ?_
  refine ⟨s1.heap.objs.size, [s1.heap.objs.size], _, _, H1, rfl, I1.kept (t' := s1.toks) fun b o e => Heap.get?_push_of_some _ e, turn_tuple a _, ⟨_, Heap.get?_push_size _ rfl, rfl, rfl⟩, fun b hb => ?_, q⟩
  have e : b = s1.heap.objs.size := by simpa using hb
  subst e
  exact I1.fpOk (Nat.le_refl _) (I1.hok.fresh (Nat.le_refl _))
/-- a range object just made, walked -/
theorem range_it {pins : List (Addr × Obj)} {σ : St} {H : Hp} {s : Shared} {R : It → Hp → Prop} {E : Value → Shared → Prop} {lo hi : Int} {t u v : Tok} {tk : Nat} (I : Inv X pins σ H s) (h1 : -(2 ^ 62) ≤ lo) (h2 : lo < 2 ^ 62) (h3 : -(2 ^ 62) ≤ hi) (h4 : hi < 2 ^ 62)
    (q : R (Itr lo (hi - lo).toNat) H) : wpAny (model X.prog X.w) X.A (pyIter (.ref s.heap.objs.size)) (PIE X pins σ tg R) E { s with heap := s.heap.push { cls := .type "range", data := .fields #[.int lo t, .int hi u, .int 1 v] }, toks := tk } := by
  refine wpAny_pyIter_range (IsRange.new ..) (small_one h1 h2 h3 h4) ?_
  have I1 : Inv X pins σ H { s with heap := s.heap.push { cls := .type "range", data := .fields #[.int lo t, .int hi u, .int 1 v] }, toks := tk } := I.kept fun b o e => Heap.get?_push_of_some _ e
  refine ⟨(s.heap.push { cls := .type "range", data := .fields #[.int lo t, .int hi u, .int 1 v] }).objs.size, [(s.heap.push { cls := .type "range", data := .fields #[.int lo t, .int hi u, .int 1 v] }).objs.size], _, _, H, rfl,
    I1.kept (t' := tk) fun b o e => Heap.get?_push_of_some _ e, turn_range _ lo (hi - lo).toNat, ?_, fun b hb => ?_, q⟩
  · have e1 : lo + ((0 : Nat) : Int) * 1 = lo := by simp
    have e2 : (((hi - lo).toNat : Nat) : Int) - ((0 : Nat) : Int) = Builtin.Range.rangeSize lo hi 1 := by rw [rangeSize_one]; split <;> omega
    show IsRangeIter _ _ (lo + ((0 : Nat) : Int) * 1) ((((hi - lo).toNat : Nat) : Int) - ((0 : Nat) : Int)) 1
    rw [e1, e2]
    exact Heap.get?_push_size _ rfl
  · have e : b = (s.heap.push { cls := .type "range", data := .fields #[.int lo t, .int hi u, .int 1 v] }).objs.size := by simpa using hb
    subst e
    exact I1.fpOk (Nat.le_refl _) (I1.hok.fresh (Nat.le_refl _))
noncomputable def iRng1 (ta : TA) : TI := fun σ H R => ta σ H fun vs H1 => ∃ j : Int, vs = [.int j] ∧ -(2 ^ 62) ≤ j ∧ j < 2 ^ 62 ∧ R (Itr 0 j.toNat) H1
noncomputable def iRng2 (ta : TA) : TI := fun σ H R => ta σ H fun vs H1 => ∃ i j : Int, vs = [.int i, .int j] ∧ (-(2 ^ 62) ≤ i ∧ i < 2 ^ 62 ∧ -(2 ^ 62) ≤ j ∧ j < 2 ^ 62) ∧ R (Itr i (j - i).toNat) H1
theorem pi_range1 {a : Expr} {ta : TA} {p pos : Pos} (hg : Gl X "range") (hm : X.mg "range" = none) (ha : PA X [a] ta) (hs : starEach [a] X.env = [(false, eval a X.env)] := by rfl) : PI X tg (.Call (.Name "range" p) [a] [] pos) (iRng1 ta) := by
  intro pins s σ H R I h
  refine Call_ (ld_blt I hg hm boot_range (PyProof.Rows.callWith_type1 (thn (ha pos pins s σ H _ I h) fun us s1 ⟨vs, H1, I1, r1, q1⟩ => ?_) hs rfl))
  obtain ⟨j, e, q1, q2, q⟩ := q1
  subst e
  cases r1 with
  | cons r rr =>
    cases rr
    obtain ⟨t, rfl⟩ := r
    exact call_range_1 (range_it I1 (by omega) (by omega) q1 q2 (by simpa using q))

/-! ### for -/
/-- W: the invariant by the turn and a measure; N: what the body is to reach -/
noncomputable def tFor (wi : TI) (g : TG) (tb : TS) : TS := fun D σ H => wi σ H fun J H1 => ∃ W : Nat → Nat → St → Hp → Prop, (∃ m, W 0 m σ H1) ∧ ∀ i m σ H, W i m σ H →
  (J.stop i H ∧ D.nx σ H) ∨ (J.go i H ∧ ∃ N : St → Hp → Prop, (∀ σ' H', N σ' H' → ∃ m', m' < m ∧ W (i + 1) m' σ' H') ∧ ∀ x H', J.yld i H x H' → g x σ H' fun σ2 H2 => tb { D with nx := N, ct := N, bk := D.nx } σ2 H2)
/-- the records at fp as they stand -/
noncomputable def pinsAt (fp : List Addr) (h : Heap) : List (Addr × Obj) := fp.filterMap fun b => (h.get? b).map fun o => (b, o)
theorem mem_pinsAt {fp : List Addr} {h : Heap} {b : Addr} {o : Obj} (hb : b ∈ fp) (e : h.get? b = some o) : (b, o) ∈ pinsAt fp h := List.mem_filterMap.mpr ⟨b, hb, by rw [e]; rfl⟩
theorem of_pinsAt {fp : List Addr} {h : Heap} {p : Addr × Obj} (hp : p ∈ pinsAt fp h) : p.1 ∈ fp ∧ h.get? p.1 = some p.2 := by
  obtain ⟨b, hb, e⟩ := List.mem_filterMap.mp hp
  cases q : h.get? b with
  | none => rw [q] at e; cases e
  | some o =>
    rw [q] at e
    have e' : (b, o) = p := Option.some.inj e
    subst e'
    exact ⟨hb, q⟩
theorem Inv.pinned {pins : List (Addr × Obj)} {σ : St} {H : Hp} {s : Shared} {fp : List Addr} (I : Inv X pins σ H s) (hf : ∀ b ∈ fp, FpOk X pins H b) (ho : ∀ b ∈ fp, ∃ o, s.heap.get? b = some o ∧ ∀ v, o.data ≠ .cell v) : Inv X (pins ++ pinsAt fp s.heap) σ H s :=
  I.pins_of fun p hp => (List.mem_append.mp hp).elim (fun z => I.pin p (List.mem_append_right _ z)) fun z => by
    obtain ⟨hb, e⟩ := of_pinsAt z
    obtain ⟨f0, f1, f2, _⟩ := hf p.1 hb
    obtain ⟨o, e', d⟩ := ho p.1 hb
    rw [e] at e'; cases e'
    exact ⟨e, f0, f1, f2, d⟩
theorem Inv.unpinned {pins pl : List (Addr × Obj)} {σ : St} {H : Hp} {s : Shared} (I : Inv X (pins ++ pl) σ H s) : Inv X pins σ H s := I.pins_of fun p hp => I.pin p (List.mem_append_right _ (List.mem_append_left _ hp))
theorem ps_for {iter : Expr} {body : List Stmt} {wi : TI} {g : TG} {tb : TS} {pos : Pos} (hp : PassesOwn (model X.prog X.w) X.A X.env X.xe) (hc : X.calm = true) (hi : PI X tg iter wi) (hg : PG X tg g) (hb : PSs X body tb)
    (hs : ∀ x, foldedSetIterable iter X.env x = pure x := by intro _; rfl) : PS X (.For tg iter body [] pos) (tFor wi g tb) := by
  intro pins s σ H D I h
  refine wpAny_For (thn (hi pins s σ H _ I h) fun v s1 h1 => thn h1 fun itv s2 h2 => ?_) hs
  obtain ⟨it, fp, tn, J, H2, e, I2, T, st2, f2, W, ⟨m0, w0⟩, turn⟩ := h2
  subst e
  -- what stays true of the iterator's objects through the loop
  have stat : ∀ {H' : Hp}, (∀ b ∈ fp, H' b = none) → ∀ b ∈ fp, FpOk X pins H' b := fun hn b hb => ⟨hn b hb, (f2 b hb).2⟩
  refine codeAny_forLoop_any (fun n s' => ∃ i σ' H', Inv X pins σ' H' s' ∧ tn i s'.heap ∧ (∀ b ∈ fp, H' b = none) ∧ W i n σ' H') ?_ m0 ⟨0, σ, H2, I2, st2, fun b hb => (f2 b hb).1, w0⟩
  rintro n s3 ⟨i, σ3, H3, I3, st3, fr3, w3⟩
  rcases turn i n σ3 H3 w3 with ⟨stop, qn⟩ | ⟨go, N, hN, step⟩
  · refine wpAny_passesOwn hp (thn (T.done X rfl rfl rfl hc i pins s3 σ3 H3 X.xe I3 (stat fr3) st3 stop) fun r s4 ⟨hr, I4⟩ => ?_)
    subst hr
    exact wpAny_execs_nil ⟨σ3, H3, I4, qn⟩
  · refine wpAny_passesOwn hp (thn (T.item X rfl rfl rfl hc i pins s3 σ3 H3 X.xe I3 (stat fr3) st3 go) fun r s4 ⟨u, hr, h4⟩ => ?_)
    subst hr
    refine wpAny_passesOwn hp (thn h4 fun _ s5 ⟨x, H5, I5, r5, y5, st5, fr5⟩ => ?_)
    have I5' := I5.pinned (stat fr5) (T.obj _ _ st5)
    refine wpAny_passesOwn hp (thn (hg _ s5 σ3 H5 x u _ I5' r5 (step x H5 y5)) fun _ s6 ⟨σ6, H6, I6, q6⟩ => ?_)
    refine wpAny_passesOwn hp (thn (hb _ s6 σ6 H6 _ I6 q6) fun f s7 q7 => ?_)
    have again : ∀ {σ7 : St} {H7 : Hp}, Inv X (pins ++ pinsAt fp s5.heap) σ7 H7 s7 → N σ7 H7 → ∃ m, m < n ∧ ∃ i σ' H', Inv X pins σ' H' s7 ∧ tn i s7.heap ∧ (∀ b ∈ fp, H' b = none) ∧ W i m σ' H' := fun {σ7 H7} I7 n7 => by
      obtain ⟨m', hm, w7⟩ := hN σ7 H7 n7
      refine ⟨m', hm, i + 1, σ7, H7, I7.unpinned, T.keep _ _ _ st5 fun b hb o e => (I7.pin (b, o) (List.mem_append_right _ (List.mem_append_right _ (mem_pinsAt hb e)))).1, fun b hb => ?_, w7⟩
      obtain ⟨o, e, d⟩ := T.obj _ _ st5 b hb
      exact (I7.pin (b, o) (List.mem_append_right _ (List.mem_append_right _ (mem_pinsAt hb e)))).2.1
    cases f with
    | next => obtain ⟨σ7, H7, I7, n7⟩ := q7; exact again I7 n7
    | cont => obtain ⟨σ7, H7, I7, n7⟩ := q7; exact again I7 n7
    | brk => obtain ⟨σ7, H7, I7, q7⟩ := q7; exact ⟨σ7, H7, I7.unpinned, q7⟩
    | ret v => obtain ⟨x7, σ7, H7, I7, r7, q7⟩ := q7; exact ⟨x7, σ7, H7, I7.unpinned, r7, q7⟩
end

/-! ### the forms one uses -/
/-- over a list that the body leaves as it is -/
theorem for_list {K : PySem.W.Frag} {a : Addr} {xs : List V} {g : TG} {tb : TS} {D : Ends} {σ : St} {H : Hp} (Pv : Nat → St → Hp → Prop) (h0 : Pv 0 σ H) (hl : ∀ i σ H, i ≤ xs.length → Pv i σ H → SqL K H a xs)
    (hs : ∀ i x σ H, xs[i]? = some x → Pv i σ H → g x σ H fun σ2 H2 => tb { D with nx := Pv (i + 1), ct := Pv (i + 1), bk := D.nx } σ2 H2) (hd : ∀ σ H, Pv xs.length σ H → D.nx σ H) :
    ∃ W : Nat → Nat → St → Hp → Prop, (∃ m, W 0 m σ H) ∧ ∀ i m σ H, W i m σ H →
      ((Itl K a).stop i H ∧ D.nx σ H) ∨ ((Itl K a).go i H ∧ ∃ N : St → Hp → Prop, (∀ σ' H', N σ' H' → ∃ m', m' < m ∧ W (i + 1) m' σ' H') ∧ ∀ x H', (Itl K a).yld i H x H' → g x σ H' fun σ2 H2 => tb { D with nx := N, ct := N, bk := D.nx } σ2 H2) := by
  refine ⟨fun i m σ H => m = xs.length - i ∧ i ≤ xs.length ∧ Pv i σ H, ⟨xs.length, by simp, Nat.zero_le _, h0⟩, ?_⟩
  rintro i m σ H ⟨rfl, hi, p⟩
  have q := hl i σ H hi p
  by_cases hlt : i < xs.length
  · refine .inr ⟨⟨xs, xs[i], q, by simp [hlt]⟩, Pv (i + 1), fun σ' H' p' => ⟨xs.length - (i + 1), by omega, rfl, hlt, p'⟩, fun x H' y => ?_⟩
    obtain ⟨e, y⟩ := y
    subst e
    exact hs i x σ _ (y xs q) p
  · have e : i = xs.length := by omega
    subst e
    exact .inl ⟨⟨xs, q, Nat.le_refl _⟩, hd σ H p⟩
theorem for_tup {K : PySem.W.Frag} {a : Addr} {xs : List V} {g : TG} {tb : TS} {D : Ends} {σ : St} {H : Hp} (Pv : Nat → St → Hp → Prop) (h0 : Pv 0 σ H) (hl : ∀ i σ H, i ≤ xs.length → Pv i σ H → SqT K H a xs)
    (hs : ∀ i x σ H, xs[i]? = some x → Pv i σ H → g x σ H fun σ2 H2 => tb { D with nx := Pv (i + 1), ct := Pv (i + 1), bk := D.nx } σ2 H2) (hd : ∀ σ H, Pv xs.length σ H → D.nx σ H) :
    ∃ W : Nat → Nat → St → Hp → Prop, (∃ m, W 0 m σ H) ∧ ∀ i m σ H, W i m σ H →
      ((Itt K a).stop i H ∧ D.nx σ H) ∨ ((Itt K a).go i H ∧ ∃ N : St → Hp → Prop, (∀ σ' H', N σ' H' → ∃ m', m' < m ∧ W (i + 1) m' σ' H') ∧ ∀ x H', (Itt K a).yld i H x H' → g x σ H' fun σ2 H2 => tb { D with nx := N, ct := N, bk := D.nx } σ2 H2) := by
  refine ⟨fun i m σ H => m = xs.length - i ∧ i ≤ xs.length ∧ Pv i σ H, ⟨xs.length, by simp, Nat.zero_le _, h0⟩, ?_⟩
  rintro i m σ H ⟨rfl, hi, p⟩
  have q := hl i σ H hi p
  by_cases hlt : i < xs.length
  · refine .inr ⟨⟨xs, xs[i], q, by simp [hlt]⟩, Pv (i + 1), fun σ' H' p' => ⟨xs.length - (i + 1), by omega, rfl, hlt, p'⟩, fun x H' y => ?_⟩
    obtain ⟨e, y⟩ := y
    subst e
    exact hs i x σ _ (y xs q) p
  · have e : i = xs.length := by omega
    subst e
    exact .inl ⟨⟨xs, q, Nat.le_refl _⟩, hd σ H p⟩
theorem for_range {lo : Int} {n : Nat} {g : TG} {tb : TS} {D : Ends} {σ : St} {H : Hp} (Pv : Nat → St → Hp → Prop) (h0 : Pv 0 σ H)
    (hs : ∀ i σ H, i < n → Pv i σ H → g (.int (lo + i)) σ H fun σ2 H2 => tb { D with nx := Pv (i + 1), ct := Pv (i + 1), bk := D.nx } σ2 H2) (hd : ∀ σ H, Pv n σ H → D.nx σ H) :
    ∃ W : Nat → Nat → St → Hp → Prop, (∃ m, W 0 m σ H) ∧ ∀ i m σ H, W i m σ H →
      ((Itr lo n).stop i H ∧ D.nx σ H) ∨ ((Itr lo n).go i H ∧ ∃ N : St → Hp → Prop, (∀ σ' H', N σ' H' → ∃ m', m' < m ∧ W (i + 1) m' σ' H') ∧ ∀ x H', (Itr lo n).yld i H x H' → g x σ H' fun σ2 H2 => tb { D with nx := N, ct := N, bk := D.nx } σ2 H2) := by
  refine ⟨fun i m σ H => m = n - i ∧ i ≤ n ∧ Pv i σ H, ⟨n, by simp, Nat.zero_le _, h0⟩, ?_⟩
  rintro i m σ H ⟨rfl, hi, p⟩
  by_cases hlt : i < n
  · refine .inr ⟨hlt, Pv (i + 1), fun σ' H' p' => ⟨n - (i + 1), by omega, rfl, hlt, p'⟩, fun x H' y => ?_⟩
    obtain ⟨e, y⟩ := y
    subst e y
    exact hs i σ _ hlt p
  · have e : i = n := by omega
    subst e
    exact .inl ⟨Nat.le_refl _, hd σ H p⟩
end L2

namespace L2
open PySem PySem.Spec PyProof.Rows

noncomputable abbrev R2 := V → V → Hp → VK → Prop
/-- a two-place operation on values: f is binaryOp op, inplaceOp op or compareOp op -/
noncomputable def OpR (X : Cx) (f : Value → Value → Sem Value) (r : R2) : Prop :=
  ∀ (pins : List (Addr × Obj)) (s : Shared) (σ : St) (H : Hp) (x y : V) (v u : Value) (Q : VK), Inv X pins σ H s → RelV x v → RelV y u → r x y H Q →
    wpAny (model X.prog X.w) X.A (f v u) (EP X pins σ Q) X.xe s
/-- a one-place operation -/
noncomputable def UnR (X : Cx) (f : Value → Sem Value) (r : V → Hp → VK → Prop) : Prop :=
  ∀ (pins : List (Addr × Obj)) (s : Shared) (σ : St) (H : Hp) (x : V) (v : Value) (Q : VK), Inv X pins σ H s → RelV x v → r x H Q →
    wpAny (model X.prog X.w) X.A (f v) (EP X pins σ Q) X.xe s
/-- a call of a value that is known (a builtin, a type) with values -/
noncomputable def CallR (X : Cx) (f : Value) (r : List V → Hp → VK → Prop) : Prop :=
  ∀ (pins : List (Addr × Obj)) (s : Shared) (σ : St) (H : Hp) (xs : List V) (us : List Value) (Q : VK), Inv X pins σ H s → Vals xs us → r xs H Q →
    wpAny (model X.prog X.w) X.A (call f us) (EP X pins σ Q) X.xe s
/-- a value's truth -/
noncomputable def TruR (X : Cx) (r : V → Hp → (Bool → Hp → Prop) → Prop) : Prop :=
  ∀ (pins : List (Addr × Obj)) (s : Shared) (σ : St) (H : Hp) (x : V) (v : Value) (Q : Bool → Hp → Prop), Inv X pins σ H s → RelV x v → r x H Q →
    wpAny (model X.prog X.w) X.A (truthy v) (TP X pins σ Q) X.xe s

noncomputable def tOp (r : R2) (ta tb : TE) : TE := fun σ H Q => ta σ H fun x H1 => tb σ H1 fun y H2 => r x y H2 Q
noncomputable def tUn (r : V → Hp → VK → Prop) (ta : TE) : TE := fun σ H Q => ta σ H fun x H1 => r x H1 Q
/-- ints in, under C, and a value out -/
noncomputable def rI (C : Int → Int → Prop) (g : Int → Int → V) : R2 := fun x y H Q => ∃ i j, x = .int i ∧ y = .int j ∧ C i j ∧ Q (g i j) H
noncomputable def rI0 (g : Int → Int → V) : R2 := fun x y H Q => ∃ i j, x = .int i ∧ y = .int j ∧ Q (g i j) H
noncomputable def rU (g : Int → V) : V → Hp → VK → Prop := fun x H Q => ∃ i, x = .int i ∧ Q (g i) H

section
variable {X : Cx} {a b c : Expr} {ta tb tc : TE} {pos : Pos}

theorem binT (ha : PE X a ta) (hb : PE X b tb) {pins : List (Addr × Obj)} {s : Shared} {σ : St} {H : Hp} {R : V → V → Hp → Prop} (I : Inv X pins σ H s)
    (h : ta σ H fun x H1 => tb σ H1 fun y H2 => R x y H2) {Q : Value → Shared → Prop} {f : Value → Value → Sem Value}
    (hf : ∀ v u s2 x y H2, Inv X pins σ H2 s2 → RelV x v → RelV y u → R x y H2 → wpAny (model X.prog X.w) X.A (f v u) Q X.xe s2) :
    wpAny (model X.prog X.w) X.A (eval a X.env) (fun v s₁ => wpAny (model X.prog X.w) X.A (eval b X.env) (fun u s₂ => wpAny (model X.prog X.w) X.A (f v u) Q X.xe s₂) X.xe s₁) X.xe s := by
  refine thn (ha pins s σ H _ I h) fun v s1 ⟨x, H1, I1, r1, q1⟩ => ?_
  refine thn (hb pins s1 σ H1 _ I1 q1) fun u s2 ⟨y, H2, I2, r2, q2⟩ => ?_
  exact hf v u s2 x y H2 I2 r1 r2 q2

theorem pe_op {op : Operator} {r : R2} (ho : OpR X (binaryOp op) r) (ha : PE X a ta) (hb : PE X b tb) : PE X (.BinOp a op b pos) (tOp r ta tb) := by
  intro pins s σ H Q I h
  exact wpAny_BinOp (binT ha hb I h fun v u s2 x y H2 I2 rx ry q => ho pins s2 σ H2 x y v u Q I2 rx ry q)

/-! ### ints -/
theorem opI {f : Value → Value → Sem Value} {C : Int → Int → Prop} {g : Int → Int → Int}
    (rule : ∀ (i j : Int) (t u : Tok) (s : Shared) (Q : Value → Shared → Prop) (E : Value → Shared → Prop), C i j → Q (.int (g i j) s.toks) { s with toks := s.toks + 1 } → wpAny (model X.prog X.w) X.A (f (.int i t) (.int j u)) Q E s) :
    OpR X f (rI C fun i j => .int (g i j)) := by
  intro pins s σ H x y v u Q I rx ry h
  obtain ⟨i, j, rfl, rfl, hc, q⟩ := h
  obtain ⟨t, rfl⟩ := rx
  obtain ⟨t', rfl⟩ := ry
  exact rule i j t t' s _ _ hc ⟨.int (g i j), H, I.tok _, ⟨_, rfl⟩, q⟩
theorem opI0 {f : Value → Value → Sem Value} {g : Int → Int → Int}
    (rule : ∀ (i j : Int) (t u : Tok) (s : Shared) (Q : Value → Shared → Prop) (E : Value → Shared → Prop), Q (.int (g i j) s.toks) { s with toks := s.toks + 1 } → wpAny (model X.prog X.w) X.A (f (.int i t) (.int j u)) Q E s) :
    OpR X f (rI0 fun i j => .int (g i j)) := by
  intro pins s σ H x y v u Q I rx ry h
  obtain ⟨i, j, rfl, rfl, q⟩ := h
  obtain ⟨t, rfl⟩ := rx
  obtain ⟨t', rfl⟩ := ry
  exact rule i j t t' s _ _ ⟨.int (g i j), H, I.tok _, ⟨_, rfl⟩, q⟩
theorem opB0 {f : Value → Value → Sem Value} {g : Int → Int → Bool}
    (rule : ∀ (i j : Int) (t u : Tok) (s : Shared) (Q : Value → Shared → Prop) (E : Value → Shared → Prop), Q (.bool (g i j)) s → wpAny (model X.prog X.w) X.A (f (.int i t) (.int j u)) Q E s) :
    OpR X f (rI0 fun i j => .bl (g i j)) := by
  intro pins s σ H x y v u Q I rx ry h
  obtain ⟨i, j, rfl, rfl, q⟩ := h
  obtain ⟨t, rfl⟩ := rx
  obtain ⟨t', rfl⟩ := ry
  exact rule i j t t' s _ _ ⟨.bl (g i j), H, I, rfl, q⟩

noncomputable def CDiv (i j : Int) : Prop := 0 < j ∧ j < 1073741824
noncomputable def CDivN (i j : Int) : Prop := j ≠ 0 ∧ j.natAbs < 1073741824
noncomputable def CPow (i j : Int) : Prop := 0 ≤ j ∧ j ≤ 1000000 ∧ i.natAbs < 2 ^ 64
noncomputable def CMul (i j : Int) : Prop := (-(2 ^ 64) < i ∧ i < 2 ^ 64) ∨ (-(2 ^ 64) < j ∧ j < 2 ^ 64)
theorem CMul.ok {i j : Int} (h : CMul i j) : IntMulOk i j := by
  rcases h with ⟨h1, h2⟩ | ⟨h1, h2⟩
  · exact .of_left (intBits_le_64 h1 h2)
  · exact .of_right (intBits_le_64 h1 h2)

theorem op_add : OpR X (binaryOp .Add) (rI0 fun i j => .int (i + j)) := opI0 fun _ _ _ _ _ _ _ q => add_int q
theorem op_mul : OpR X (binaryOp .Mult) (rI CMul fun i j => .int (i * j)) := opI fun _ _ _ _ _ _ _ hc q => mul_int q hc.ok
/-- % by a positive divisor of any size -/
theorem op_mod : OpR X (binaryOp .Mod) (rI (fun _ j => 0 < j) fun i j => .int (i % j)) := opI fun i j _ _ _ _ _ hc q => by
  have h1 : (0 : Int) < j := hc
  exact mod_int' (by omega) (by rw [Int.fmod_eq_emod_of_nonneg i (by omega)]; exact q)
theorem op_pow : OpR X (binaryOp .Pow) (rI CPow fun i j => .int (i ^ j.toNat)) := opI fun _ _ _ _ _ _ _ hc q => pow_int_small hc.1 hc.2.1 hc.2.2 q



/-! ### bools among ints: n += (a < b) -/
end

/-! ### comparisons -/
/-- the scalars that == tells apart as data does -/
noncomputable def scal : V → V → Bool
  | .non, .non => true | .non, .int _ => true | .int _, .non => true | .non, .bl _ => true | .bl _, .non => true | .non, .str _ => true | .str _, .non => true
  | .int _, .int _ => true | .bl _, .bl _ => true | .str _, .str _ => true | .byt _, .byt _ => true
  | .int _, .str _ => true | .str _, .int _ => true | .bl _, .str _ => true | .str _, .bl _ => true
  | _, _ => false
noncomputable def rEq : R2 := fun x y H Q => scal x y = true ∧ Q (.bl (decide (x = y))) H
noncomputable def rNe : R2 := fun x y H Q => scal x y = true ∧ Q (.bl (!decide (x = y))) H

theorem dec_int {i j : Int} : decide (V.int i = V.int j) = (i == j) := by
  rw [Bool.eq_iff_iff]
  simp
theorem dec_bl {i j : Bool} : decide (V.bl i = V.bl j) = (i == j) := by
  rw [Bool.eq_iff_iff]
  simp
theorem dec_str {i j : Str} : decide (V.str i = V.str j) = (i == j) := by
  rw [Bool.eq_iff_iff]
  simp
theorem dec_byt {i j : Array UInt8} : decide (V.byt i = V.byt j) = (i.toList == j.toList) := by
  rw [Bool.eq_iff_iff]
  cases i
  cases j
  simp

section
variable {X : Cx} {a b c : Expr} {ta tb tc : TE} {pos : Pos}
theorem fin_bl {pins : List (Addr × Obj)} {σ : St} {H : Hp} {s : Shared} {Q : VK} {k k' : Bool} (I : Inv X pins σ H s) (q : Q (.bl k) H) (e : k = k') : EP X pins σ Q (.bool k') s := by
  subst e
  exact ⟨.bl k, H, I, rfl, q⟩
theorem op_eq : OpR X (compareOp .Eq) rEq := by
  intro pins s σ H x y v u Q I rx ry h
  obtain ⟨hs, q⟩ := h
  cases x with
  | non =>
    cases rx
    cases y with
    | non => cases ry; exact PySem.EqNone.eq_none_none (fin_bl I q (by simp))
    | bl j => cases ry; exact PySem.EqNone.eq_none_bool (fin_bl I q (by simp))
    | int j => obtain ⟨t', rfl⟩ := ry; exact PySem.EqNone.eq_none_int (fin_bl I q (by simp))
    | str j => obtain ⟨t', rfl⟩ := ry; exact PySem.EqNone.eq_none_str (fin_bl I q (by simp))
    | _ => exact absurd (show false = true from hs) Bool.false_ne_true
  | bl i =>
    cases rx
    cases y with
    | non => cases ry; exact PySem.EqNone.eq_bool_none (fin_bl I q (by simp))
    | bl j => cases ry; exact eq_bool (fin_bl I q dec_bl)
    | str j => obtain ⟨t', rfl⟩ := ry; exact PySem.EqMixed.eq_bool_str (fin_bl I q (by simp))
    | _ => exact absurd (show false = true from hs) Bool.false_ne_true
  | int i =>
    obtain ⟨t, rfl⟩ := rx
    cases y with
    | non => cases ry; exact PySem.EqNone.eq_int_none (fin_bl I q (by simp))
    | int j => obtain ⟨t', rfl⟩ := ry; exact eq_int (fin_bl I q dec_int)
    | str j => obtain ⟨t', rfl⟩ := ry; exact PySem.EqMixed.eq_int_str (fin_bl I q (by simp))
    | _ => exact absurd (show false = true from hs) Bool.false_ne_true
  | str i =>
    obtain ⟨t, rfl⟩ := rx
    cases y with
    | non => cases ry; exact PySem.EqNone.eq_str_none (fin_bl I q (by simp))
    | bl j => cases ry; exact PySem.EqMixed.eq_str_bool (fin_bl I q (by simp))
    | int j => obtain ⟨t', rfl⟩ := ry; exact PySem.EqMixed.eq_str_int (fin_bl I q (by simp))
    | str j => obtain ⟨t', rfl⟩ := ry; exact eq_str (fin_bl I q dec_str)
    | _ => exact absurd (show false = true from hs) Bool.false_ne_true
  | byt i =>
    obtain ⟨t, rfl⟩ := rx
    cases y with
    | byt j => obtain ⟨t', rfl⟩ := ry; exact PySem.W.eq_bytes (fin_bl I q dec_byt)
    | _ => exact absurd (show false = true from hs) Bool.false_ne_true
  | _ => cases y <;> exact absurd (show false = true from hs) Bool.false_ne_true
theorem op_ne : OpR X (compareOp .NotEq) rNe := by
  intro pins s σ H x y v u Q I rx ry h
  obtain ⟨hs, q⟩ := h
  cases x with
  | non =>
    cases rx
    cases y with
    | non => cases ry; exact PySem.EqNone.ne_none_none (fin_bl I q (by simp))
    | bl j => cases ry; exact PySem.EqNone.ne_none_bool (fin_bl I q (by simp))
    | int j => obtain ⟨t', rfl⟩ := ry; exact PySem.EqNone.ne_none_int (fin_bl I q (by simp))
    | str j => obtain ⟨t', rfl⟩ := ry; exact PySem.EqNone.ne_none_str (fin_bl I q (by simp))
    | _ => exact absurd (show false = true from hs) Bool.false_ne_true
  | bl i =>
    cases rx
    cases y with
    | non => cases ry; exact PySem.EqNone.ne_bool_none (fin_bl I q (by simp))
    | bl j => cases ry; exact ne_bool (fin_bl I q (congrArg not dec_bl))
    | str j => obtain ⟨t', rfl⟩ := ry; exact PySem.EqMixed.ne_bool_str (fin_bl I q (by simp))
    | _ => exact absurd (show false = true from hs) Bool.false_ne_true
  | int i =>
    obtain ⟨t, rfl⟩ := rx
    cases y with
    | non => cases ry; exact PySem.EqNone.ne_int_none (fin_bl I q (by simp))
    | int j => obtain ⟨t', rfl⟩ := ry; exact ne_int (fin_bl I q (congrArg not dec_int))
    | str j => obtain ⟨t', rfl⟩ := ry; exact PySem.EqMixed.ne_int_str (fin_bl I q (by simp))
    | _ => exact absurd (show false = true from hs) Bool.false_ne_true
  | str i =>
    obtain ⟨t, rfl⟩ := rx
    cases y with
    | non => cases ry; exact PySem.EqNone.ne_str_none (fin_bl I q (by simp))
    | bl j => cases ry; exact PySem.EqMixed.ne_str_bool (fin_bl I q (by simp))
    | int j => obtain ⟨t', rfl⟩ := ry; exact PySem.EqMixed.ne_str_int (fin_bl I q (by simp))
    | str j => obtain ⟨t', rfl⟩ := ry; exact ne_str (fin_bl I q (congrArg not dec_str))
    | _ => exact absurd (show false = true from hs) Bool.false_ne_true
  | byt i =>
    obtain ⟨t, rfl⟩ := rx
    cases y with
    | byt j => obtain ⟨t', rfl⟩ := ry; exact PySem.W.ne_bytes (fin_bl I q (congrArg not dec_byt))
    | _ => exact absurd (show false = true from hs) Bool.false_ne_true
  | _ => cases y <;> exact absurd (show false = true from hs) Bool.false_ne_true

theorem op_lt : OpR X (compareOp .Lt) (rI0 fun i j => .bl (decide (i < j))) := opB0 fun _ _ _ _ _ _ _ q => lt_int q
theorem op_gt : OpR X (compareOp .Gt) (rI0 fun i j => .bl (decide (j < i))) := opB0 fun _ _ _ _ _ _ _ q => gt_int q
theorem op_ge : OpR X (compareOp .GtE) (rI0 fun i j => .bl (decide (j ≤ i))) := opB0 fun _ _ _ _ _ _ _ q => ge_int q


/-- is, is not of two objects that are tracked lists or instances -/
noncomputable def isObj : HO → Bool
  | .lst _ => true
  | .ins _ _ _ => true
  | _ => false


theorem nomark (b : Expr) {op : CmpOp} (h : op ≠ .In := by decide) (h2 : op ≠ .NotIn := by decide) : behindInMarks op b = false := by
  have e1 : (op == CmpOp.In) = false := by cases op <;> first | rfl | exact absurd rfl h
  have e2 : (op == CmpOp.NotIn) = false := by cases op <;> first | rfl | exact absurd rfl h2
  cases b <;> simp [behindInMarks, e1, e2]
/-- a comparison as a value; hm: nomark b, or (for in, not in) by with_unfolding_all rfl -/
theorem pe_cmpR {op : CmpOp} {r : R2} (ho : OpR X (compareOp op) r) (ha : PE X a ta) (hb : PE X b tb) (hm : behindInMarks op b = false) : PE X (.Compare a [op] [b] pos) (tOp r ta tb) := by
  intro pins s σ H Q I h
  exact wpAny_Compare1 (binT ha hb I h fun v u s2 x y H2 I2 rx ry q => ho pins s2 σ H2 x y v u Q I2 rx ry q) hm
/-- a reading of a value as a test -/
noncomputable def tTest (t : TE) : TT := fun σ H Q => t σ H fun x H' => ∃ k, x = .bl k ∧ Q k H'
theorem pt_cmpR {op : CmpOp} {r : R2} (ho : OpR X (compareOp op) r) (ha : PE X a ta) (hb : PE X b tb) (hm : behindInMarks op b = false) : PT X (.Compare a [op] [b] pos) (tTest (tOp r ta tb)) := by
  intro pins s σ H Q I h
  refine wpAny_isTrue_Compare1 (thn (ha pins s σ H _ I h) fun v s1 ⟨x, H1, I1, r1, q1⟩ => thn (hb pins s1 σ H1 _ I1 q1) fun u s2 ⟨y, H2, I2, r2, q2⟩ =>
    thn (ho pins s2 σ H2 x y v u _ I2 r1 r2 q2) fun c s3 ⟨z, H3, I3, r3, k, e, q3⟩ => ?_) hm
  subst e
  cases r3
  exact wpAny_truthy_bool ⟨H3, I3, q3⟩
/-- a op1 b op2 c -/
noncomputable def tChain (r r' : R2) (ta tb tc : TE) : TE := fun σ H Q => ta σ H fun x H1 => tb σ H1 fun y H2 => r x y H2 fun z H3 => ∃ k, z = .bl k ∧
  (if k = true then tc σ H3 fun w' H4 => r' y w' H4 Q else Q (.bl false) H3)

/-! ### truth -/
/-- a value's truth by the abstract heap -/
noncomputable def TruV (K : PySem.W.Frag) (x : V) (H : Hp) (k : Bool) : Prop :=
  match x with
  | .non => k = false
  | .bl b => k = b
  | .int i => k = (i != 0)
  | .str y => y.length ≤ sizeLine ∧ k = ((y.length : Int) != 0)
  | .byt y => y.size ≤ sizeLine ∧ k = ((y.size : Int) != 0)
  | .ref p => (∃ xs, SqL K H p xs ∧ k = !xs.isEmpty) ∨ (∃ xs, SqT K H p xs ∧ k = !xs.isEmpty) ∨ ∃ kvs, H p = some (.dK kvs) ∧ k = !kvs.isEmpty
  | _ => False
theorem isEmpty_kv {κ : Type} {kvs : List (κ × V)} {vs : List (κ × Value)} (r : KV kvs vs) : (!vs.isEmpty) = !kvs.isEmpty := by
  cases r <;> rfl
theorem isEmpty_of {xs : List V} {its : List Value} (r : Vals xs its) : (!its.toArray.isEmpty) = !xs.isEmpty := by
  cases r <;> simp
theorem line63 : (sizeLine : Nat) < 2 ^ 63 := by rw [sizeLine_eq]; decide
theorem tru_ok : TruR X (fun x H Q => ∃ k, TruV X.K x H k ∧ Q k H) := by
  intro pins s σ H x v Q I rx h
  obtain ⟨k, e, q⟩ := h
  have hl := line63
  have hs : sizeLine = 16777216 := sizeLine_eq
  cases x with
  | non =>
    cases rx
    have e' : k = false := e
    subst e'
    exact truthy_none ⟨H, I, q⟩
  | bl b =>
    cases rx
    have e' : k = b := e
    subst e'
    exact wpAny_truthy_bool ⟨H, I, q⟩
  | int i =>
    obtain ⟨t, rfl⟩ := rx
    have e' : k = (i != 0) := e
    subst e'
    exact PySem.P.truthy_int ⟨H, I, q⟩
  | str y =>
    obtain ⟨t, rfl⟩ := rx
    obtain ⟨hy, e'⟩ : y.length ≤ sizeLine ∧ k = ((y.length : Int) != 0) := e
    subst e'
    exact PySem.P.truthy_str (by omega) ⟨H, I.tok _, q⟩
  | byt y =>
    obtain ⟨t, rfl⟩ := rx
    obtain ⟨hy, e'⟩ : y.size ≤ sizeLine ∧ k = ((y.size : Int) != 0) := e
    subst e'
    exact PySem.W.truthy_bytes (by omega) ⟨H, I.tok _, q⟩
  | ref p =>
    cases rx
    have e' : (∃ xs, SqL X.K H p xs ∧ k = !xs.isEmpty) ∨ (∃ xs, SqT X.K H p xs ∧ k = !xs.isEmpty) ∨ ∃ kvs, H p = some (.dK kvs) ∧ k = !kvs.isEmpty := e
    rcases e' with ⟨xs, hx, e'⟩ | ⟨xs, hx, e'⟩ | ⟨kvs, hx, e'⟩
    · subst e'
      obtain ⟨its, r, pl, hz⟩ := I.list hx
      have hlen := r.length
      exact wpAny_truthy_list pl.isList (by simp only [List.size_toArray]; omega) ⟨H, I.tok _, by rw [isEmpty_of r]; exact q⟩
    · subst e'
      obtain ⟨its, r, pl, hz⟩ := I.tuple hx
      have hlen := r.length
      exact truthy_tuple pl (by simp only [List.size_toArray]; omega) ⟨H, I.tok _, by rw [isEmpty_of r]; exact q⟩
    · subst e'
      obtain ⟨hz, hS, vs, r, m⟩ : kvs.length ≤ sizeLine ∧ (p == sysModules) = false ∧ ∃ vs, KV kvs vs ∧ s.heap.DictOf (mixKind X.prog X.w) p vs := I.hok p _ hx
      have hlen : kvs.length = vs.length := Paired.length r
      exact wpAny_truthy_dict hS m (by omega) ⟨H, I.tok _, by rw [isEmpty_kv r]; exact q⟩
  | _ => exact (show False from e).elim
/-- any expression whose test is its value's truth (a name, a call, a subscript, a field ..: he by fun _ => rfl) -/
theorem pt_truth (ha : PE X a ta) (he : ∀ whole, isTrue a X.env whole = (do let v ← whole; standAt a.pos; holding [v] (truthy v))) :
    PT X a (fun σ H Q => ta σ H fun x H' => ∃ k, TruV X.K x H' k ∧ Q k H') := by
  intro pins s σ H Q I h
  exact isTrue_plain (thn (ha pins s σ H _ I h) fun v s1 ⟨x, H1, I1, r1, q1⟩ => tru_ok pins s1 σ H1 x v Q I1 r1 q1) (he _)

/-! ### strs and bytes -/
theorem op_add_str : OpR X (binaryOp .Add) (fun x y H Q => ∃ i j, x = .str i ∧ y = .str j ∧ i.length + j.length ≤ sizeLine ∧ Q (.str (i ++ j)) H) := by
  intro pins s σ H x y v u Q I rx ry h
  obtain ⟨i, j, rfl, rfl, hz, q⟩ := h
  obtain ⟨t, rfl⟩ := rx
  obtain ⟨t', rfl⟩ := ry
  exact add_str (fun t' tk => ⟨.str (i ++ j), H, I.tok _, ⟨_, rfl⟩, q⟩) hz

noncomputable def PlainIxT (b : Expr) : Prop := ∀ o i, subscripted b false o i = operate [o, i] (getItem o i)

/-! ### scalar builtins, by CallR -/
theorem vals1 {x : V} {us : List Value} (r : Vals [x] us) : ∃ u, us = [u] ∧ RelV x u := by
  cases r with
  | cons r1 r2 => cases r2; exact ⟨_, rfl, r1⟩
theorem vals2 {x y : V} {us : List Value} (r : Vals [x, y] us) : ∃ u w', us = [u, w'] ∧ RelV x u ∧ RelV y w' := by
  cases r with
  | cons r1 r2 =>
    cases r2 with
    | cons r3 r4 => cases r4; exact ⟨_, _, rfl, r1, r3⟩
theorem call_int1 : CallR X (.type "int") (fun xs H Q => (∃ i, xs = [.int i] ∧ Q (.int i) H) ∨ ∃ k, xs = [.bl k] ∧ Q (.int (if k then 1 else 0)) H) := by
  intro pins s σ H xs us Q I r h
  rcases h with ⟨i, rfl, q⟩ | ⟨k, rfl, q⟩
  · obtain ⟨u, rfl, t, rfl⟩ := vals1 r
    exact call_int_int ⟨.int i, H, I, ⟨_, rfl⟩, q⟩
  · obtain ⟨u, rfl, r1⟩ := vals1 r
    cases r1
    exact call_int_bool ⟨.int (if k then 1 else 0), H, I.tok _, ⟨_, rfl⟩, q⟩
/-- len of a str, a bytes, a list, a tuple -/
noncomputable def LenV (K : PySem.W.Frag) (x : V) (H : Hp) (n : Nat) : Prop :=
  match x with
  | .str y => y.length ≤ sizeLine ∧ n = y.length
  | .byt y => y.size ≤ sizeLine ∧ n = y.size
  | .ref p => (∃ xs, SqL K H p xs ∧ n = xs.length) ∨ ∃ xs, SqT K H p xs ∧ n = xs.length
  | _ => False
end
end L2

namespace L2
open PySem PySem.Spec PyProof.Rows

/-! ### an instance, its attributes a map -/
structure ObjM (h : Heap) (x dx C : Addr) (mA : Str → Option Value) : Prop where
  obj : h.get? x = some (PySem.W.instObj C dx)
  ns : h.Ns1 dx mA
  ne : dx ≠ x

theorem lookIn_ns {h : Heap} {dx : Addr} {mA : Str → Option Value} (n : h.Ns1 dx mA) : ∃ od, h.get? dx = some od ∧ ∀ name, PySem.W.lookIn name od = some (mA name) := by
  obtain ⟨o, es, ep, ho, hd, hk, _, hm⟩ := n
  refine ⟨o, ho, fun name => ?_⟩
  have e := hm name
  unfold nsFind findBy at e
  rw [← Array.find?_toList] at e
  unfold PySem.W.lookIn
  rw [hd]
  dsimp only
  split
  · rename_i y q
    rw [q] at e
    exact congrArg some e
  · rename_i q
    rw [q] at e
    have a : es.toList.any (·.refKey) = false := by
      rw [List.any_eq_false]
      intro y hy
      obtain ⟨z, t, hkey⟩ := hk y (Array.mem_toList_iff.mp hy)
      simp [DictEntry.refKey, hkey]
    have a' : ¬ es.toList.any (·.refKey) = true := by rw [a]; exact Bool.false_ne_true
    rw [if_neg a']
    exact congrArg some e


section
variable {prog : Program} {w : World} {A : Around} {E : Value → Shared → Prop} {s : Shared} {K : PySem.W.Frag} {x dx C f : Addr} {mA : Str → Option Value} {name : Str} {v : Value}





end

/-! ### the attributes as a list of pairs -/
noncomputable def putF (f : Str) (v : V) : List (Str × V) → List (Str × V)
  | [] => [(f, v)]
  | (g, x) :: r => if g = f then (g, v) :: r else (g, x) :: putF f v r

theorem RelO.some_of {v : V} {o : Option Value} (r : RelO (some v) o) : ∃ u, o = some u ∧ RelV v u := by
  cases o with
  | none => exact (show False from r).elim
  | some u => exact ⟨u, rfl, r⟩
theorem handed_of {v : V} {u : Value} (r : RelV v u) : PySem.W.handedIn u = true := by
  cases v with
  | non => cases (show u = Value.none from r); rfl
  | bl b => cases (show u = Value.bool b from r); rfl
  | int i => obtain ⟨t, e⟩ := (show ∃ t, u = Value.int i t from r); cases e; rfl
  | str x => obtain ⟨t, e⟩ := (show ∃ t, u = Value.str x t from r); cases e; rfl
  | byt b => obtain ⟨t, e⟩ := (show ∃ t, u = Value.bytes b t from r); cases e; rfl
  | flt b => obtain ⟨t, e⟩ := (show ∃ t, u = Value.float b t from r); cases e; rfl
  | ref a => cases (show u = Value.ref a from r); rfl
  | ty n => cases (show u = Value.type n from r); rfl

section
variable {P : Program} {w : World} {H H' : Hp} {h h' : Heap} {a C dx : Addr} {fs fs' : List (Str × V)}
end

/-! ### what of the text a class must have -/
structure Cls (K : PySem.W.Frag) (C : Addr) : Prop where
  pg : PySem.W.plainGet K C Str.empty = true
  hd : PySem.W.hasDictIn K C = true
  po : PySem.W.plainOver K C = true
  sa : PySem.W.findIn K (.ref C) "__setattr__" = some (some (.builtin "object.__setattr__"))
/-- no class of it has the name -/
noncomputable def NoAttr (K : PySem.W.Frag) (C : Addr) (f : Str) : Prop := PySem.W.findIn K (.ref C) f = some none
/-- a constant of the class -/
structure Con (K : PySem.W.Frag) (C : Addr) (f : Str) (v : V) (u : Value) : Prop where
  at_ : PySem.W.findIn K (.ref C) f = some (some u)
  rel : RelV v u
  get : PySem.W.specialIn K u "__get__" = some none
  cp : PySem.W.copiedNames.contains f = false
/-- a method: a plain def of the class or of one above it -/
structure Meth (K : PySem.W.Frag) (C : Addr) (m : Str) (f : Addr) : Prop where
  at_ : PySem.W.findIn K (.ref C) m = some (some (.ref f))
  fn : PySem.W.isFn K (.ref f) = true
  kp : PySem.W.keepIn K (.ref f) = true

section
variable {X : Cx} {pins : List (Addr × Obj)} {σ : St} {H : Hp} {s : Shared} {a C dx : Addr} {fs : List (Str × V)} {f : Str} {v : V} {A : Around} {E : Value → Shared → Prop}






/-- e.f where nothing but the object is asked: through attributeBase (super) and the last hold -/
theorem attr_of {prog : Program} {w : World} {env : Env} {e : Expr} {f : Str} {pos : Pos} {s : Shared} {Q : Value → Shared → Prop} (hb : attributeBase e f env (eval e env) = eval e env)
    (h : wpAny (model prog w) A (eval e env) (fun o s₁ => wpAny (model prog w) A (getAttr o f true) Q E s₁) E s) : wpAny (model prog w) A (eval (.Attribute e f pos) env) Q E s :=
  Attribute_any_ h (by rw [arm_eval_Attribute, hb])
end

/-! ### readings and rules -/
/-- e.f, an attribute of the instance -/
noncomputable def tFld (K : PySem.W.Frag) (ta : TE) (f : Str) : TE := fun σ H Q => ta σ H fun x H1 => ∃ a C dx fs v, x = .ref a ∧ H1 a = some (.ins C dx fs) ∧ Cls K C ∧ NoAttr K C f ∧ fs.lookup f = some v ∧ Q v H1
/-- e.f, a constant of the class -/
noncomputable def tCon (K : PySem.W.Frag) (ta : TE) (f : Str) : TE := fun σ H Q => ta σ H fun x H1 => ∃ a C dx fs v u, x = .ref a ∧ H1 a = some (.ins C dx fs) ∧ Cls K C ∧ Con K C f v u ∧ fs.lookup f = none ∧ Q v H1
/-- e.f = value -/
noncomputable def sFld (K : PySem.W.Frag) (ta tv : TE) (f : Str) : TS := fun D σ H => tv σ H fun y H1 => ta σ H1 fun x H2 => ∃ a C dx fs, x = .ref a ∧ H2 a = some (.ins C dx fs) ∧ Cls K C ∧ NoAttr K C f ∧ fs.length < 1000 ∧
  D.nx σ (upd H2 a (.ins C dx (putF f y fs)))
/-- an augmented operator on two values -/
noncomputable def InOp (X : Cx) (op : Operator) (rd : V → V → Hp → VK → Prop) : Prop :=
  ∀ (pins : List (Addr × Obj)) (s : Shared) (σ : St) (H : Hp) (x y : V) (u v : Value) (Q : VK), Inv X pins σ H s → RelV x u → RelV y v → rd x y H Q → wpAny (model X.prog X.w) X.A (inplaceOp op u v) (EP X pins σ Q) X.xe s
/-- e.f op= value -/
noncomputable def sFldAug (K : PySem.W.Frag) (ta tv : TE) (rd : V → V → Hp → VK → Prop) (f : Str) : TS := fun D σ H => ta σ H fun x H1 => ∃ a C dx fs v, x = .ref a ∧ H1 a = some (.ins C dx fs) ∧ Cls K C ∧ NoAttr K C f ∧ fs.lookup f = some v ∧
  tv σ H1 fun y H2 => rd v y H2 fun z H3 => ∃ dx' fs', H3 a = some (.ins C dx' fs') ∧ fs'.length < 1000 ∧ D.nx σ (upd H3 a (.ins C dx' (putF f z fs')))

section
variable {X : Cx} {o e value : Expr} {f : Str} {pos pos' tpos : Pos} {ta tv : TE}
noncomputable def rAdd : V → V → Hp → VK → Prop := fun x y H Q => ∃ i j, x = .int i ∧ y = .int j ∧ Q (.int (i + j)) H
noncomputable def rSub : V → V → Hp → VK → Prop := fun x y H Q => ∃ i j, x = .int i ∧ y = .int j ∧ Q (.int (i - j)) H

end

/-! ### isinstance -/
section
variable {X : Cx} {pins : List (Addr × Obj)} {σ : St} {H : Hp} {s : Shared} {A : Around} {E : Value → Shared → Prop} {Q : Value → Shared → Prop} {c : Value} {b : Bool}
/-- the type of a value, as the fragment's deciders take it; for an instance its class -/
inductive TyOf (K : PySem.W.Frag) (H : Hp) : V → Value → Prop where
  | non : TyOf K H .non (.type "NoneType")
  | bl (x : Bool) : TyOf K H (.bl x) (.type "bool")
  | int (i : Int) : TyOf K H (.int i) (.type "int")
  | str (x : Str) : TyOf K H (.str x) (.type "str")
  | flt (x : UInt64) : TyOf K H (.flt x) (.type "float")
  | lst {a : Addr} {xs : List V} (e : H a = some (.lst xs)) : TyOf K H (.ref a) (.type "list")
  | frz {a : Addr} {o : Obj} {xs : List V} (e : H a = some (.frz o (.lst xs))) : TyOf K H (.ref a) (.type "list")
  | tup {a : Addr} {xs : List V} (e : H a = some (.tup xs)) : TyOf K H (.ref a) (.type "tuple")
  | dK {a : Addr} {kvs : List (Key × V)} (e : H a = some (.dK kvs)) : TyOf K H (.ref a) (.type "dict")
  | dT {a : Addr} {kvs : List (List Key × V)} (e : H a = some (.dT kvs)) : TyOf K H (.ref a) (.type "dict")
  | ins {a C dx : Addr} {fs : List (Str × V)} (e : H a = some (.ins C dx fs)) (cl : Cls K C) (ha : PySem.W.findIn K (.ref C) "__class__" = some (some (.builtin "object.__class__")))
      (hn : PySem.W.specialIn K (.builtin "object.__class__") "__get__" = some (some (.builtin "getset_descriptor.__get__"))) (htk : PySem.W.takesIn K (.builtin "object.__class__") = some true)
      (hm : PySem.W.mroIn K C (.type "object") = some true) : TyOf K H (.ref a) (.ref C)
end
end L2

namespace L2
open PySem PySem.Spec PyProof.Rows

/-! ### room -/
structure Room (k : Nat) (A : Around) : Prop where
  hd : A.handled = none
  dp : A.depth + 3 * k + 5 < recursionLimit
  un : A.units + 16 * k + 200 < cLine
theorem Room.mono {j k : Nat} {A : Around} (r : Room k A) (h : j ≤ k) : Room j A := ⟨r.hd, by have := r.dp; omega, by have := r.un; omega⟩
theorem Room.deeper {k : Nat} {A : Around} (r : Room (k + 1) A) (env : Env) : Room k (A.deeper env) :=
  ⟨r.hd, by have := r.dp; show A.depth + 1 + 3 * k + 5 < _; omega, by have := r.un; show A.units + 3 + 16 * k + 200 < _; omega⟩
theorem make_depth {A : Around} {C : Addr} {us : List Value} {kw : List (Str × Value)} : (A.under (.builtin "type.__call__" ⟨.ref C :: us, kw⟩)).depth = A.depth + 1 := by
  first | rfl | simp [Around.under, Code.weight, Code.isCreation, Code.isGuard, Code.isCaller, Code.frames, Code.isFrame, guardIds]
theorem make_units {A : Around} {C : Addr} {us : List Value} {kw : List (Str × Value)} : (A.under (.builtin "type.__call__" ⟨.ref C :: us, kw⟩)).units = A.units + 1 := by
  first | rfl | simp [Around.under, Code.cUnits, Code.frames, Code.isFrame]
theorem Room.make {k : Nat} {A : Around} (r : Room (k + 1) A) (C : Addr) (us : List Value) (kw : List (Str × Value)) : Room k (A.under (.builtin "type.__call__" ⟨.ref C :: us, kw⟩)) :=
  ⟨r.hd, by have := r.dp; rw [make_depth]; omega, by have := r.un; rw [make_units]; omega⟩
theorem Room.depth {k : Nat} {A : Around} (r : Room k A) : A.depth < recursionLimit := by have := r.dp; omega
theorem Room.units {k : Nat} {A : Around} (r : Room k A) : A.units + 64 < cLine := by have := r.un; omega

/-! ### argument lists and displays -/
noncomputable def tNil : TA := fun _ H Q => Q [] H
noncomputable def tCons (ta : TE) (tr : TA) : TA := fun σ H Q => ta σ H fun x H1 => tr σ H1 fun xs H2 => Q (x :: xs) H2
section
variable {X : Cx} {e : Expr} {es : List Expr} {te : TE} {t : TA} {pos : Pos}
theorem pa_nil : PA X [] tNil := fun _ _ _ _ H Q I h => Calls.spliced_nil ⟨[], H, I, .nil, h⟩
theorem pa_cons (ha : PE X e te) (hr : PA X es t) (hs : starEach (e :: es) X.env = (false, eval e X.env) :: starEach es X.env := by rfl) : PA X (e :: es) (tCons te t) := by
  intro pos pins s σ H Q I h
  rw [hs]
  show wpAny _ _ (spliced ((false, eval e X.env) :: backTo pos (starEach es X.env))) _ _ s
  refine Calls.spliced_cons (thn (ha pins s σ H _ I h) fun u s1 ⟨x, H1, I1, r1, q1⟩ => ?_)
  exact thn (hr pos pins s1 σ H1 _ I1 q1) fun us s2 ⟨xs, H2, I2, r2, q2⟩ => ⟨x :: xs, H2, I2, .cons r1 r2, q2⟩

/-- a tuple, a list of written items -/
noncomputable def tTup (t : TA) : TE := fun σ H Q => t σ H fun xs H1 => xs.length ≤ sizeLine ∧ ∀ p, H1 p = none → Q (.ref p) (upd H1 p (.tup xs))
noncomputable def tLst (t : TA) : TE := fun σ H Q => t σ H fun xs H1 => xs.length ≤ sizeLine ∧ ∀ p, H1 p = none → Q (.ref p) (upd H1 p (.lst xs))
theorem pe_tup {x1} (h : PA X es t) : PE X (.Tuple es x1 pos) (tTup t) := by
  intro pins s σ H Q I hq
  refine wpAny_Tuple_spliced (thn (h pos pins s σ H _ I hq) fun us s1 ⟨xs, H1, I1, r, z, q⟩ => ⟨by rw [← r.length]; exact z, ?_⟩)
  have hf : H1 s1.heap.objs.size = none := I1.hok.fresh (Nat.le_refl _)
  refine ⟨.ref s1.heap.objs.size, upd H1 s1.heap.objs.size (.tup xs), I1.laid (t' := s1.toks) (fun b u e => Heap.get?_push_of_some _ e) (Nat.le_refl _) ?_, rfl, q _ hf⟩
  exact ⟨z, us, r, ⟨_, Heap.get?_push_size _ rfl, rfl, _, rfl⟩⟩
theorem pe_lst (h : PA X es t) : PE X (.List es pos) (tLst t) := by
  intro pins s σ H Q I hq
  refine wpAny_List_spliced (thn (h pos pins s σ H _ I hq) fun us s1 ⟨xs, H1, I1, r, z, q⟩ => ⟨by rw [← r.length]; exact z, ?_⟩)
  have hf : H1 s1.heap.objs.size = none := I1.hok.fresh (Nat.le_refl _)
  refine ⟨.ref s1.heap.objs.size, upd H1 s1.heap.objs.size (.lst xs), I1.laid (t' := s1.toks) (fun b u e => Heap.get?_push_of_some _ e) (Nat.le_refl _) ?_, rfl, q _ hf⟩
  exact ⟨z, us, 0, r, Heap.get?_push_size _ rfl⟩
end

/-! ### what a def promises -/
/-- a def's promise: the bound arguments in the parameters' order, the heap, the wanted end, the wanted exception -/
noncomputable abbrev Sp := List V → Hp → VK → XK → Prop
/-- how an exception lies behind a call (file 08 gives it): the callers' frames, abstract heap and state ahead of the call, the wish, the exception, the state -/
noncomputable abbrev CXT := List Env → Hp → Shared → XK → Value → Shared → Prop

/-- the state at a call -/
structure Env0 (P : Program) (w : World) (K : PySem.W.Frag) (mg : Str → Option Value) (base : Heap) (A : Around) (outer : List Env) (s : Shared) (H : Hp) : Prop where
  frames : A.frames = some outer
  mod : Mod K mg base
  bs : ∀ b o, base.get? b = some o → s.heap.get? b = some o ∧ H b = none
  bsz : base.objs.size ≤ s.heap.objs.size
  funs : s.heap.FunFrames base outer
  frf : ∀ b ∈ frs outer, H b = none
  hok : HOk P w H s.heap
  bare : AllBare s.gens
/-- a call's end -/
noncomputable def CE (outer : List Env) (P : Program) (w : World) (H : Hp) (s : Shared) (Q : VK) (u : Value) (s' : Shared) : Prop :=
  ∃ v H', s'.os = s.os ∧ AllBare s'.gens ∧ Un (frs outer) [] H H' s.heap s'.heap ∧ HOk P w H' s'.heap ∧ RelV v u ∧ Q v H'
noncomputable def CR (CX : CXT) (outer : List Env) (P : Program) (w : World) (H : Hp) (s : Shared) (Q : VK) (E : XK) (r : Result) (s' : Shared) : Prop :=
  match r with
  | .ok (.ret u) => CE outer P w H s Q u s'
  | .ok _ => False
  | .error e => CX outer H s E e s'
structure FnOk (P : Program) (w : World) (K : PySem.W.Frag) (mg : Str → Option Value) (base : Heap) (CX : CXT) (k : Nat) (f : Addr) (fd : FuncData) (ps : List Str) (sp : Sp) : Prop where
  len : ∀ vs H Q E, sp vs H Q E → vs.length = ps.length
  run : ∀ (A : Around) (outer : List Env) (s : Shared) (H : Hp) (args : Args) (us : List Value) (vs : List V) (Q : VK) (E : XK), Room k A → Env0 P w K mg base A outer s H → BindsTo s fd args (ps.zip us) → Vals vs us → sp vs H Q E →
    codeAny (model P w) A (.call (.ref f) args) (CR CX outer P w H s Q E) s

theorem Env0.make {P : Program} {w : World} {K : PySem.W.Frag} {mg : Str → Option Value} {base : Heap} {A : Around} {outer : List Env} {s : Shared} {H : Hp} (e : Env0 P w K mg base A outer s H) (C : Addr) (us : List Value) (kw : List (Str × Value)) :
    Env0 P w K mg base (A.under (.builtin "type.__call__" ⟨.ref C :: us, kw⟩)) outer s H := ⟨by first | exact e.frames | (simpa [Around.under, Code.envs, Code.isFrame, pushEnvs] using e.frames), e.mod, e.bs, e.bsz, e.funs, e.frf, e.hok, e.bare⟩

section
variable {X : Cx} {pins : List (Addr × Obj)} {σ : St} {H : Hp} {s s' : Shared}
/-- from a body: what a callee wants -/
theorem Inv.env0 (I : Inv X pins σ H s) : Env0 X.prog X.w X.K X.mg X.base X.A X.stack s H :=
  ⟨I.ok.frames, I.ok.mod, I.bs, Nat.le_trans I.ok.bsz I.sz, I.stack, I.stkFree, I.hok, I.bare⟩
/-- behind a call -/
theorem Inv.after {Q : VK} {u : Value} (I : Inv X pins σ H s) (h : CE X.stack X.prog X.w H s Q u s') : EP X pins σ Q u s' := by
  obtain ⟨v, H', os, bare, un, hok, r, q⟩ := h
  obtain ⟨hh, g, d, t, os'⟩ := s'
  obtain rfl : os' = s.os := os
  exact ⟨v, H', I.call (h' := hh) (g' := g) (d' := d) (t' := t) (ch := []) un hok bare (fun b z => absurd z (by simp)), r, q⟩
end

/-! ### calls -/
/-- f(..): the written arguments, then the defaults dvs; E: what is wanted of an exception -/
noncomputable def tCall (sp : Sp) (dvs : List V) (E : XK) (t : TA) : TE := fun σ H Q => t σ H fun vs H1 => sp (vs ++ dvs) H1 Q E
/-- o.m(..) of an instance of the class at C -/
noncomputable def tMeth (C : Addr) (m : Str) (sp : Sp) (dvs : List V) (E : XK) (ta : TE) (t : TA) : TE := fun σ H Q => ta σ H fun x H1 => ∃ a dx fs, x = .ref a ∧ H1 a = some (.ins C dx fs) ∧ fs.lookup m = none ∧
  t σ H1 fun vs H2 => sp (x :: (vs ++ dvs)) H2 Q E
/-- C(..): a new instance and its dict, then __init__ -/
noncomputable def tMake (C : Addr) (sp : Sp) (dvs : List V) (E : XK) (t : TA) : TE := fun σ H Q => t σ H fun vs H1 => ∀ x dx, H1 x = none → H1 dx = none → dx ≠ x →
  sp (.ref x :: (vs ++ dvs)) (upd (upd H1 dx (.own x)) x (.ins C dx [])) (fun v H2 => v = .non ∧ Q (.ref x) H2) E

/-- how the parameters are bound: us the positional arguments, kw the keywords' values by name, ds the defaults that fill up -/
noncomputable def Binds (K : PySem.W.Frag) (fd : FuncData) (ps : List Str) (ds : List Value) : Prop :=
  ∀ (s : Shared) (us : List Value), K.In s.heap → (us ++ ds).length = ps.length → BindsTo s fd ⟨us, []⟩ (ps.zip (us ++ ds))
/-- every parameter is given -/
theorem Binds.all {K : PySem.W.Frag} {fd : FuncData} {ps : List Str} (h : ∀ us : List Value, us.length = ps.length → bindArgs fd ⟨us, []⟩ = pure (ps.zip us)) : Binds K fd ps [] := fun s us _ hl => by
  rw [List.append_nil] at hl ⊢
  exact .of_eq (h us hl)

/-- an exception of a callee reaches what this body wants of exceptions -/
noncomputable def Passes (CX : CXT) (X : Cx) (E : XK) : Prop := ∀ (pins : List (Addr × Obj)) (σ : St) (H : Hp) (s : Shared) (e : Value) (s' : Shared), Inv X pins σ H s → CX X.stack H s E e s' → X.xe e s'

section
variable {X : Cx} {CX : CXT} {k : Nat} {f C : Addr} {fd : FuncData} {ps : List Str} {sp : Sp} {dvs : List V} {ds : List Value} {E : XK} {x m : Str} {p pos apos : Pos} {e o : Expr} {es : List Expr} {ta : TE} {t : TA}

/-- the callee runs -/
theorem run_fn {pins : List (Addr × Obj)} {σ : St} {H : Hp} {s : Shared} {Q : VK} {us : List Value} {vs : List V} (F : FnOk X.prog X.w X.K X.mg X.base CX k f fd ps sp) (hr : Room k X.A) (hb : Binds X.K fd ps ds) (hd : Vals dvs ds) (hx : Passes CX X E)
    (I : Inv X pins σ H s) (r : Vals vs us) (h : sp (vs ++ dvs) H Q E) : wpAny (model X.prog X.w) X.A (call (.ref f) us) (EP X pins σ Q) X.xe s := by
  have r2 : Vals (vs ++ dvs) (us ++ ds) := r.append hd
  have hl : (us ++ ds).length = ps.length := by rw [← r2.length]; exact F.len _ _ _ _ h
  refine wpAny_call (codeAny_mono (F.run X.A X.stack s H ⟨us, []⟩ (us ++ ds) (vs ++ dvs) Q E hr I.env0 (hb s us I.kIn hl) r2 h) fun r s' hq => ?_)
  cases r with
  | error e => exact hx pins σ H s e s' I hq
  | ok fl =>
    cases fl with
    | ret u => exact I.after hq
    | next => exact False.elim hq
    | brk => exact False.elim hq
    | cont => exact False.elim hq

theorem pe_call (F : FnOk X.prog X.w X.K X.mg X.base CX k f fd ps sp) (hr : Room k X.A) (hg : Gl X x) (hm : X.mg x = some (.ref f)) (hk : PySem.W.keepIn X.K (.ref f) = true) (hb : Binds X.K fd ps ds) (hd : Vals dvs ds) (hx : Passes CX X E)
    (ha : PA X (e :: es) t) (hdb : (x == ("__debug__" : Str)) = false := by decide) (he : starEach (e :: es) X.env = (false, eval e X.env) :: starEach es X.env := by rfl) (hpl : (backTo pos (starEach es X.env)).any (·.1) = false := by rfl) :
    PE X (.Call (.Name x p) (e :: es) [] pos) (tCall sp dvs E t) := by
  intro pins s σ H Q I h
  refine wpAny_Call_Name_kw (ld_glob I hg hm ?_ hdb)
  refine PySem.W.callWith_K (h₀ := X.base) I.ok.mod.kin hk (thn (ha pos pins s σ H _ I h) fun us s1 ⟨vs, H1, I1, r, q⟩ => ⟨I1.kIn, ?_⟩) he hpl
  exact run_fn F hr hb hd hx I1 r q


/-- what a class must have to be made -/
structure Mk (K : PySem.W.Frag) (C f : Addr) : Prop where
  makes : PySem.W.makesIn K C = true
  init : PySem.W.findIn K (.ref C) "__init__" = some (some (.ref f))
  fn : PySem.W.isFn K (.ref f) = true
  kp : PySem.W.keepIn K (.ref C) = true

end

/-! ### keywords -/
/-- the values of the keywords, from the left -/
noncomputable def PK (X : Cx) (kws : List Keyword) (t : TA) : Prop :=
  ∀ (pos : Pos) (pins : List (Addr × Obj)) (s : Shared) (σ : St) (H : Hp) (Q : List V → Hp → Prop), Inv X pins σ H s → t σ H Q → wpAny (model X.prog X.w) X.A (evalAll ((backToKw pos (keywordEach kws X.env)).map (·.2))) (AP X pins σ Q) X.xe s
section
variable {X : Cx} {CX : CXT} {k : Nat} {f C : Addr} {fd : FuncData} {ps ks : List Str} {sp : Sp} {E : XK} {x m : Str} {p pos apos kpos : Pos} {e o : Expr} {es : List Expr} {kws : List Keyword} {te ta : TE} {t tk : TA} {nm : Option Str}

/-- how a call with keywords binds: g puts the positional values us and the keywords' values ws (names ks) in the parameters' order, defaults among them -/
structure KBinds (K : PySem.W.Frag) (fd : FuncData) (ps ks : List Str) (g : List Value → List Value → List Value) (gV : List V → List V → List V) : Prop where
  to : ∀ (s : Shared) (us ws : List Value), K.In s.heap → (g us ws).length = ps.length → BindsTo s fd ⟨us, ks.zip ws⟩ (ps.zip (g us ws))
  rel : ∀ {vs : List V} {us : List Value} {zs : List V} {ws : List Value}, Vals vs us → Vals zs ws → Vals (gV vs zs) (g us ws)
noncomputable def tCallK (sp : Sp) (gV : List V → List V → List V) (E : XK) (t tk : TA) : TE := fun σ H Q => t σ H fun vs H1 => tk σ H1 fun zs H2 => sp (gV vs zs) H2 Q E
variable {g : List Value → List Value → List Value} {gV : List V → List V → List V}
end

/-! ### a def's body keeps its promise -/
/-- names: the parameters first -/
structure FnScope (N P : List Str) (sc : Scope) : Prop where
  kind : sc.kind = .function
  co : sc.isCoroutine = false
  gen : sc.isGenerator = false
  nd : N.Nodup
  pre : N.take P.length = P
  par : ∀ x ∈ P, sc.names.lookup x = some .local ∨ sc.names.lookup x = some .cell
  nofree : ∀ y ∈ sc.names, y.2 ≠ .free

theorem bindL_out {kindOf : Str → Option NameKind} {x : Str} : ∀ {binds : List (Str × Value)} {m : Str → Option Value}, (∀ v, (x, v) ∉ binds) → bindL kindOf binds m x = m x
  | [], _, _ => rfl
  | (n, v) :: r, m, h => by
    unfold bindL
    rw [bindL_out fun w hw => h w (List.mem_cons_of_mem _ hw)]
    split
    · have : x ≠ n := by rintro rfl; exact h v List.mem_cons_self
      simp [this]
    · rfl
theorem bindC_out {kindOf : Str → Option NameKind} {x : Str} : ∀ {binds : List (Str × Value)} {m : Str → Option Value}, (∀ v, (x, v) ∉ binds) → bindC kindOf binds m x = m x
  | [], _, _ => rfl
  | (n, v) :: r, m, h => by
    unfold bindC
    rw [bindC_out fun w hw => h w (List.mem_cons_of_mem _ hw)]
    split
    · rfl
    · have : x ≠ n := by rintro rfl; exact h v List.mem_cons_self
      simp [this]
theorem bindL_get {kindOf : Str → Option NameKind} {x : Str} {v : Value} : ∀ {P : List Str} {vs : List Value} {i : Nat} {m : Str → Option Value}, P.Nodup → P[i]? = some x → vs[i]? = some v → kindOf x = some .local →
    bindL kindOf (P.zip vs) m x = some v
  | [], _, _, _, _, h, _, _ => by simp at h
  | _ :: _, [], _, _, _, _, h, _ => by simp at h
  | p :: P, w :: vs, 0, m, nd, h1, h2, hk => by
    simp at h1 h2; subst h1; subst h2
    show bindL kindOf ((p, w) :: P.zip vs) m p = _
    unfold bindL
    rw [bindL_out fun v hv => (List.nodup_cons.mp nd).1 (List.of_mem_zip hv).1, if_pos hk]
    simp
  | p :: P, w :: vs, i + 1, m, nd, h1, h2, hk => by
    show bindL kindOf ((p, w) :: P.zip vs) m x = _
    unfold bindL
    exact bindL_get (i := i) (List.nodup_cons.mp nd).2 (by simpa using h1) (by simpa using h2) hk
theorem bindC_get {kindOf : Str → Option NameKind} {x : Str} {v : Value} : ∀ {P : List Str} {vs : List Value} {i : Nat} {m : Str → Option Value}, P.Nodup → P[i]? = some x → vs[i]? = some v → kindOf x ≠ some .local →
    bindC kindOf (P.zip vs) m x = some v
  | [], _, _, _, _, h, _, _ => by simp at h
  | _ :: _, [], _, _, _, _, h, _ => by simp at h
  | p :: P, w :: vs, 0, m, nd, h1, h2, hk => by
    simp at h1 h2; subst h1; subst h2
    show bindC kindOf ((p, w) :: P.zip vs) m p = _
    unfold bindC
    rw [bindC_out fun v hv => (List.nodup_cons.mp nd).1 (List.of_mem_zip hv).1, if_neg hk]
    simp
  | p :: P, w :: vs, i + 1, m, nd, h1, h2, hk => by
    show bindC kindOf ((p, w) :: P.zip vs) m x = _
    unfold bindC
    exact bindC_get (i := i) (List.nodup_cons.mp nd).2 (by simpa using h1) (by simpa using h2) hk

/-- the names' values at the entry -/
noncomputable def start (N : List Str) (vs : List V) : St := vs.map some ++ List.replicate (N.length - vs.length) none

/-- the context of a def's body, at its entry; an exception leaves the frame, then lies as CX says -/
noncomputable def cxOf (CX : CXT) (P : Program) (w : World) (K : PySem.W.Frag) (mg : Str → Option Value) (base : Heap) (N : List Str) (qual : Str) (scope : Scope) (f : Addr) (cd : Value) (A : Around) (outer : List Env) (s : Shared) (H : Hp) (E : XK) : Cx where
  prog := P
  w := w
  K := K
  mg := mg
  base := base
  A := A.deeper (envOfC qual scope s.heap.objs.size f cd)
  N := N
  s₀ := s
  H₀ := H
  env := envOfC qual scope s.heap.objs.size f cd
  outer := outer
  stack := envOfC qual scope s.heap.objs.size f cd :: outer
  ex := []
  calm := true
  fn := fun _ => true
  pn := []
  xe := fun e s' => wpAny (model P w) (A.deeper (envOfC qual scope s.heap.objs.size f cd)) (leaving (envOfC qual scope s.heap.objs.size f cd) e) (fun _ s'' => CX outer H s E e s'') (fun e' s'' => CX outer H s E e' s'') s'

theorem cell_has {sc : Scope} {n : Nat} {x : Str} (h : sc.names.lookup x = some .cell) : ∃ c, (cellsFrom n sc.names []).lookup x = some c := by
  have q := PySem.W.cellsFrom_some sc.names n [] (.inl h)
  exact Option.isSome_iff_exists.mp q

theorem inv_start {CX : CXT} {P : Program} {w : World} {K : PySem.W.Frag} {mg : Str → Option Value} {base : Heap} {N ps : List Str} {qual : Str} {scope : Scope} {f : Addr} {cd : Value} {A : Around} {outer : List Env} {s s1 : Shared} {H : Hp} {E : XK} {us : List Value} {vs : List V}
    (S : FnScope N ps scope) (hd : A.handled = none) (e0 : Env0 P w K mg base A outer s H) (hl : vs.length = ps.length) (r : Vals vs us)
    (x : InCallC s s.heap.objs.size (bindL (envOfC qual scope s.heap.objs.size f cd).kindOf (ps.zip us) fun _ => none) (cellsFrom (s.heap.objs.size + 1) scope.names []) (bindC (envOfC qual scope s.heap.objs.size f cd).kindOf (ps.zip us) fun _ => none) s1) :
    Inv (cxOf CX P w K mg base N qual scope f cd A outer s H E) [] (start N vs) H s1 := by
  have hpl : ps.length ≤ N.length := by have := congrArg List.length S.pre; rw [List.length_take] at this; omega
  obtain ⟨h1, tk, rfl, hk⟩ := x.done
  have noA : ∀ b : Addr, b ∉ (cxOf CX P w K mg base N qual scope f cd A outer s H E).ex := fun b z => absurd (show b ∈ ([] : List Addr) from z) (by simp)
  refine ⟨⟨e0.mod, S.kind, rfl, rfl, Nat.le_refl _, fun y z c h1 h2 => ?_, fun y hy => ?_, fun y c _ h => ?_, fun _ => hd, Around.frames_deeper e0.frames, .inr ⟨rfl, rfl⟩, fun b z => absurd z (noA b), e0.bs, e0.bsz, fun b _ _ => noA b, fun b z => absurd z (noA b), e0.funs, e0.frf⟩,
    rfl, e0.bare, Un.kept hk, ⟨_, x.toInCall.ns, fun i y v h1 h2 h3 => ?_⟩, fun y c h => ⟨_, x.cell y c h⟩, e0.hok.fresh (Nat.le_refl _), fun y c h => ?_, fun p hp => absurd (show p ∈ ([] : List (Addr × Obj)) from hp) (by simp), e0.hok.kept hk, ?_⟩
  · exact name_of_addr x.apart (PySem.mem_of_lookup h1) (PySem.mem_of_lookup h2)
  · have hy : scope.names.lookup y = some .cell ∨ scope.names.lookup y = some .free := hy
    rcases hy with hy | hy
    · exact cell_has hy
    · exact absurd rfl (S.nofree _ (PySem.mem_of_lookup hy))
  · exact Nat.le_of_lt (x.above y c (PySem.mem_of_lookup h))
  · have hi : i < vs.length := by
      unfold start at h2
      by_cases hi : i < vs.length
      · exact hi
      · rw [List.getElem?_append_right (by simpa using hi)] at h2
        rw [List.getElem?_replicate] at h2
        split at h2 <;> cases h2
    have ha : vs[i]? = some v := by
      unfold start at h2
      rw [List.getElem?_append_left (by simpa using hi), List.getElem?_map] at h2
      cases e : vs[i]? with
      | none => rw [e] at h2; cases h2
      | some a => rw [e] at h2; cases h2; rfl
    obtain ⟨u, hu, rv⟩ := r.get ha
    have hp : ps[i]? = some y := by
      rw [← S.pre, List.getElem?_take_of_lt (by omega)]; exact h1
    have ndP : ps.Nodup := by rw [← S.pre]; exact S.nd.sublist (List.take_sublist _ _)
    refine ⟨u, rv, ?_⟩
    rcases S.par y (List.mem_of_getElem? hp) with k | k
    · exact .inl ⟨k, bindL_get ndP hp hu k⟩
    · obtain ⟨c, e⟩ := cell_has (n := s.heap.objs.size + 1) k
      refine .inr ⟨.inl k, c, e, ?_⟩
      have q := x.cell y c e
      rw [bindC_get ndP hp hu (by show scope.names.lookup y ≠ _; rw [k]; decide)] at q
      exact q
  · exact e0.hok.fresh (Nat.le_of_lt (x.above y c (PySem.mem_of_lookup h)))
  · unfold start
    show _ = N.length
    rw [List.length_append, List.length_map, List.length_replicate]
    omega

/-- THE RULE: a def (or a method) of the text, by its body. The body's reading t is chosen for each entry; it is run at the parameters' values -/
theorem fn_of {CX : CXT} {P : Program} {w : World} {K : PySem.W.Frag} {mg : Str → Option Value} {base : Heap} {k : Nat} {f : Addr} {name qual : Str} {params : Arguments} {body : List Stmt} {scope : Scope} {dV kV doc pm cdv ct oc : Value} {an od : Option Addr}
    {osl : Array (Option Value)} {N ps : List Str} {sp : Sp} (lk : K.lookup f = some ⟨oc, od, .func (PySem.W.fnOf name qual params body scope dV kV doc pm an cdv ct), osl⟩) (hcd : PySem.W.codeIn K cdv qual = true) (S : FnScope N ps scope)
    (len : ∀ vs H Q E, sp vs H Q E → vs.length = ps.length)
    (hbody : ∀ (A : Around) (outer : List Env) (s : Shared) (H : Hp) (vs : List V) (Q : VK) (E : XK), Room k (A.deeper (envOfC qual scope s.heap.objs.size f cdv)) → sp vs H Q E →
      ∃ t, PSs (cxOf CX P w K mg base N qual scope f cdv A outer s H E) body t ∧ t { nx := fun _ H' => Q .non H', rt := Q } (start N vs) H) :
    FnOk P w K mg base CX (k + 1) f (PySem.W.fnOf name qual params body scope dV kV doc pm an cdv ct) ps sp := by
  refine ⟨len, fun A outer s H args us vs Q E hr e0 hb r hsp => ?_⟩
  have hl := len _ _ _ _ hsp
  have KX : K.In s.heap := e0.mod.kin.keeps fun b o e => (e0.bs b o e).1
  have lim : s.heap.NoLimit := e0.mod.nolimit.keeps fun b o e => (e0.bs b o e).1
  have hkind : ∀ y ∈ ps.zip us, scope.names.lookup y.1 = some .local ∨ (scope.names.lookup y.1 = some .cell ∧ ((cellsFrom (s.heap.objs.size + 1) scope.names []).lookup y.1).isSome = true) := fun ⟨n, v⟩ hy => by
    rcases S.par n (List.of_mem_zip hy).1 with q | q
    · exact .inl q
    · exact .inr ⟨q, PySem.W.cellsFrom_some _ _ _ (.inl q)⟩
  refine codeAny_call_function hr.depth (KX _ _ lk) rfl S.co S.gen rfl (PySem.W.codeRec_of KX hcd) (hb _ _ _ _ ?_)
  refine wpAny_newFunctionEnv_cells S.kind hkind fun env he s1 x => ?_
  subst he
  refine ⟨lim.keeps x.toInCall.keep, codeAny_func ?_⟩
  obtain ⟨t, ht, hq⟩ := hbody A outer s H vs Q E (hr.deeper _) hsp
  have I : Inv (cxOf CX P w K mg base N qual scope f cdv A outer s H E) [] (start N vs) H s1 := inv_start S hr.hd e0 hl r x
  refine wpAny_mono (ht [] s1 (start N vs) H _ I hq) (fun fl s' hs => ?_) fun e s' hs => hs
  have fin : ∀ {σ' : St} {H' : Hp} {v : V} {u : Value}, Inv (cxOf CX P w K mg base N qual scope f cdv A outer s H E) [] σ' H' s' → RelV v u → Q v H' → CE outer P w H s Q u s' :=
    fun {σ' H' v u} J rv q => ⟨v, H', J.os, J.bare, J.base, J.hok, rv, q⟩
  cases fl with
  | ret u =>
    obtain ⟨v, σ', H', J, rv, q⟩ := hs
    exact fin J rv q
  | next =>
    obtain ⟨σ', H', J, q⟩ := hs
    exact fin (v := V.non) (u := Value.none) J rfl q
  | brk =>
    obtain ⟨_, _, _, q⟩ := hs
    exact False.elim q
  | cont =>
    obtain ⟨_, _, _, q⟩ := hs
    exact False.elim q
end L2

namespace L2
open PySem PySem.Spec PyProof.Rows
section
variable {X : Cx} {x : Str} {p pos : Pos} {e : Expr} {es : List Expr} {t : TA} {id T : String} {r : List V → Hp → VK → Prop}

noncomputable def tCB (r : List V → Hp → VK → Prop) (t : TA) : TE := fun σ H Q => t σ H fun vs H1 => r vs H1 Q
/-- f(e, ..), f a built-in function -/
theorem pe_callB (hc : CallR X (.builtin id) r) (hg : Gl X x) (hm : X.mg x = none) (hv : bootBuiltins x = some (.builtin id)) (ha : PA X (e :: es) t) (hn : x ≠ "__name__" := by decide) (hdb : (x == ("__debug__" : Str)) = false := by decide)
    (he : starEach (e :: es) X.env = (false, eval e X.env) :: starEach es X.env := by rfl) (hpl : (backTo pos (starEach es X.env)).any (·.1) = false := by rfl) : PE X (.Call (.Name x p) (e :: es) [] pos) (tCB r t) := by
  intro pins s σ H Q I h
  refine wpAny_Call_Name_kw (ld_blt I hg hm hv ?_ hn hdb)
  exact PyProof.Rows.callWith_builtin1 (thn (ha pos pins s σ H _ I h) fun us s1 ⟨vs, H1, I1, r1, q1⟩ => hc pins s1 σ H1 vs us Q I1 r1 q1) he hpl
/-- T(e, ..), T a built-in type -/
theorem pe_callTy (hc : CallR X (.type T) r) (hg : Gl X x) (hm : X.mg x = none) (hv : bootBuiltins x = some (.type T)) (ha : PA X (e :: es) t) (hn : x ≠ "__name__" := by decide) (hdb : (x == ("__debug__" : Str)) = false := by decide)
    (he : starEach (e :: es) X.env = (false, eval e X.env) :: starEach es X.env := by rfl) (hpl : (backTo pos (starEach es X.env)).any (·.1) = false := by rfl) : PE X (.Call (.Name x p) (e :: es) [] pos) (tCB r t) := by
  intro pins s σ H Q I h
  refine wpAny_Call_Name_kw (ld_blt I hg hm hv ?_ hn hdb)
  exact PyProof.Rows.callWith_type1 (thn (ha pos pins s σ H _ I h) fun us s1 ⟨vs, H1, I1, r1, q1⟩ => hc pins s1 σ H1 vs us Q I1 r1 q1) he hpl
end
end L2

namespace HT
open PySem PyProof.Rows

/-- t < u of tuples of ints -/
noncomputable def lexLt : List Int → List Int → Bool
  | [], [] => false
  | [], _ :: _ => true
  | _ :: _, [] => false
  | x :: xs, y :: ys => if x = y then lexLt xs ys else decide (x < y)


section
open PySem.SeqAt
open PySem.AutoSeq1 (wpAny_loadPart')
open PySem.MeetsSeq PySem.MeetsSeq2 PySem.MeetsSeq3

end

section
variable {prog : Program} {w : World} {A : Around} {E : Value → Shared → Prop} {s : Shared}


/-- t + u, t not empty -/
theorem cat_tup {t b : Addr} {vs ws : List Value} {Q : Value → Shared → Prop} (ht : IsTup s.heap t vs.toArray) (hb : IsTup s.heap b ws.toArray) (hv : vs ≠ [])
    (h1 : ws = [] → Q (.ref t) s) (h2 : ws ≠ [] → Q (.ref s.heap.objs.size) { s with heap := s.heap.push { cls := .type "tuple", data := .seq (vs ++ ws).toArray } })
    (hsz : vs.length + ws.length ≤ sizeLine) : wpAny (model prog w) A (binaryOp .Add (.ref t) (.ref b)) Q E s := by
  obtain ⟨⟨cls, dd, data, sl⟩, ho, hc, n, hd⟩ := id ht
  obtain ⟨⟨cls2, dd2, data2, sl2⟩, ho2, hc2, n2, hd2⟩ := id hb
  simp only at hc hd hc2 hd2
  subst hc hd hc2 hd2
  have e : vs.toArray ++ ws.toArray = (vs ++ ws).toArray := by simp
  by_cases hw : ws = []
  · exact concat_meets ⟨_, ho, rfl⟩ ⟨_, ho2, rfl⟩ noFill_tuple_add seq_tuple_add PySem.F.slot_tuple_add PySem.F.entry_tuple_add (PySem.F.args_tuple_add_2 _ _)
      (tuple_addW1 t b vs.toArray ws.toArray n n2 dd dd2 sl sl2 (by simpa using hv) (by simp [hw])) ⟨ho, ho2, h1 hw⟩
  · refine concat_meets ⟨_, ho, rfl⟩ ⟨_, ho2, rfl⟩ noFill_tuple_add seq_tuple_add PySem.F.slot_tuple_add PySem.F.entry_tuple_add (PySem.F.args_tuple_add_2 _ _)
      (tuple_addW2 t b vs.toArray ws.toArray n n2 dd dd2 sl sl2 (by simpa using hv) (by simpa using hw) (by rw [List.size_toArray, List.size_toArray]; exact hsz)) ⟨ho, ho2, ?_⟩
    rw [e]
    exact h2 hw

/-! ### t[a:b], not the whole -/
/-- a slice's bound as a place among n (d where it is left out) -/
noncomputable def sIx (n d : Nat) : Option Int → Nat
  | none => d
  | some v => if v < 0 then (v + (n : Int)).toNat else min v.toNat n
theorem sIx_none (n d : Nat) : sIx n d none = d := rfl
theorem sIx_nat (n d k : Nat) : sIx n d (some (k : Int)) = min k n := by
  show (if (k : Int) < 0 then ((k : Int) + (n : Int)).toNat else min (k : Int).toNat n) = min k n
  rw [if_neg (by omega), Int.toNat_natCast]
theorem sIx_le (n d : Nat) (hd : d ≤ n) (o : Option Int) : sIx n d o ≤ n := by
  cases o with
  | none => exact hd
  | some v =>
    show (if v < 0 then (v + (n : Int)).toNat else min v.toNat n) ≤ n
    by_cases hv : v < 0
    · rw [if_pos hv]; omega
    · rw [if_neg hv]; exact Nat.min_le_right _ _
theorem clip_eq (v : Int) (n d : Nat) : (if v < 0 then max (v + (n : Int)) 0 else min v (n : Int)) = ((sIx n d (some v) : Nat) : Int) := by
  show (if v < 0 then max (v + (n : Int)) 0 else min v (n : Int)) = (((if v < 0 then (v + (n : Int)).toNat else min v.toNat n) : Nat) : Int)
  by_cases hv : v < 0
  · simp only [if_pos hv]; omega
  · simp only [if_neg hv]; omega
theorem adjust_gen (lo hi : Option Int) (n : Nat) : Builtin.Slice.sliceAdjust lo hi 1 (n : Int) = (((sIx n 0 lo : Nat) : Int), ((sIx n n hi : Nat) : Int)) := by
  have h1 : ¬ ((1 : Int) < 0) := by omega
  unfold Builtin.Slice.sliceAdjust
  simp only [h1, if_false]
  refine Prod.ext ?_ ?_
  · cases lo with
    | none => rfl
    | some v => exact clip_eq v n 0
  · cases hi with
    | none => rfl
    | some v => exact clip_eq v n n
theorem places_gen (i j : Nat) : Builtin.Slice.slicePlaces (i : Int) (j : Int) 1 = j - i := by
  unfold Builtin.Slice.slicePlaces
  have h1 : (1 : Int) > 0 := by omega
  simp only [h1, if_true, Int.ediv_one]
  split <;> omega
theorem slicePart_ {v : Value} {o : Option Int} {Q : Option Int → Shared → Prop} (p : IsPart v o) (h : Q o s) : wpAny (model prog w) A (Builtin.Slice.slicePartIndex v) Q E s := by
  cases p with
  | none => exact slicePart_none h
  | int i t => exact slicePart_int h
theorem sliceApplied_gen {sl : Addr} {vl vu : Value} {lo hi : Option Int} {n : Nat} {Q : Int × Int × Nat → Shared → Prop} (hs : s.heap.IsSliceOf sl vl vu .none) (pl : IsPart vl lo) (pu : IsPart vu hi)
    (h : Q (((sIx n 0 lo : Nat) : Int), 1, sIx n n hi - sIx n 0 lo) s) : wpAny (model prog w) A (Builtin.Slice.sliceApplied (.ref sl) (pure (n : Int))) Q E s := by
  obtain ⟨os, hos, hcs, hds⟩ := id hs
  unfold Builtin.Slice.sliceApplied Builtin.Slice.sliceFields
  refine wpAny_bind (wpAny_bind (wpAny_field hos hds (x := vl) rfl (wpAny_bind (wpAny_field hos hds (x := vu) rfl (wpAny_bind (wpAny_field hos hds (x := .none) rfl (wpAny_pure ?_)))))))
  refine wpAny_bind (slicePart_none ?_)
  show wpAny _ _ (if ((1 : Int) == 0) = true then _ else _) _ _ s
  rw [if_neg (by decide)]
  refine wpAny_bind (slicePart_ pl (wpAny_bind (slicePart_ pu (wpAny_bind (wpAny_pure ?_)))))
  show wpAny _ _ (match Builtin.Slice.sliceAdjust lo hi 1 (n : Int) with | (lo, hi) => pure (lo, (1 : Int), Builtin.Slice.slicePlaces lo hi 1)) _ _ s
  rw [adjust_gen lo hi n]
  show wpAny _ _ (pure (((sIx n 0 lo : Nat) : Int), (1 : Int), Builtin.Slice.slicePlaces ((sIx n 0 lo : Nat) : Int) ((sIx n n hi : Nat) : Int) 1)) _ _ s
  rw [places_gen]
  exact wpAny_pure h
theorem pick_gen (xs : Array Value) (i k : Nat) : ((List.range k).filterMap fun (m : Nat) => xs[((i : Int) + (m : Int) * 1).toNat]?).toArray = ((xs.toList.drop i).take k).toArray := by
  have e : (fun (m : Nat) => xs[((i : Int) + (m : Int) * 1).toNat]?) = fun m => xs[i + m]? := by
    funext m
    have : ((i : Int) + (m : Int) * 1).toNat = i + m := by omega
    rw [this]
  rw [e]
  have := pick_run xs i k
  rw [List.filterMap_map] at this
  have e2 : ((fun x => xs[x]?) ∘ fun x => i + x) = fun m => xs[i + m]? := rfl
  rw [e2] at this
  rw [this]

theorem getItem_tuple_cut {t sl : Addr} {items : Array Value} {vl vu : Value} {lo hi : Option Int} {Q : Value → Shared → Prop} (ht : IsTup s.heap t items) (hs : s.heap.IsSliceOf sl vl vu .none) (pl : IsPart vl lo) (pu : IsPart vu hi)
    (hw : ¬ (sIx items.size 0 lo = 0 ∧ sIx items.size items.size hi = items.size))
    (h : Q (.ref s.heap.objs.size) { s with heap := s.heap.push { cls := .type "tuple", data := .seq ((items.toList.drop (sIx items.size 0 lo)).take (sIx items.size items.size hi - sIx items.size 0 lo)).toArray } })
    (hsz : items.size ≤ sizeLine) : wpAny (model prog w) A (getItem (.ref t) (.ref sl)) Q E s := by
  have htake : sizeOk (.seq ((items.toList.drop (sIx items.size 0 lo)).take (sIx items.size items.size hi - sIx items.size 0 lo)).toArray) := by
    show ((items.toList.drop (sIx items.size 0 lo)).take (sIx items.size items.size hi - sIx items.size 0 lo)).toArray.size ≤ sizeLine
    rw [List.size_toArray, List.length_take, List.length_drop, Array.length_toList]
    omega
  have hj : sIx items.size items.size hi ≤ items.size := sIx_le _ _ (Nat.le_refl _) hi
  obtain ⟨os, hos, hcs, hds⟩ := id hs
  have hTs : s.TypeIs (.ref sl) "slice" := ⟨os, hos, hcs⟩
  unfold getItem
  try with_reducible refine wpAny_holding ?_
  first | refine wpAny_bind (wpAny_pure ?_) | skip
  refine wpAny_bind (wpAny_sequenceKey ht.typeIs (by decide) ?_)
  refine wpAny_bind (wpAny_callSpecial?_slot (name := Str.ofString "__getitem__") ht.typeIs PyProof.Rows.slot_tuple_getitem
    (wpAny_call_entry PyProof.Rows.slot_tuple_getitem ht.typeIs entry_tuple_getitem ?_ (args_tuple_getitem _ _)))
  show wpAny _ _ (Builtin.Tuple.tupleItemsOf (.ref t) >>= _) _ _ s
  refine wpAny_bind (tupleItemsOf_ ht ?_)
  refine wpAny_bind (wpAny_typeOf hTs ?_)
  rw [if_pos (by decide)]
  refine wpAny_bind (sliceApplied_gen hs pl pu ?_)
  have hno : ¬ ((((sIx items.size 0 lo : Nat) : Int) == 0 && (1 : Int) == 1 && (sIx items.size items.size hi - sIx items.size 0 lo) == items.size) = true) := by
    intro q
    rw [Bool.and_eq_true, Bool.and_eq_true] at q
    have q1 : ((sIx items.size 0 lo : Nat) : Int) = 0 := eq_of_beq q.1.1
    have q2 : sIx items.size items.size hi - sIx items.size 0 lo = items.size := eq_of_beq q.2
    exact hw ⟨by omega, by omega⟩
  show wpAny _ _ (if (((sIx items.size 0 lo : Nat) : Int) == 0 && (1 : Int) == 1 && (sIx items.size items.size hi - sIx items.size 0 lo) == items.size) = true then _ else _) _ _ s
  rw [if_neg hno, pick_gen]
  first
    | exact wpAny_bind (m := Builtin.Tuple.tupleExact _) (wpAny_newObj_type (wpAny_pure ⟨_, rfl, wpAny_pure h⟩) htake)
    | exact wpAny_bind (m := Builtin.Tuple.tupleExact _) (wpAny_newObj_type (wpAny_bind (wpAny_pure (wpAny_pure ⟨_, rfl, wpAny_pure h⟩))) htake)
    | exact wpAny_bind (wpAny_bind (m := Builtin.Tuple.tupleExact _) (wpAny_newObj_type (wpAny_pure (wpAny_pure ⟨_, rfl, wpAny_pure h⟩)) htake))
    | exact wpAny_bind (wpAny_bind (m := Builtin.Tuple.tupleExact _) (wpAny_newObj_type (wpAny_pure ⟨_, rfl, wpAny_pure h⟩) htake))
end
end HT

namespace L2
open PySem PySem.Spec PyProof.Rows

/-! ### the parts of a slice -/
noncomputable abbrev TO := St → Hp → (Option Int → Hp → Prop) → Prop
/-- a slice's part (left out, or an int) -/
noncomputable def PO (X : Cx) (e : Option Expr) (t : TO) : Prop :=
  ∀ (pins : List (Addr × Obj)) (s : Shared) (σ : St) (H : Hp) (Q : Option Int → Hp → Prop), Inv X pins σ H s → t σ H Q →
    wpAny (model X.prog X.w) X.A (evalPart e X.env) (fun u s' => ∃ o H', Inv X pins σ H' s' ∧ IsPart u o ∧ Q o H') X.xe s
noncomputable def tNoPart : TO := fun _ H Q => Q none H
noncomputable def tPart (t : TE) : TO := fun σ H Q => t σ H fun x H1 => ∃ i, x = .int i ∧ Q (some i) H1


section
variable {X : Cx} {e : Expr} {te : TE} {lo hi : Option Expr} {tl th : TO} {pos p2 : Pos}

theorem po_none : PO X none tNoPart := by
  intro pins s σ H Q I h
  rw [evalPart_none]
  exact wpAny_pure ⟨none, H, I, .none, h⟩
theorem po_some (h : PE X e te) : PO X (some e) (tPart te) := by
  intro pins s σ H Q I hw
  rw [evalPart_some]
  refine thn (h pins s σ H _ I hw) fun u s1 ⟨x, H1, I1, r1, q1⟩ => ?_
  obtain ⟨i, rfl, q⟩ := q1
  obtain ⟨t, rfl⟩ := r1
  exact ⟨some i, H1, I1, .int i t, q⟩

/-- what a slice of a value is, by values: the slice object stands at sl -/
noncomputable def SlR (X : Cx) (r : V → Option Int → Option Int → Hp → VK → Prop) : Prop :=
  ∀ (pins : List (Addr × Obj)) (s : Shared) (σ : St) (H : Hp) (x : V) (v vl vu : Value) (lo hi : Option Int) (sl : Addr) (Q : VK), Inv X pins σ H s → RelV x v → s.heap.IsSliceOf sl vl vu .none → IsPart vl lo → IsPart vu hi → r x lo hi H Q →
    ∃ T id, typeLookup (.type T) "__getitem__" = pure (some (.builtin id)) ∧ s.TypeIs v T ∧ wpAny (model X.prog X.w) X.A (getItem v (.ref sl)) (EP X pins σ Q) X.xe s
noncomputable def tSl (r : V → Option Int → Option Int → Hp → VK → Prop) (te : TE) (tl th : TO) : TE := fun σ H Q => te σ H fun x H1 => tl σ H1 fun l H2 => th σ H2 fun u H3 => r x l u H3 Q
/-- a[lo:hi], any a -/
theorem pe_slice {r : V → Option Int → Option Int → Hp → VK → Prop} (hr : SlR X r) (he : PE X e te) (hl : PO X lo tl) (hu : PO X hi th) : PE X (.Subscript e (.Slice lo hi none p2) pos) (tSl r te tl th) := by
  intro pins s σ H Q I h
  refine Subscript_ (thn (he pins s σ H _ I h) fun v s1 ⟨x, H1, I1, r1, q1⟩ => ?_)
  refine wpAny_Slice (thn (hl pins s1 σ H1 _ I1 q1) fun vl s2 ⟨l, H2, I2, pl, q2⟩ => thn (hu pins s2 σ H2 _ I2 q2) fun vu s3 ⟨u, H3, I3, pu, q3⟩ => ?_)
  rw [evalPart_none]
  refine wpAny_pure ?_
  have I4 : Inv X pins σ H3 { s3 with heap := s3.heap.push { cls := .type "slice", data := .fields #[vl, vu, .none] } } := I3.kept (t' := s3.toks) fun b ob q => Heap.get?_push_of_some _ q
  obtain ⟨T, id, hT, ht, hg⟩ := hr pins { s3 with heap := s3.heap.push { cls := .type "slice", data := .fields #[vl, vu, .none] } } σ H3 x v vl vu l u s3.heap.objs.size Q I4 r1 (Heap.IsSliceOf.new ..) pl pu q3
  show wpAny (model X.prog X.w) X.A (subscriptTail e (.Slice lo hi none p2) v (.ref s3.heap.objs.size)) (EP X pins σ Q) X.xe { s3 with heap := s3.heap.push { cls := .type "slice", data := .fields #[vl, vu, .none] } }
  exact tail_any (ops := [.ref s3.heap.objs.size, v]) ht hT hg (by with_unfolding_all rfl)

/-- the items of xs[lo:hi] -/
noncomputable def cutV (xs : List V) (lo hi : Option Int) : List V := (xs.drop (HT.sIx xs.length 0 lo)).take (HT.sIx xs.length xs.length hi - HT.sIx xs.length 0 lo)
theorem cutV_length (xs : List V) (lo hi : Option Int) : (cutV xs lo hi).length ≤ xs.length := by
  unfold cutV
  rw [List.length_take, List.length_drop]
  omega
/-- t[lo:hi], not the whole of it (the whole would be t itself) -/
noncomputable def rSlT (K : PySem.W.Frag) : V → Option Int → Option Int → Hp → VK → Prop := fun x lo hi H Q => ∃ a xs, x = .ref a ∧ SqT K H a xs ∧
  ¬ (HT.sIx xs.length 0 lo = 0 ∧ HT.sIx xs.length xs.length hi = xs.length) ∧ ∀ p, H p = none → Q (.ref p) (upd H p (.tup (cutV xs lo hi)))
theorem sl_tup : SlR X (rSlT X.K) := by
  intro pins s σ H x v vl vu lo hi sl Q I rx hs pl pu h
  obtain ⟨a, xs, rfl, hx, hw, q⟩ := h
  cases rx
  obtain ⟨its, r, ht, hz⟩ := I.tuple hx
  have hlen : its.toArray.size = xs.length := by rw [List.size_toArray]; exact r.length.symm
  refine ⟨"tuple", _, PyProof.Rows.slot_tuple_getitem.lookup, ht.typeIs, ?_⟩
  refine HT.getItem_tuple_cut ht hs pl pu (by rw [hlen]; exact hw) ?_ (by rw [hlen]; exact hz)
  rw [hlen]
  refine ⟨.ref s.heap.objs.size, _, I.laid (t' := s.toks) (o := .tup (cutV xs lo hi)) (fun b ob q => Heap.get?_push_of_some _ q) (Nat.le_refl _) ?_, rfl, q _ (I.hok.fresh (Nat.le_refl _))⟩
  exact ⟨Nat.le_trans (cutV_length xs lo hi) hz, _, (r.drop (HT.sIx xs.length 0 lo)).take (HT.sIx xs.length xs.length hi - HT.sIx xs.length 0 lo), IsTup.new _ _⟩

/-! ### t < u, t + u -/
noncomputable def rLtT (K : PySem.W.Frag) : R2 := fun x y H Q => ∃ a b ns ms, x = .ref a ∧ y = .ref b ∧ SqT K H a (ns.map V.int) ∧ SqT K H b (ms.map V.int) ∧ Q (.bl (HT.lexLt ns ms)) H
/-- t + u, t not empty: u empty gives t itself -/
noncomputable def rCatT (K : PySem.W.Frag) : R2 := fun x y H Q => ∃ a b xs ys, x = .ref a ∧ y = .ref b ∧ SqT K H a xs ∧ SqT K H b ys ∧ xs ≠ [] ∧ xs.length + ys.length ≤ sizeLine ∧
  (ys = [] → Q (.ref a) H) ∧ (ys ≠ [] → ∀ p, H p = none → Q (.ref p) (upd H p (.tup (xs ++ ys))))
theorem Vals.nil_iff {xs : List V} {us : List Value} (r : Vals xs us) : us = [] ↔ xs = [] := by
  cases r with
  | nil => simp
  | cons _ _ => simp
theorem op_catT : OpR X (binaryOp .Add) (rCatT X.K) := by
  intro pins s σ H x y v u Q I rx ry h
  obtain ⟨a, b, xs, ys, rfl, rfl, ha, hb, hx, hz, q1, q2⟩ := h
  cases rx
  cases ry
  obtain ⟨its, r1, p1, _⟩ := I.tuple ha
  obtain ⟨its2, r2, p2, _⟩ := I.tuple hb
  refine HT.cat_tup p1 p2 (fun z => hx (r1.nil_iff.mp z)) (fun z => ⟨.ref a, H, I, rfl, q1 (r2.nil_iff.mp z)⟩) (fun z => ?_) (by rw [← r1.length, ← r2.length]; exact hz)
  refine ⟨.ref s.heap.objs.size, _, I.laid (t' := s.toks) (o := .tup (xs ++ ys)) (fun b ob q => Heap.get?_push_of_some _ q) (Nat.le_refl _) ?_, rfl, q2 (fun w => z (r2.nil_iff.mpr w)) _ (I.hok.fresh (Nat.le_refl _))⟩
  exact ⟨by rw [List.length_append]; exact hz, _, r1.append r2, IsTup.new _ _⟩
end
end L2

namespace L2
open PySem PySem.Spec PyProof.Rows

/-! ### places -/
/-- the place that an index of any sign means -/
noncomputable def ixN (n : Nat) (i : Int) : Option Nat := if 0 ≤ i then (if i < n then some i.toNat else none) else if -(n : Int) ≤ i then some (i + n).toNat else none
noncomputable def atI {α : Type} (xs : List α) (i : Int) : Option α := (ixN xs.length i).bind fun j => xs[j]?
theorem ixN_seq {n : Nat} {i : Int} {j : Nat} (h : ixN n i = some j) : seqIndex? i n = some j ∧ j < n ∧ -(n : Int) ≤ i ∧ i < n := by
  unfold ixN at h
  by_cases h0 : 0 ≤ i
  · rw [if_pos h0] at h
    by_cases h1 : i < n
    · rw [if_pos h1] at h
      have e : i.toNat = j := Option.some.inj h
      exact ⟨by rw [seqIndex_of h0 h1, e], by omega, by omega, h1⟩
    · rw [if_neg h1] at h; cases h
  · rw [if_neg h0] at h
    by_cases h1 : -(n : Int) ≤ i
    · rw [if_pos h1] at h
      have e : (i + n).toNat = j := Option.some.inj h
      exact ⟨by rw [seqIndex_neg (by omega) h1, e], by omega, h1, by omega⟩
    · rw [if_neg h1] at h; cases h
theorem atI_get {α : Type} {xs : List α} {i : Int} {v : α} (h : atI xs i = some v) : ∃ j, seqIndex? i xs.length = some j ∧ xs[j]? = some v ∧ j < xs.length ∧ -(xs.length : Int) ≤ i ∧ i < xs.length := by
  unfold atI at h
  cases e : ixN xs.length i with
  | none => rw [e] at h; cases h
  | some j =>
    rw [e] at h
    obtain ⟨h1, h2, h3, h4⟩ := ixN_seq e
    exact ⟨j, h1, h, h2, h3, h4⟩
theorem atI_nat {α : Type} {xs : List α} {j : Nat} {v : α} (h : xs[j]? = some v) : atI xs (j : Int) = some v := by
  have hj : j < xs.length := (List.getElem?_eq_some_iff.mp h).1
  have e : ixN xs.length (j : Int) = some j := by
    unfold ixN
    rw [if_pos (by omega), if_pos (by omega)]; simp
  unfold atI; rw [e]; exact h

/-! ### what may be subscripted -/
/-- what stands as an index of a plain subscript -/
noncomputable def PlainIx (b : Expr) : Prop := ∀ o i, subscripted b false o i = operate [o, i] (getItem o i)
/-- a subscript by values -/
noncomputable def IxR (X : Cx) (r : R2) : Prop :=
  ∀ (value slice : Expr) (pins : List (Addr × Obj)) (s : Shared) (σ : St) (H : Hp) (x y : V) (v u : Value) (Q : VK), Inv X pins σ H s → RelV x v → RelV y u → r x y H Q →
    subscripted slice false v u = operate [v, u] (getItem v u) → wpAny (model X.prog X.w) X.A (subscriptTail value slice v u) (EP X pins σ Q) X.xe s
/-- a call of a builtin's method by values: the receiver, the arguments -/
noncomputable def MtR (X : Cx) (id : String) (r : V → List V → Hp → VK → Prop) : Prop :=
  ∀ (pins : List (Addr × Obj)) (s : Shared) (σ : St) (H : Hp) (x : V) (xs : List V) (v : Value) (us : List Value) (Q : VK), Inv X pins σ H s → RelV x v → Vals xs us → r x xs H Q →
    wpAny (model X.prog X.w) X.A (call (.builtin id) (v :: us)) (EP X pins σ Q) X.xe s
section
variable {X : Cx} {a b : Expr} {ta tb : TE} {pos : Pos}
/-- a[b] -/
theorem pe_ix {r : R2} (hr : IxR X r) (ha : PE X a ta) (hb : PE X b tb) (hs : PlainIx b) : PE X (.Subscript a b pos) (tOp r ta tb) := by
  intro pins s σ H Q I h
  exact Subscript_ (binT ha hb I h fun v u s2 x y H2 I2 rx ry q => hr a b pins s2 σ H2 x y v u Q I2 rx ry q (hs _ _))

noncomputable def rIxL (K : PySem.W.Frag) : R2 := fun x y H Q => ∃ p xs i v, x = .ref p ∧ y = .int i ∧ SqL K H p xs ∧ atI xs i = some v ∧ Q v H
noncomputable def rIxT (K : PySem.W.Frag) : R2 := fun x y H Q => ∃ p xs i v, x = .ref p ∧ y = .int i ∧ SqT K H p xs ∧ atI xs i = some v ∧ Q v H
noncomputable def rIxS : R2 := fun x y H Q => ∃ z i c, x = .str z ∧ y = .int i ∧ z.length ≤ sizeLine ∧ atI z.cps.toList i = some c ∧ Q (.str ⟨#[c]⟩) H
theorem ix_list : IxR X (rIxL X.K) := by
  intro value slice pins s σ H x y v u Q I rx ry h hs
  obtain ⟨p, xs, i, z, rfl, rfl, hq, he, q⟩ := h
  cases rx
  obtain ⟨t, rfl⟩ := ry
  obtain ⟨its, r, pl, hz⟩ := I.list hq
  obtain ⟨j, h1, h2, h3, h4, h5⟩ := atI_get he
  obtain ⟨w, ew, rw'⟩ := r.get h2
  have hl := r.length
  have hn := line63
  have fin : EP X pins σ Q w s := ⟨z, H, I, rw', q⟩
  by_cases h0 : 0 ≤ i
  · have hj : i.toNat = j := by
      rw [seqIndex_of h0 h5] at h1
      exact Option.some.inj h1
    exact item_listR pl.isList h0 (by omega) (by rw [hj]; simpa using ew) fin hs
  · have hj : (i + (its.toArray.size : Int)).toNat = j := by
      rw [seqIndex_neg (by omega) h4] at h1
      rw [List.size_toArray, ← hl]
      exact Option.some.inj h1
    exact subscriptTail_builtinR (x := w) pl.isList.typeIs slot_list_getitem.lookup
      (wpAny_getItem_list_neg (Q := fun r s' => r = w ∧ EP X pins σ Q r s') pl.isList (by omega) (by rw [List.size_toArray] <;> omega) (by omega) (by rw [hj]; simpa using ew) ⟨rfl, fin⟩) hs
theorem ix_tup : IxR X (rIxT X.K) := by
  intro value slice pins s σ H x y v u Q I rx ry h hs
  obtain ⟨p, xs, i, z, rfl, rfl, hq, he, q⟩ := h
  cases rx
  obtain ⟨t, rfl⟩ := ry
  obtain ⟨its, r, pl, hz⟩ := I.tuple hq
  obtain ⟨j, h1, h2, h3, h4, h5⟩ := atI_get he
  obtain ⟨w, ew, rw'⟩ := r.get h2
  have hl := r.length
  have hn := line63
  have fin : EP X pins σ Q w s := ⟨z, H, I, rw', q⟩
  exact subscriptTail_builtinR (x := w) pl.typeIs slot_tuple_getitem.lookup
    (getItem_tuple (j := j) (Q := fun r s' => r = w ∧ EP X pins σ Q r s') pl (by omega) (by omega) (by rw [List.size_toArray, ← hl]; exact h1) (by simpa using ew) ⟨rfl, fin⟩) hs
theorem ix_str : IxR X rIxS := by
  intro value slice pins s σ H x y v u Q I rx ry h hs
  obtain ⟨z, i, c, rfl, rfl, hz, he, q⟩ := h
  obtain ⟨t, rfl⟩ := rx
  obtain ⟨t', rfl⟩ := ry
  obtain ⟨j, h1, h2, h3, h4, h5⟩ := atI_get he
  have hl : z.cps.toList.length = z.length := by simp [Str.length]
  rw [hl] at h1 h4 h5
  have hn := line63
  exact tail_any (typeIs_str s z t) slot_str_getitem.lookup (getItem_str (c := c) (by
    have e1 : decide (i < -(2 ^ 63 : Int)) = false := decide_eq_false (by omega)
    have e2 : decide (i ≥ 2 ^ 63) = false := decide_eq_false (by omega)
    rw [e1, e2, Bool.or_false]) (by rw [h1]; simpa using h2) ⟨.str ⟨#[c]⟩, H, I.tok _, ⟨_, rfl⟩, q⟩) hs
/-- list, tuple or str -/
noncomputable def rIx (K : PySem.W.Frag) : R2 := fun x y H Q => rIxL K x y H Q ∨ rIxT K x y H Q ∨ rIxS x y H Q

/-! ### xs[i] = v, any sign -/
/-- the list's object behind a store -/
theorem mapSeq_set (its : List Value) (n j : Nat) (u : Value) : Obj.mapSeq (·.setIfInBounds j u) { cls := .type "list", data := .seq its.toArray n } = { cls := .type "list", data := .seq (its.set j u).toArray n } := by
  simp [Obj.mapSeq]
theorem Inv.lst {pins : List (Addr × Obj)} {σ : St} {H : Hp} {s : Shared} {p : Addr} {xs : List V} (I : Inv X pins σ H s) (h : H p = some (.lst xs)) :
    ∃ (its : List Value) (n : Nat), Vals xs its ∧ s.heap.get? p = some { cls := .type "list", data := .seq its.toArray n } ∧ xs.length ≤ sizeLine := by
  obtain ⟨z, its, n, r, e⟩ := I.hok p _ h
  exact ⟨its, n, r, e, z⟩
/-- the list at p is written by an update of its object -/
theorem Inv.lstUpd {pins : List (Addr × Obj)} {σ : St} {H : Hp} {s : Shared} {p : Addr} {xs ys : List V} {its its' : List Value} {n n' : Nat} {f : Obj → Obj} (I : Inv X pins σ H s) (h : H p = some (.lst xs))
    (ho : s.heap.get? p = some { cls := .type "list", data := .seq its.toArray n }) (hf : f { cls := .type "list", data := .seq its.toArray n } = { cls := .type "list", data := .seq its'.toArray n' }) (r : Vals ys its') (hz : ys.length ≤ sizeLine) (t : Nat) :
    Inv X pins σ (upd H p (.lst ys)) { s with heap := s.heap.update p f, toks := t } := by
  have e : (s.heap.update p f).get? p = some { cls := .type "list", data := .seq its'.toArray n' } := by
    rw [Heap.get?_update_self f ho (by rw [hf] <;> rfl), hf]
  refine I.write (x := p) (e := p) (by rw [h]; trivial) (.inl rfl) (fun b u hb q => (Heap.get?_update_other _ _ (Ne.symm hb)).trans q) ⟨_, e⟩ ?_
  exact ⟨hz, its', n', r, e⟩
noncomputable def rSetL : V → V → V → Hp → (Hp → Prop) → Prop := fun o i v H Q => ∃ p xs k j, o = .ref p ∧ i = .int k ∧ H p = some (.lst xs) ∧ ixN xs.length k = some j ∧ Q (upd H p (.lst (xs.set j v)))
theorem set_list : PSet X rSetL := by
  intro pins s σ H o i v ov iv u Q I ro ri rv h
  obtain ⟨p, xs, k, j, rfl, rfl, hp, hj, q⟩ := h
  cases ro
  obtain ⟨t, rfl⟩ := ri
  obtain ⟨its, n, r, ho, hz⟩ := I.lst hp
  obtain ⟨h1, h2, h3, h4⟩ := ixN_seq hj
  have hl := r.length
  have hn := line63
  have I' : Inv X pins σ (upd H p (.lst (xs.set j v))) { s with heap := s.heap.update p (Obj.mapSeq (·.setIfInBounds j u)) } :=
    I.lstUpd hp ho (mapSeq_set its n j u) (r.set rv j) (by rw [List.length_set]; exact hz) s.toks
  by_cases h0 : 0 ≤ k
  · have hk : k.toNat = j := by
      rw [seqIndex_of h0 h4] at h1
      exact Option.some.inj h1
    exact PySem.W.ki_setAt ho h0 (by omega) (by rw [List.size_toArray, ← hl]; exact h4) (by rw [hk]; exact ⟨_, I', q⟩)
  · have hk : (k + (its.toArray.size : Int)).toNat = j := by
      rw [seqIndex_neg (by omega) h3] at h1
      rw [List.size_toArray, ← hl]
      exact Option.some.inj h1
    exact PySem.W.ki_setBack ho (by omega) (by rw [List.size_toArray, ← hl]; exact h3) (by omega) (by rw [hk]; exact ⟨_, I', q⟩)

/-! ### slices -/
theorem slice_bounds (lo hi : Option Int) (n : Nat) : (sliceBounds lo hi none n).1 = ((HT.sIx n 0 lo : Nat) : Int) ∧ (sliceBounds lo hi none n).2.1 = ((HT.sIx n n hi : Nat) : Int) ∧ (sliceBounds lo hi none n).2.2 = 1 := by
  refine ⟨?_, ?_, rfl⟩
  · cases lo with
    | none => simp [sliceBounds, HT.sIx]
    | some i =>
      simp only [sliceBounds, HT.sIx, Option.getD_none, show (1 : Int) > 0 by decide, if_true]
      by_cases h : i < 0
      · simp only [h, if_true] <;> omega
      · simp only [h, if_false] <;> omega
  · cases hi with
    | none => simp [sliceBounds, HT.sIx]
    | some i =>
      simp only [sliceBounds, HT.sIx, Option.getD_none, show (1 : Int) > 0 by decide, if_true]
      by_cases h : i < 0
      · simp only [h, if_true] <;> omega
      · simp only [h, if_false] <;> omega
theorem slicePick_cut (its : List Value) (lo hi : Option Int) : slicePick its.toArray lo hi none = ((its.drop (HT.sIx its.length 0 lo)).take (HT.sIx its.length its.length hi - HT.sIx its.length 0 lo)).toArray := by
  obtain ⟨h1, h2, h3⟩ := slice_bounds lo hi its.toArray.size
  unfold slicePick
  rw [h1, h2, h3]
  simp only [sliceRange_one, pick_run, List.size_toArray] <;> rfl
/-- xs[lo:hi] of a list: a new list -/
noncomputable def rSlL (K : PySem.W.Frag) : V → Option Int → Option Int → Hp → VK → Prop := fun x lo hi H Q => ∃ a xs, x = .ref a ∧ SqL K H a xs ∧ ∀ p, H p = none → Q (.ref p) (upd H p (.lst (cutV xs lo hi)))
theorem sl_list : SlR X (rSlL X.K) := by
  intro pins s σ H x v vl vu lo hi sl Q I rx hs pl pu h
  obtain ⟨a, xs, rfl, hx, q⟩ := h
  cases rx
  obtain ⟨its, r, ht, hz⟩ := I.list hx
  have hlen := r.length
  refine ⟨"list", _, slot_list_getitem.lookup, ht.isList.typeIs, ?_⟩
  refine wpAny_getItem_list_slice ht.isList hs pl pu .none (by simp) ?_ (by rw [List.size_toArray] <;> omega)
  rw [slicePick_cut, ← hlen]
  refine ⟨.ref s.heap.objs.size, _, I.laid (t' := s.toks) (o := .lst (cutV xs lo hi)) (fun b ob q => Heap.get?_push_of_some _ q) (Nat.le_refl _) ?_, rfl, q _ (I.hok.fresh (Nat.le_refl _))⟩
  exact ⟨Nat.le_trans (cutV_length xs lo hi) hz, _, 0, (r.drop (HT.sIx xs.length 0 lo)).take (HT.sIx xs.length xs.length hi - HT.sIx xs.length 0 lo), Heap.get?_push_size _ rfl⟩

/-! ### in, not in: flat items -/
noncomputable def flatV : V → Bool
  | .non => true
  | .bl _ => true
  | .int _ => true
  | .str _ => true
  | _ => false
/-- == of flat values -/
noncomputable def eqV : V → V → Bool
  | .non, .non => true
  | .bl a, .bl b => a == b
  | .bl a, .int b => (if a then 1 else 0) == b
  | .int a, .bl b => a == (if b then 1 else 0)
  | .int a, .int b => a == b
  | .str a, .str b => a == b
  | _, _ => false
theorem eqAt_V {A : Around} {s : Shared} {y x : V} {u v : Value} (ry : RelV y u) (rx : RelV x v) (fy : flatV y = true) (fx : flatV x = true) : SeqAt.EqAt A s u v (eqV y x) := by
  cases y with
  | non =>
    cases ry
    cases x with
    | non => cases rx; exact SeqAt.EqAt.same _
    | bl b => cases rx; exact SeqAt.EqAt.none_bool b
    | int b => obtain ⟨t, rfl⟩ := rx; exact SeqAt.EqAt.none_int b t
    | str b => obtain ⟨t, rfl⟩ := rx; exact SeqAt.EqAt.none_str b t
    | _ => exact absurd (show false = true from fx) Bool.false_ne_true
  | bl a =>
    cases ry
    cases x with
    | non => cases rx; exact SeqAt.EqAt.bool_none a
    | bl b => cases rx; exact SeqAt.EqAt.bool_bool a b
    | int b => obtain ⟨t, rfl⟩ := rx; exact SeqAt.EqAt.bool_int a b t
    | str b => obtain ⟨t, rfl⟩ := rx; exact SeqAt.EqAt.bool_str a b t
    | _ => exact absurd (show false = true from fx) Bool.false_ne_true
  | int a =>
    obtain ⟨t', rfl⟩ := ry
    cases x with
    | non => cases rx; exact SeqAt.EqAt.int_none a t'
    | bl b => cases rx; exact SeqAt.EqAt.int_bool a t' b
    | int b => obtain ⟨t, rfl⟩ := rx; exact SeqAt.EqAt.int_int a t' b t
    | str b => obtain ⟨t, rfl⟩ := rx; exact SeqAt.EqAt.int_str a t' b t
    | _ => exact absurd (show false = true from fx) Bool.false_ne_true
  | str a =>
    obtain ⟨t', rfl⟩ := ry
    cases x with
    | non => cases rx; exact SeqAt.EqAt.str_none a t'
    | bl b => cases rx; exact SeqAt.EqAt.str_bool a t' b
    | int b => obtain ⟨t, rfl⟩ := rx; exact SeqAt.EqAt.str_int a t' b t
    | str b => obtain ⟨t, rfl⟩ := rx; exact SeqAt.EqAt.str_str a t' b t
    | _ => exact absurd (show false = true from fx) Bool.false_ne_true
  | _ => exact absurd (show false = true from fy) Bool.false_ne_true
/-- the items' answers, read off the values (a value's own answer does not lean on its token) -/
noncomputable def eqU (x : V) (u : Value) : Bool := match u with
  | .none => eqV .non x
  | .bool b => eqV (.bl b) x
  | .int i _ => eqV (.int i) x
  | .str z _ => eqV (.str z) x
  | _ => false
theorem eqU_of {x y : V} {u : Value} (r : RelV y u) (f : flatV y = true) : eqU x u = eqV y x := by
  cases y with
  | non => cases r; rfl
  | bl b => cases r; rfl
  | int i => obtain ⟨t, rfl⟩ := r; rfl
  | str z => obtain ⟨t, rfl⟩ := r; rfl
  | _ => exact absurd (show false = true from f) Bool.false_ne_true
theorem any_eqU {x : V} : ∀ {xs : List V} {us : List Value}, Vals xs us → xs.all flatV = true → us.any (eqU x) = xs.any fun y => eqV y x
  | _, _, .nil, _ => rfl
  | y :: xs, u :: us, .cons r t, f => by
    rw [List.all_cons, Bool.and_eq_true] at f
    rw [List.any_cons, List.any_cons, eqU_of r f.1, any_eqU t f.2]
theorem mem_eqAt {A : Around} {s : Shared} {x : V} {v : Value} (rx : RelV x v) (fx : flatV x = true) : ∀ {xs : List V} {us : List Value}, Vals xs us → xs.all flatV = true → ∀ u ∈ us, SeqAt.EqAt A s u v (eqU x u)
  | _, _, .nil, _ => fun u hu => by cases hu
  | y :: xs, u :: us, .cons r t, f => fun u' hu => by
    rw [List.all_cons, Bool.and_eq_true] at f
    rcases List.mem_cons.mp hu with rfl | hu
    · rw [eqU_of r f.1]; exact eqAt_V r rx f.1 fx
    · exact mem_eqAt rx fx t f.2 u' hu
noncomputable def inV (x : V) (xs : List V) : Bool := xs.any fun y => eqV y x
/-- x in a list or tuple of flat items -/
noncomputable def rIn (K : PySem.W.Frag) (neg : Bool) : R2 := fun x y H Q => ∃ p xs, y = .ref p ∧ (SqL K H p xs ∨ SqT K H p xs) ∧ flatV x = true ∧ xs.all flatV = true ∧ Q (.bl (if neg then !inV x xs else inV x xs)) H
theorem op_in_seq : OpR X (compareOp .In) (rIn X.K false) := by
  intro pins s σ H x y v u Q I rx ry h
  obtain ⟨p, xs, rfl, hq, fx, fs, q⟩ := h
  cases ry
  rcases hq with hq | hq
  · obtain ⟨its, r, pl, hz⟩ := I.list hq
    refine SeqAt.in_listAt (eqU x) pl.isList (fun w hw => mem_eqAt rx fx r fs w (by simpa using hw)) ⟨.bl _, H, I, rfl, ?_⟩
    rw [show its.toArray.any (eqU x) = its.any (eqU x) by simp, any_eqU r fs]
    exact q
  · obtain ⟨its, r, pl, hz⟩ := I.tuple hq
    refine SeqAt.in_tupleAt (eqU x) pl (fun w hw => mem_eqAt rx fx r fs w (by simpa using hw)) ⟨.bl _, H, I, rfl, ?_⟩
    rw [show its.toArray.any (eqU x) = its.any (eqU x) by simp, any_eqU r fs]
    exact q
theorem op_notIn_seq : OpR X (compareOp .NotIn) (rIn X.K true) := by
  intro pins s σ H x y v u Q I rx ry h
  obtain ⟨p, xs, rfl, hq, fx, fs, q⟩ := h
  cases ry
  rcases hq with hq | hq
  · obtain ⟨its, r, pl, hz⟩ := I.list hq
    refine SeqAt.notIn_listAt (eqU x) pl.isList (fun w hw => mem_eqAt rx fx r fs w (by simpa using hw)) ⟨.bl _, H, I, rfl, ?_⟩
    rw [show its.toArray.any (eqU x) = its.any (eqU x) by simp, any_eqU r fs]
    exact q
  · obtain ⟨its, r, pl, hz⟩ := I.tuple hq
    refine SeqAt.notIn_tupleAt (eqU x) pl (fun w hw => mem_eqAt rx fx r fs w (by simpa using hw)) ⟨.bl _, H, I, rfl, ?_⟩
    rw [show its.toArray.any (eqU x) = its.any (eqU x) by simp, any_eqU r fs]
    exact q

/-! ### len, list(x), tuple(x) of any list or tuple that is read -/
theorem call_len_seq : CallR X (.builtin "len") (fun xs H Q => ∃ p ys, xs = [.ref p] ∧ (SqL X.K H p ys ∨ SqT X.K H p ys) ∧ Q (.int ys.length) H) := by
  intro pins s σ H xs us Q I r h
  obtain ⟨p, ys, rfl, hq, q⟩ := h
  obtain ⟨u, rfl, rx⟩ := vals1 r
  cases rx
  have hn := line63
  rcases hq with hq | hq
  · obtain ⟨its, r', pl, hz⟩ := I.list hq
    have hlen := r'.length
    exact Calls.call_len_list pl.isList (by simp only [List.size_toArray] <;> omega) ⟨.int ys.length, H, I.tok _, ⟨s.toks + 1, by rw [List.size_toArray, hlen]⟩, q⟩
  · obtain ⟨its, r', pl, hz⟩ := I.tuple hq
    have hlen := r'.length
    exact len_tuple pl (by simp only [List.size_toArray] <;> omega) ⟨.int ys.length, H, I.tok _, ⟨s.toks + 1, by rw [List.size_toArray, hlen]⟩, q⟩
theorem call_len_str : CallR X (.builtin "len") (fun xs H Q => ∃ z, xs = [.str z] ∧ z.length ≤ sizeLine ∧ Q (.int z.length) H) := by
  intro pins s σ H xs us Q I r h
  obtain ⟨z, rfl, hz, q⟩ := h
  obtain ⟨u, rfl, t, rfl⟩ := vals1 r
  have hn := line63
  exact len_str (by omega) ⟨.int z.length, H, I.tok _, ⟨_, rfl⟩, q⟩
theorem call_tuple_of : CallR X (.type "tuple") (fun xs H Q => ∃ p ys, xs = [.ref p] ∧ ((SqL X.K H p ys ∧ ∀ l, H l = none → Q (.ref l) (upd H l (.tup ys))) ∨ (SqT X.K H p ys ∧ Q (.ref p) H))) := by
  intro pins s σ H xs us Q I r h
  obtain ⟨p, ys, rfl, h⟩ := h
  obtain ⟨u, rfl, rx⟩ := vals1 r
  cases rx
  rcases h with ⟨hq, q⟩ | ⟨hq, q⟩
  · obtain ⟨its, r', pl, hz⟩ := I.list hq
    have hlen := r'.length
    refine call_tuple_list pl.isList (fun h' kp => ?_) (by simp only [List.size_toArray] <;> omega)
    have I1 : Inv X pins σ H { s with heap := h' } := I.kept (t' := s.toks) kp
    have I2 : Inv X pins σ (upd H h'.objs.size (.tup ys)) { s with heap := h'.push { cls := .type "tuple", data := .seq its.toArray } } :=
      I1.laid (t' := s.toks) (fun b o e => Heap.get?_push_of_some _ e) (Nat.le_refl _) (show ObjOk X.prog X.w _ _ _ (.tup ys) from ⟨hz, its, r', IsTup.new _ _⟩)
    exact ⟨.ref h'.objs.size, _, I2, rfl, q _ (I1.hok.fresh (Nat.le_refl _))⟩
  · obtain ⟨its, r', pl, hz⟩ := I.tuple hq
    exact call_tuple_same pl ⟨.ref p, H, I, rfl, q⟩

/-! ### the call of a builtin's method: o.m(..) -/
/-- the value is of that builtin type -/
noncomputable def tyV (K : PySem.W.Frag) (T : String) (x : V) (H : Hp) : Prop := match x with
  | .str _ => T = "str"
  | .int _ => T = "int"
  | .ref p => (T = "list" ∧ ∃ xs, SqL K H p xs) ∨ (T = "tuple" ∧ ∃ o, K.lookup p = some o ∧ o.cls = .type "tuple" ∧ o.dict = none) ∨
      (T = "dict" ∧ ((∃ kvs, H p = some (.dK kvs)) ∨ ∃ kvs, H p = some (.dT kvs))) ∨ (T = "set" ∧ ∃ S n, H p = some (.set S n))
  | _ => False
theorem tyV_is {pins : List (Addr × Obj)} {σ : St} {H : Hp} {s : Shared} {T : String} {x : V} {v : Value} (I : Inv X pins σ H s) (r : RelV x v) (ty : tyV X.K T x H) :
    s.TypeIs v T ∧ ∀ a, v = .ref a → ∃ ob, s.heap.get? a = some ob ∧ ob.dict = none := by
  cases x with
  | str z =>
    obtain ⟨t, rfl⟩ := r
    cases (show T = "str" from ty)
    exact ⟨typeIs_str s z t, fun _ e => nomatch e⟩
  | int i =>
    obtain ⟨t, rfl⟩ := r
    cases (show T = "int" from ty)
    exact ⟨typeIs_int s i t, fun _ e => nomatch e⟩
  | ref p =>
    cases r
    rcases ty with ⟨rfl, xs, hq⟩ | ⟨rfl, o, hk, hc, hd⟩ | ⟨rfl, hk⟩ | ⟨rfl, S, n, hk⟩
    · obtain ⟨its, _, pl, _⟩ := I.list hq
      refine ⟨pl.isList.typeIs, fun a e => ?_⟩
      cases e
      obtain ⟨o, n, e, c, hd, _⟩ := pl
      exact ⟨o, e, hd⟩
    · refine ⟨⟨o, I.kIn p o hk, hc⟩, fun a e => ?_⟩
      cases e
      exact ⟨o, I.kIn _ o hk, hd⟩
    · have z : ∃ o, s.heap.get? p = some o ∧ o.ExactDict := by
        rcases hk with ⟨kvs, hk⟩ | ⟨kvs, hk⟩
        · obtain ⟨_, _, _, _, o, _, _, e, ex, _⟩ := I.hok p _ hk
          exact ⟨o, e, ex⟩
        · obtain ⟨_, _, _, _, o, _, _, e, ex, _⟩ := I.hok p _ hk
          exact ⟨o, e, ex⟩
      obtain ⟨o, e, ex⟩ := z
      refine ⟨⟨o, e, ex.1⟩, fun a e2 => ?_⟩
      cases e2
      exact ⟨o, e, ex.2.1⟩
    · obtain ⟨o, _, _, _, e, ex, _⟩ := I.hok p _ hk
      refine ⟨⟨o, e, ex.1⟩, fun a e2 => ?_⟩
      cases e2
      exact ⟨o, e, ex.2.1⟩
  | _ => exact False.elim ty
noncomputable def tBM0 (K : PySem.W.Frag) (T : String) (r : V → List V → Hp → VK → Prop) (to : TE) : TE := fun σ H Q => to σ H fun x H1 => tyV K T x H1 ∧ r x [] H1 Q
noncomputable def tBM (K : PySem.W.Frag) (T : String) (r : V → List V → Hp → VK → Prop) (to : TE) (t : TA) : TE := fun σ H Q => to σ H fun x H1 => tyV K T x H1 ∧ t σ H1 fun xs H2 => r x xs H2 Q
variable {o e : Expr} {es : List Expr} {to : TE} {t : TA} {name : Str} {apos cpos : Pos} {T id : String} {r : V → List V → Hp → VK → Prop}
theorem pe_bm0 (pa : PlainAttrs T) (slot : Slot T name id) (hty : typeOf (.builtin id) = pure (.type "method_descriptor")) (hm : MtR X id r) (ho : PE X o to)
    (hbase : attributeBase o name X.env (eval o X.env) = eval o X.env := by rfl) (hline : (apos.endLine == cpos.line) = true := by rfl) : PE X (.Call (.Attribute o name apos) [] [] cpos) (tBM0 X.K T r to) := by
  intro pins s σ H Q I h
  refine wpAny_Call_method0_late hbase hline (thn (ho pins s σ H _ I h) fun v s1 ⟨x, H1, I1, r1, ty, q1⟩ => ?_)
  obtain ⟨h1, h2⟩ := tyV_is I1 r1 ty
  exact ⟨T, id, pa, slot, hty, h1, h2, Calls.callWith_builtin rfl (PySem.evalArgs_none (hm pins s1 σ H1 x [] v [] Q I1 r1 .nil q1))⟩
theorem pe_bm (pa : PlainAttrs T) (slot : Slot T name id) (hty : typeOf (.builtin id) = pure (.type "method_descriptor")) (hm : MtR X id r) (ho : PE X o to) (ha : PA X (e :: es) t)
    (hbase : attributeBase o name X.env (eval o X.env) = eval o X.env := by rfl)
    (hfew : ((backTo cpos (starEach (e :: es) X.env)).all (fun x => !x.1) && (backToKw cpos (keywordEach [] X.env)).all (fun x => x.1.isSome)
      && decide ((e :: es).length + ([] : List Keyword).length + (if ([] : List Keyword).isEmpty then 0 else 1) < 30)) = true := by rfl)
    (hline : (apos.endLine == cpos.line) = true := by rfl) (hs : starEach (e :: es) X.env = (false, eval e X.env) :: starEach es X.env := by rfl) (hplain : (backTo cpos (starEach es X.env)).any (·.1) = false := by rfl) :
    PE X (.Call (.Attribute o name apos) (e :: es) [] cpos) (tBM X.K T r to t) := by
  intro pins s σ H Q I h
  refine wpAny_Call_method_late hbase hfew hline rfl (thn (ho pins s σ H _ I h) fun v s1 ⟨x, H1, I1, r1, ty, q1⟩ => ?_)
  obtain ⟨h1, h2⟩ := tyV_is I1 r1 ty
  refine ⟨T, id, pa, slot, hty, h1, h2, ?_⟩
  have hA := ha cpos pins s1 σ H1 _ I1 q1
  rw [hs] at hA ⊢
  refine Calls.callWith_builtin (by show (false || (backTo cpos (starEach es X.env)).any (·.1)) = false; rw [hplain] <;> rfl) (Calls.evalArgs_plain ?_)
  exact thn hA fun us s2 ⟨vs, H2, I2, r2, q2⟩ => hm pins s2 σ H2 x vs v us Q I2 r1 r2 q2
/- xs.append(e), list.index on a module's tuple .. are MtR facts of 06m -/
end
end L2

namespace L2
open PySem PySem.Spec PyProof.Rows

noncomputable def MtM (X : Cx) (id : String) (r : V → List V → Hp → VK → Prop) : Prop :=
  ∀ (pins : List (Addr × Obj)) (s : Shared) (σ : St) (H : Hp) (x : V) (xs : List V) (v : Value) (us : List Value) (Q : VK), Inv X pins σ H s → RelV x v → Vals xs us → r x xs H Q →
    wpAny (model X.prog X.w) X.A (call (.builtin id) (v :: us)) (EP X pins σ Q) X.xe s

/-! ### lists of values -/
theorem Vals.one : ∀ {x : V} {us : List Value}, Vals [x] us → ∃ u, us = [u] ∧ RelV x u
  | _, _, .cons r .nil => ⟨_, rfl, r⟩
theorem Vals.zero : ∀ {us : List Value}, Vals [] us → us = []
  | _, .nil => rfl
theorem Vals.dropLast {xs : List V} {us : List Value} (h : Vals xs us) : Vals xs.dropLast us.dropLast := by
  induction h with
  | nil => exact .nil
  | cons r t ih =>
    cases t with
    | nil => exact .nil
    | cons q t' => exact .cons r ih
theorem Vals.reverse {xs : List V} {us : List Value} (h : Vals xs us) : Vals xs.reverse us.reverse := by
  induction h with
  | nil => exact .nil
  | cons r t ih => rw [List.reverse_cons, List.reverse_cons]; exact Vals.append ih (.cons r .nil)
theorem erase_last {α : Type} (l : List α) : l.eraseIdx (l.length - 1) = l.dropLast := by
  induction l with
  | nil => rfl
  | cons a r ih =>
    cases r with
    | nil => rfl
    | cons b r =>
      have e : (a :: b :: r).length - 1 = ((b :: r).length - 1) + 1 := by
        have h1 : (a :: b :: r).length = r.length + 2 := rfl
        have h2 : (b :: r).length = r.length + 1 := rfl
        omega
      rw [e, List.eraseIdx_cons_succ, ih]
      all_goals rfl

section
variable {X : Cx} {pins : List (Addr × Obj)} {σ : St} {H : Hp} {s : Shared} {l b : Addr} {xs ys zs : List V}

/-! ### the two steps: a tracked list is rewritten, a new list is laid -/
theorem Inv.lset {its its' : List Value} {n : Nat} {f : Array Value → Array Value} {t' : Nat} (I : Inv X pins σ H s) (hH : H l = some (.lst xs))
    (e : s.heap.get? l = some { cls := .type "list", data := .seq its.toArray n }) (hf : f its.toArray = its'.toArray) (hv : Vals ys its') (hz : ys.length ≤ sizeLine) :
    Inv X pins σ (upd H l (.lst ys)) { s with heap := s.heap.update l (Obj.mapSeq f), toks := t' } := by
  have q := PySem.IsL.update e f
  rw [hf] at q
  refine I.write (x := l) (e := l) (by rw [hH]; exact trivial) (.inl rfl) (fun b' u hb hu => (Heap.get?_update_other s.heap (Obj.mapSeq f) (Ne.symm hb)).trans hu) ⟨_, q⟩ ?_
  exact ⟨hz, its', _, hv, q⟩
theorem Inv.lnew {its : List Value} {t' : Nat} (I : Inv X pins σ H s) (hv : Vals ys its) (hz : ys.length ≤ sizeLine) :
    Inv X pins σ (upd H s.heap.objs.size (.lst ys)) { s with heap := s.heap.push { cls := .type "list", data := .seq its.toArray }, toks := t' } :=
  I.laid (fun _ _ q => Heap.get?_push_of_some _ q) (Nat.le_refl _) ⟨hz, its, 0, hv, Heap.get?_push_size _ rfl⟩
theorem Inv.fresh (I : Inv X pins σ H s) : H s.heap.objs.size = none := I.hok.fresh (Nat.le_refl _)
theorem Inv.lstM (I : Inv X pins σ H s) (hH : H l = some (.lst xs)) : xs.length ≤ sizeLine ∧ ∃ (its : List Value) (n : Nat), Vals xs its ∧ xs.length = its.length ∧ s.heap.get? l = some { cls := .type "list", data := .seq its.toArray n } := by
  obtain ⟨z, its, n, r, e⟩ := I.hok l _ hH
  exact ⟨z, its, n, r, r.length, e⟩

theorem notLongL {n : Nat} (h : n ≤ sizeLine) : Builtin.List.listTooLong n = false := by
  unfold Builtin.List.listTooLong
  exact decide_eq_false (by omega)
end

section
variable {X : Cx}

/-! ### methods -/
noncomputable def rAppend : V → List V → Hp → VK → Prop := fun x vs H Q => ∃ l xs y, x = .ref l ∧ vs = [y] ∧ H l = some (.lst xs) ∧ xs.length < sizeLine ∧ Q .non (upd H l (.lst (xs ++ [y])))
theorem mt_append : MtM X "list.append" rAppend := by
  intro pins s σ H x vs v us Q I rx rv h
  obtain ⟨l, xs, y, rfl, rfl, hH, hz, q⟩ := h
  cases rx
  obtain ⟨u, rfl, ru⟩ := rv.one
  obtain ⟨z, its, n, r, hl, e⟩ := I.lstM hH
  refine call_meets F.slot_list_append ⟨_, e, rfl⟩ F.entry_list_append (F.args_list_append_2 _ _) (PySem.list_append l its.toArray n u (by rw [List.size_toArray]; omega)) ⟨e, ?_⟩
  refine ⟨.non, _, I.lset (its' := its ++ [u]) hH e (by simp) (r.append (.cons ru .nil)) ?_, rfl, q⟩
  rw [List.length_append, List.length_singleton]
  omega

noncomputable def rExtend : V → List V → Hp → VK → Prop := fun x vs H Q => ∃ l b xs zs, x = .ref l ∧ vs = [.ref b] ∧ H l = some (.lst xs) ∧ H b = some (.lst zs) ∧ xs.length + zs.length ≤ sizeLine ∧ Q .non (upd H l (.lst (xs ++ zs)))
theorem mt_extend : MtM X "list.extend" rExtend := by
  intro pins s σ H x vs v us Q I rx rv h
  obtain ⟨l, b, xs, zs, rfl, rfl, hH, hB, hz, q⟩ := h
  cases rx
  obtain ⟨u, rfl, ru⟩ := rv.one
  cases ru
  obtain ⟨z, its, n, r, hl, e⟩ := I.lstM hH
  obtain ⟨z2, its2, n2, r2, hl2, e2⟩ := I.lstM hB
  have hsz : its.toArray.size + its2.toArray.size ≤ sizeLine := by rw [List.size_toArray, List.size_toArray]; omega
  have hlong : ¬ (!its.toArray.isEmpty && Builtin.List.listTooLong (its.toArray.size + its2.toArray.size)) = true := by
    rw [notLongL hsz, Bool.and_false]
    exact Bool.false_ne_true
  refine call_meets F.slot_list_extend ⟨_, e, rfl⟩ F.entry_list_extend (F.args_list_extend_2 _ _)
    (AutoSeq1.list_extend_list_list_0 l its.toArray n b its2.toArray n2 hlong (by rw [List.size_toArray]; omega) (by omega)) ⟨e, e2, ?_⟩
  refine ⟨.non, _, I.lset (its' := its ++ its2) hH e (by simp) (r.append r2) ?_, rfl, q⟩
  rw [List.length_append]
  omega

noncomputable def rPop : V → List V → Hp → VK → Prop := fun x vs H Q => ∃ l xs y, x = .ref l ∧ vs = [] ∧ H l = some (.lst xs) ∧ xs[xs.length - 1]? = some y ∧ Q y (upd H l (.lst xs.dropLast))
theorem mt_pop : MtM X "list.pop" rPop := by
  intro pins s σ H x vs v us Q I rx rv h
  obtain ⟨l, xs, y, rfl, rfl, hH, hy, q⟩ := h
  cases rx
  have hus := rv.zero
  subst hus
  obtain ⟨z, its, n, r, hl, e⟩ := I.lstM hH
  obtain ⟨u, hu, ru⟩ := r.get hy
  have hy' : its.toArray[its.toArray.size - 1]? = some u := by
    show its.toArray[its.length - 1]? = some u
    rw [← Array.getElem?_toList, ← hl]
    exact hu
  refine call_meets F.slot_list_pop ⟨_, e, rfl⟩ F.entry_list_pop (F.args_list_pop_1 _) (MeetsSeq.list_pop_last l its.toArray n u hy' (by rw [List.size_toArray]; omega)) ⟨e, ?_⟩
  refine ⟨y, _, I.lset (its' := its.dropLast) hH e ?_ r.dropLast ?_, ru, q⟩
  · show its.toArray.eraseIdxIfInBounds (its.toArray.size - 1) = its.dropLast.toArray
    rw [List.size_toArray, List.eraseIdxIfInBounds_toArray, erase_last]
  · rw [List.length_dropLast]
    omega

noncomputable def rPopAt : V → List V → Hp → VK → Prop := fun x vs H Q => ∃ l xs i k y, x = .ref l ∧ vs = [.int i] ∧ H l = some (.lst xs) ∧ -(2 ^ 63) ≤ i ∧ i < 2 ^ 63 ∧ seqIndex? i xs.length = some k ∧ xs[k]? = some y ∧ Q y (upd H l (.lst (xs.eraseIdx k)))

noncomputable def rReverse : V → List V → Hp → VK → Prop := fun x vs H Q => ∃ l xs, x = .ref l ∧ vs = [] ∧ H l = some (.lst xs) ∧ Q .non (upd H l (.lst xs.reverse))

noncomputable def rClear : V → List V → Hp → VK → Prop := fun x vs H Q => ∃ l xs, x = .ref l ∧ vs = [] ∧ H l = some (.lst xs) ∧ Q .non (upd H l (.lst []))

/-! ### list + list, list += list, list * int -/
noncomputable def rCat : R2 := fun x y H Q => ∃ l b xs zs, x = .ref l ∧ y = .ref b ∧ H l = some (.lst xs) ∧ H b = some (.lst zs) ∧ xs.length + zs.length ≤ sizeLine ∧ ∀ p, H p = none → Q (.ref p) (upd H p (.lst (xs ++ zs)))
theorem op_cat : OpR X (binaryOp .Add) rCat := by
  intro pins s σ H x y v u Q I rx ry h
  obtain ⟨l, b, xs, zs, rfl, rfl, hH, hB, hz, q⟩ := h
  cases rx
  cases ry
  obtain ⟨z, its, n, r, hl, e⟩ := I.lstM hH
  obtain ⟨z2, its2, n2, r2, hl2, e2⟩ := I.lstM hB
  refine PySem.P.add_list e e2 ?_ (by rw [List.size_toArray, List.size_toArray]; omega)
  have ea : its.toArray ++ its2.toArray = (its ++ its2).toArray := by simp
  rw [ea]
  exact ⟨.ref _, _, I.lnew (t' := s.toks) (r.append r2) (by rw [List.length_append]; omega), rfl, q _ I.fresh⟩
/-- a list times an int (a negative one is nothing) -/
noncomputable def rRep : R2 := fun x y H Q => ∃ l k xs, x = .ref l ∧ y = .int k ∧ H l = some (.lst xs) ∧ -(2 ^ 63) ≤ k ∧ k < 2 ^ 63 ∧ xs.length * k.toNat ≤ sizeLine ∧
  ∀ p, H p = none → Q (.ref p) (upd H p (.lst (List.replicate k.toNat xs).flatten))

/-! ### del xs[i] -/
end

/-! ### xs[a:b] = ys -/
section
variable {prog : Program} {w : World} {A : Around} {E : Value → Shared → Prop} {s : Shared}
end

section
variable {X : Cx}
end
end L2

namespace Att
open PySem PySem.W PySem.Calls PyProof.Rows

/-! ### the script -/
theorem ints_of_wellAll {P : Params} {h : Heap} : ∀ (ns : List Int) (vs : List Value), WellAll P h vs (ns.map WData.int) → IntsAre vs ns := by
  intro ns
  induction ns with
  | nil =>
    intro vs w
    rw [List.map_nil] at w
    cases w
    exact .nil
  | cons n ns ih =>
    intro vs w
    rw [List.map_cons] at w
    cases w with
    | cons a b =>
      cases a
      exact .cons _ _ (ih _ b)

theorem script_of {l : OpenLaw} {n : Nat} (hn : l.most = some n) {P : Params} {h : Heap} {args : List WData} {vals : List Value}
    (hpre : l.row.toRowW.claim.pre args = true) (hwl : WellAll P h vals args) :
    ∃ a vs ns, vals = [Value.ref a] ∧ args = [WData.list (ns.map WData.int)] ∧ h.get? a = some { cls := .type "list", data := .seq vs.toArray } ∧ IntsAre vs ns ∧ ns.length ≤ n := by
  have hsh : WShape.hasAll [] args [.list .int] = true := (pre_splitW hpre).1
  have hc : l.pre.holds [] { args := args } = true := (pre_splitW hpre).2
  obtain ⟨d, r, rfl, h1, h2⟩ := hasAllW_cons hsh
  obtain rfl := hasAllW_nil h2
  obtain ⟨xs, rfl, h3⟩ := hasW_list h1
  obtain ⟨ns, rfl⟩ := items_int h3
  have hlen : ns.length ≤ n := by
    unfold OpenLaw.pre at hc
    have h4 : (WTm.not (.lt (.lit (.int (n : Int))) (.len (.arg 0)))).holds [] { args := [.list (ns.map .int)] } = true := by
      have h4 := (holds_andW hc).1
      rw [hn] at h4
      exact h4
    have h5 := condW_of h4 (w_not (w_lt w_lit (w_len_list (w_arg rfl))))
    rw [List.length_map] at h5
    refine Nat.le_of_not_lt fun q => ?_
    have q' : (n : Int) < ((ns.length : Nat) : Int) := by omega
    first
      | (rw [decide_eq_true q'] at h5; exact absurd h5 (by decide))
      | (simp at h5; omega)
  cases hwl with
  | cons w1 w2 =>
    cases w2
    cases w1 with
    | list ho hall => exact ⟨_, _, ns, rfl, rfl, ho, ints_of_wellAll ns _ hall, hlen⟩

theorem post_true (l : OpenLaw) (args : List WData) : l.row.toRowW.claim.post args (.bool true) args = true :=
  postW_of (r := l.row.toRowW) (X := (true == true))
    (show WShape.has [] (.bool true) .bool = true by first | rfl | decide | simp [WShape.has, WShape.arms, WShape.armsAll])
    (show (WTm.eq .res (.lit (.bool true))).value [] { args := args, res := some (.bool true), after := args } = some (.bool (true == true)) from w_eq_bool (w_res rfl) w_lit) rfl

/-! ### the attachment: holds_open's last premise (the goal 'hc' behind k_head) from a wpAny of the law's body -/

/-- the same from a codeAny of the CALL (for a layer whose function contracts speak of calls) -/
theorem attach_call {l : OpenLaw} {n : Nat} {q : Program} {loose : List Str} {XP : (Str → Option Value) → Heap → Prop} {YP : World → Heap → Prop} {d : DefRec}
    (hn : l.most = some n) (hdf : d.params.defaults = [])
    (call : ∀ (w : World) (s₀ s₁ : Shared) (mg mb : Str → Option Value) (fa : Addr) (o : Obj) (pm cd doc : Value) (a : Addr) (vs : List Value) (ns : List Int),
      Ground q loose [] XP w s₀ mg mb s₁.heap → YP w s₁.heap →
      s₁.heap.get? fa = some o → o.data = .func (docDef d.name d.params d.body d.scope pm cd doc) → s₁.heap.CodeRec cd d.name → mg d.name = some (.ref fa) →
      s₁.heap.get? a = some { cls := .type "list", data := .seq vs.toArray } → IntsAre vs ns → ns.length ≤ n → s₁.gens = #[] →
      codeAny (model l.prog w) callerA (.call (.ref fa) ⟨[.ref a], []⟩) (fun r s' => r = .ok (.ret (.bool true)) ∧ OldK s₁.heap s'.heap ∧ s'.os = s₁.os ∧ AllBare s'.gens) s₁) :
    WalkO q loose XP YP l.row.toRowW d [] (fun f vs => PySem.call f vs) := by
  intro w s₀ s₁ mg mb G Y fa o pm cd doc dV kV ho hd hcd hD hmg hg args vals as hpre hlay hrd hwl hlo
  obtain rfl : dV = .none := Dflts.none hD hdf
  obtain rfl : kV = .none := Dflts.noKw hD
  obtain ⟨a, vs, ns, rfl, rfl, hobj, hints, hlen⟩ := script_of hn hpre hwl
  refine enter_call (codeAny_mono (call w s₀ s₁ mg mb fa o pm cd doc a vs ns G Y ho (fd_plain hd) hcd hmg hobj hints hlen hg) fun r s' hq => ?_)
  obtain ⟨rfl, h2, h3, h4⟩ := hq
  exact ⟨.inl ⟨.bool true, .bool true, [], rfl, fun _ => rfl, .bool true, post_true l _, fun _ => ⟨List.Pairwise.nil, fun _ hm => (nomatch hm)⟩⟩, h2, h3, h4⟩


/-! ### rules over ANY heap (no ledger) from facts about the written part K: the library's own take a ledger (News) for what they write -/
section
variable {prog : Program} {w : World} {A : Around} {E : Value → Shared → Prop} {s : Shared} {K : Frag}





/-! the whole heap as the ledger: makes every rule that writes through a ledger a rule over any heap -/
noncomputable def noObjs (h : Heap) : Heap := { h with objs := #[] }
noncomputable def ledger (h : Heap) (L d : Addr) : List (Addr × Obj) := (List.range h.objs.size).filterMap fun a => if a = L ∨ a = d then none else (h.get? a).map fun o => (a, o)

end
end Att

namespace L2
open PySem PySem.Spec PyProof.Rows

theorem vals_ints : ∀ {vs : List Value} {ns : List Int}, IntsAre vs ns → Vals (ns.map V.int) vs
  | _, _, .nil => .nil
  | _, _, .cons n t h => .cons ⟨t, rfl⟩ (vals_ints h)

/-- nothing is tracked but the script, known to the object (or it is an object of the module) -/
noncomputable def Only (H : Hp) : Prop := ∀ b, H b = none ∨ ∃ o xs, H b = some (.frz o (.lst xs))

/-- THE HEAD: the law's promise, at the heap behind the top. F, the promise of the law's def, may use that base is part of the heap (so K.In base, base.Ns mainGlobals mg stand in Mod) -/
theorem law_call {P : Program} {w : World} {K : PySem.W.Frag} {mg mb : Str → Option Value} {CX : CXT} {k : Nat} {fa a : Addr} {fd : FuncData} {x : Str} {sp : Sp} {s₁ : Shared} {vs : List Value} {ns : List Int}
    (KX : K.In s₁.heap) (hns : s₁.heap.Ns mainGlobals mg) (hb : s₁.heap.Ns builtinsNs mb) (hbb : ∀ x : Str, x ≠ "__name__" → mb x = bootBuiltins x) (hlim : s₁.heap.NoLimit) (hg : s₁.gens = #[])
    (ha : s₁.heap.get? a = some { cls := .type "list", data := .seq vs.toArray }) (hi : IntsAre vs ns) (hl : ns.length ≤ sizeLine) (hr : Room k callerA)
    (F : ∀ base : Heap, K.In base → base.Ns mainGlobals mg → FnOk P w K mg base CX k fa fd [x] sp) (hbind : ∀ (s : Shared) (u : Value), BindsTo s fd ⟨[u], []⟩ [(x, u)])
    (hsp : ∀ H : Hp, Only H → SqL K H a (ns.map V.int) → sp [.ref a] H (fun v _ => v = .bl true) fun _ _ _ => False)
    (hCX : ∀ H e s', CX [] H s₁ (fun _ _ _ => False) e s' → False) :
    codeAny (model P w) callerA (.call (.ref fa) ⟨[.ref a], []⟩) (fun r s' => r = .ok (.ret (.bool true)) ∧ OldK s₁.heap s'.heap ∧ s'.os = s₁.os ∧ AllBare s'.gens) s₁ := by
  have rv := vals_ints hi
  have lenV := hi.length
  -- from an abstract heap in which nothing but the script may be tracked
  have core : ∀ H : Hp, Only H → SqL K H a (ns.map V.int) → HOk P w H s₁.heap → (∀ b, H b ≠ none → b = a) → (H a ≠ none → K.lookup a = none) →
      codeAny (model P w) callerA (.call (.ref fa) ⟨[.ref a], []⟩) (fun r s' => r = .ok (.ret (.bool true)) ∧ OldK s₁.heap s'.heap ∧ s'.os = s₁.os ∧ AllBare s'.gens) s₁ := by
    intro H hO hS hok hA hK
    have base_of : ∀ {b : Addr} {o : Obj}, s₁.heap.get? b = some o → H b = none → (hidT s₁.heap H).get? b = some o := fun e n => hidT_get e n
    have noA : ∀ {b : Addr} {o : Obj} {es : Array DictEntry} {ep : Nat}, s₁.heap.get? b = some o → o.data = .dict es ep → H b = none := fun {b o es ep} e d => by
      cases q : H b with
      | none => rfl
      | some u =>
        have e' : b = a := hA b (by rw [q]; simp)
        subst e'
        rw [ha] at e; cases e
        have d' : Data.seq vs.toArray _ = Data.dict es ep := d
        cases d'
    have nsK : ∀ {b : Addr} {m : Str → Option Value}, s₁.heap.Ns b m → (hidT s₁.heap H).Ns b m := fun {b m} ⟨o, es, ep, e, d, r⟩ => ⟨o, es, ep, base_of e (noA e d), d, r⟩
    have hKb : K.In (hidT s₁.heap H) := fun b o e => base_of (KX b o e) (by
      cases q : H b with
      | none => rfl
      | some u =>
        have e' : b = a := hA b (by rw [q]; simp)
        subst e'
        rw [hK (by rw [q]; simp)] at e; cases e)
    have hM : Mod K mg (hidT s₁.heap H) := ⟨hKb, nsK hns, ⟨mb, nsK hb, hbb⟩, let ⟨mc, h1, h2⟩ := hlim; ⟨mc, nsK h1, h2⟩⟩
    have e0 : Env0 P w K mg (hidT s₁.heap H) callerA [] s₁ H := ⟨rfl, hM, fun b o e => of_hidT e, Nat.le_of_eq (hidT_size _ _), trivial, fun b hb => absurd (show b ∈ ([] : List Addr) from hb) (by simp), hok, .of_eq hg⟩
    refine codeAny_mono ((F _ hKb (nsK hns)).run callerA [] s₁ H ⟨[.ref a], []⟩ [.ref a] [.ref a] _ _ hr e0 (hbind s₁ (.ref a)) (.cons rfl .nil) (hsp H hO hS)) fun r s' h => ?_
    cases r with
    | error e => exact (hCX H e s' h).elim
    | ok fl =>
      cases fl with
      | next => exact False.elim h
      | brk => exact False.elim h
      | cont => exact False.elim h
      | ret u =>
        obtain ⟨v, H', os, bare, un, hok', r', q⟩ := h
        have q' : v = .bl true := q
        subst q'
        obtain rfl : u = Value.bool true := r'
        refine ⟨rfl, OldK.of_keep fun b o e => ?_, os, bare⟩
        cases q : H b with
        | none => exact un.keep b o e q (by intro z; exact absurd (show b ∈ ([] : List Addr) from z) (by simp)) (by simp)
        | some u =>
          rcases hO b with z | ⟨ob, xs, z⟩
          · rw [q] at z; cases z
          · have z2 := un.frzs b ob _ z
            obtain ⟨e1, _⟩ := hok b _ z
            obtain ⟨e2, _⟩ := hok' b _ z2
            rw [e] at e1; cases e1
            exact e2
  cases hk : K.lookup a with
  | some o =>
    -- the script is one of the module's own objects
    have e := KX a o hk
    rw [ha] at e
    cases e
    refine core (fun _ => none) (fun _ => .inl rfl) (.inr ⟨_, vs.toArray, _, hk, rfl, rfl, rfl, by rw [List.size_toArray, lenV]; exact hl, by simpa using rv⟩) (fun b u z => by have z' : (none : Option HO) = some u := z; cases z') (fun b z => absurd rfl z) fun z => absurd rfl z
  | none =>
    refine core (fun b => if b = a then some (.frz { cls := .type "list", data := .seq vs.toArray } (.lst (ns.map V.int))) else none) (fun b => ?_) (.inl (.inr ⟨{ cls := .type "list", data := .seq vs.toArray }, if_pos rfl⟩)) (fun b u z => ?_) (fun b z => ?_) fun _ => hk
    · by_cases hb : b = a
      · exact .inr ⟨_, _, if_pos hb⟩
      · exact .inl (if_neg hb)
    · by_cases hb : b = a
      · have z' := (if_pos hb).symm.trans z
        cases z'
        subst hb
        exact ⟨ha, by rw [List.length_map]; exact hl, vs, _, rv, ha⟩
      · have z' := (if_neg hb).symm.trans z
        cases z'
    · by_cases hb : b = a
      · exact hb
      · exact absurd (if_neg hb) z
end L2

namespace L2
open PySem PySem.Spec PyProof.Rows

noncomputable abbrev KOf {K : PySem.W.Frag} {h : Heap} (_ : K.In h) : PySem.W.Frag := K

/-- the goal that k_head leaves (case hc), from the law's promise. F gives the function object fd (K's own) once, then the promise over every base -/
theorem walk_of {l : PySem.W.OpenLaw} {n k : Nat} {q : Program} {loose : List Str} {XP : (Str → Option Value) → Heap → Prop} {YP : World → Heap → Prop} {d : DefRec} {K : Params → PySem.W.Frag} {CX : World → CXT} {sp : World → Sp} {x : Str}
    (hn : l.most = some n) (hn2 : n ≤ sizeLine) (hdf : d.params.defaults = []) (hr : Room k callerA)
    (hY : ∀ (w : World) (h : Heap), YP w h → (K w.params).In h)
    (F : ∀ (w : World) (mg : Str → Option Value) (fa : Addr) (h : Heap), (K w.params).In h → h.Ns mainGlobals mg → mg d.name = some (.ref fa) →
      ∃ fd : FuncData, (∀ (s : Shared) (u : Value), BindsTo s fd ⟨[u], []⟩ [(x, u)]) ∧
        ∀ base : Heap, (K w.params).In base → base.Ns mainGlobals mg → FnOk l.prog w (K w.params) mg base (CX w) k fa fd [x] (sp w))
    (hsp : ∀ (w : World) (H : Hp) (a : Addr) (ns : List Int), ns.length ≤ n → Only H → SqL (K w.params) H a (ns.map V.int) → sp w [.ref a] H (fun v _ => v = .bl true) fun _ _ _ => False)
    (hCX : ∀ (w : World) (H : Hp) (s : Shared) (e : Value) (s' : Shared), CX w [] H s (fun _ _ _ => False) e s' → False) :
    PySem.W.WalkO q loose XP YP l.row.toRowW d [] (fun f vs => PySem.call f vs) := by
  refine Att.attach_call hn hdf fun w s₀ s₁ mg mb fa o pm cd doc a vs ns G Y ho hd hcd hmg hobj hints hlen hg => ?_
  have KX := hY w _ Y
  obtain ⟨fd, hb, hF⟩ := F w mg fa _ KX G.T.g hmg
  exact law_call KX G.T.g G.T.b G.T.builtins G.T.nolimit hg hobj hints (Nat.le_trans hlen hn2) hr hF hb (fun H hO hS => hsp w H a ns hlen hO hS) fun H e s' => hCX w H s₁ e s'
end L2

/- THE LAST THEOREM (shape; LID, My.* are yours):
   My.Adr: a structure of the addresses that your layer names (classes, functions); My.Txt K t: a structure (Prop) of the equations over K;
   My.txt_mk : {K} {implicit addresses ..} (e1 : nsIn K mainGlobals "law" = some (some (.ref f))) (e2 : K.lookup f = some ⟨oc, od, .func (fnOf "law" "law" params body scope dV kV doc pm an cdv ct), sl⟩) (e3 : codeIn K cdv "law" = true) .. : ∃ t, My.Txt K t

set_option maxRecDepth 100000 in
set_option maxHeartbeats 0 in
theorem PySem.Challenge.cw_LID_holds : PySem.Challenge.rw_LID.Holds := by
  w_on; o_law; k_head; (case hw => w_witness2)
  k_fill
  refine L2.walk_of (l := PySem.Challenge.rw_LID) (n := 63) (k := 40) (x := "script") (CX := fun w => ..) (sp := fun _ => My.sp_law) rfl (by decide) rfl ⟨rfl, by decide, by decide⟩ (fun w h Y => PySem.W.kIn_of Y) ?F ?S ?C
  case F =>
    intro w mg fa h KX G hmg
    have T : ∃ t, My.Txt (L2.KOf KX) t := by
      dsimp only [L2.KOf]                          -- K must stand as «<heap const> w.params» for k_is
      refine' My.txt_mk ?e1 ?e2 ?e3 ..
      (case e1 => PySem.W.k_is)                    -- in the order: a name -> its address -> its object -> its parts
      (case e2 => PySem.W.k_is)
      ..
    obtain ⟨t, T⟩ := T
    have e0 := hmg.symm.trans (PySem.W.mg_of KX G T.law)
    cases e0                                       -- fa is the law's own address
    exact ⟨_, fun s u => .of_eq rfl, fun base kb nb => My.law_fn T kb nb⟩     -- if «.of_eq rfl» comes too early: refine' ⟨_, ?b, fun base kb nb => My.law_fn T kb nb⟩; exact fun s u => .of_eq rfl
  case S => exact fun w H a ns hl hO hS => ..
  case C => exact ..
(the tactic k_is has no namespace: write k_is) -/

/-! SHORT WORDS over the layer: a def of the text, its body, what a loop and a test want. -/
namespace L2
open PySem PySem.Spec PyProof.Rows

/-! ### the text by places -/
/-- the j-th statement of a class's body -/
noncomputable def inClass (s : Stmt) (j : Nat) : Stmt := match s with
  | .ClassDef _ _ _ body _ _ _ _ _ _ _ => body.getD j (.Pass ⟨0, 0, 0, 0⟩)
  | _ => .Pass ⟨0, 0, 0, 0⟩
noncomputable def defArgs (s : Stmt) : Arguments := match s with
  | .FunctionDef _ a _ _ _ _ _ _ _ _ => a
  | _ => { posonlyargs := [], args := [], vararg := none, kwonlyargs := [], kw_defaults := [], kwarg := none, defaults := [] }
noncomputable def defBody (s : Stmt) : List Stmt := match s with
  | .FunctionDef _ _ b _ _ _ _ _ _ _ => b
  | _ => []
noncomputable def defScope (s : Stmt) : Scope := match s with
  | .FunctionDef _ _ _ _ _ _ sc _ _ _ => sc
  | _ => { kind := .function, names := [], isGenerator := false, isCoroutine := false }

/-! ### no exception leaves a def -/
noncomputable abbrev CX0 : CXT := fun _ _ _ _ _ _ => False
noncomputable abbrev E0 : XK := fun _ _ _ => False
theorem pass0 {X : Cx} : Passes CX0 X E0 := fun _ _ _ _ _ _ _ h => h.elim

/-! ### a def (or method) of the text as it stands behind the top -/
structure Fun (K : PySem.W.Frag) (x qual : Str) (st : Stmt) (f : Addr) (fd : FuncData) : Prop where
  ex : ∃ (oc : Value) (od : Option Addr) (kV doc pm : Value) (an : Option Addr) (cdv ct : Value) (osl : Array (Option Value)),
    fd = PySem.W.fnOf x qual (defArgs st) (defBody st) (defScope st) .none kV doc pm an cdv ct ∧ K.lookup f = some ⟨oc, od, .func fd, osl⟩ ∧ PySem.W.codeIn K cdv qual = true
  kp : PySem.W.keepIn K (.ref f) = true
section
variable {P : Program} {w : World} {K : PySem.W.Frag} {mg : Str → Option Value} {base : Heap}
/-- THE RULE for a def: its body as a term of rules, and the reading of that term -/
theorem Fun.ok {x qual : Str} {st : Stmt} {f : Addr} {fd : FuncData} {N ps : List Str} {k : Nat} {sp : Sp} (F : Fun K x qual st f fd) (S : FnScope N ps (defScope st)) (len : ∀ vs H Q E, sp vs H Q E → vs.length = ps.length)
    (hbody : ∀ (cdv : Value) (A : Around) (outer : List Env) (s : Shared) (H : Hp) (vs : List V) (Q : VK) (E : XK), Room k (A.deeper (envOfC qual (defScope st) s.heap.objs.size f cdv)) → sp vs H Q E →
      ∃ t, PSs (cxOf CX0 P w K mg base N qual (defScope st) f cdv A outer s H E).nox (defBody st) t ∧ t { nx := fun _ H' => Q .non H', rt := Q } (start N vs) H) : FnOk P w K mg base CX0 (k + 1) f fd ps sp := by
  obtain ⟨oc, od, kV, doc, pm, an, cdv, ct, osl, rfl, lk, hcd⟩ := F.ex
  refine fn_of lk hcd S len fun A outer s H vs Q E hr hsp => ?_
  obtain ⟨t, h, q⟩ := hbody cdv A outer s H vs Q E hr hsp
  exact ⟨t, h.nox, q⟩
/-- how its arguments bind (no defaults): h is «fun _ _ _ _ _ _ us hl => match us, hl with | [_, _], _ => rfl», one _ a parameter -/
theorem Fun.binds {x qual : Str} {st : Stmt} {f : Addr} {fd : FuncData} {ps : List Str} (F : Fun K x qual st f fd)
    (h : ∀ (kV doc pm : Value) (an : Option Addr) (cdv ct : Value) (us : List Value), us.length = ps.length → bindArgs (PySem.W.fnOf x qual (defArgs st) (defBody st) (defScope st) .none kV doc pm an cdv ct) ⟨us, []⟩ = pure (ps.zip us)) : Binds K fd ps [] := by
  obtain ⟨oc, od, kV, doc, pm, an, cdv, ct, osl, rfl, lk, hcd⟩ := F.ex
  exact .all (h kV doc pm an cdv ct)
theorem fun_mk {x qual : Str} {st : Stmt} {f : Addr} {oc : Value} {od an : Option Addr} {osl : Array (Option Value)} {kV doc pm cdv ct : Value} (l : K.lookup f = some ⟨oc, od, .func (PySem.W.fnOf x qual (defArgs st) (defBody st) (defScope st) .none kV doc pm an cdv ct), osl⟩)
    (c : PySem.W.codeIn K cdv qual = true) (k : PySem.W.keepIn K (.ref f) = true) : Fun K x qual st f (PySem.W.fnOf x qual (defArgs st) (defBody st) (defScope st) .none kV doc pm an cdv ct) := ⟨⟨oc, od, kV, doc, pm, an, cdv, ct, osl, rfl, l, c⟩, k⟩
end
theorem hu_of {A : Around} {k : Nat} (hr : Room k A) : A.units + 1 < cLine := Nat.lt_of_le_of_lt (Nat.add_le_add_left (by decide : 1 ≤ 64) _) hr.units

/-! ### expressions in short: the name that stands in the i-th slot -/
section
variable {X : Cx}
theorem pv (i : Nat) {x : Str} {pos : Pos} (hN : X.N[i]? = some x := by rfl) (hv : Vis X.env.scope x := by first | exact Or.inl rfl | exact Or.inr (Or.inl rfl) | exact Or.inr (Or.inr rfl)) (hd : (x == ("__debug__" : Str)) = false := by decide)
    (hcd : (x == ("__classdict__" : Str)) = false := by decide) : PE X (.Name x pos) (tVar i) := pe_var hN hv hd hcd
end

/-! ### tests -/
theorem iteF {A B : Prop} (h : B) : if false = true then A else B := by
  rw [if_neg Bool.false_ne_true]
  exact h
theorem iteT {A B : Prop} (h : A) : if true = true then A else B := by
  rw [if_pos rfl]
  exact h
theorem ite2 {c A B : Prop} [Decidable c] (h1 : c → A) (h2 : ¬ c → B) : if c then A else B := by
  by_cases h : c
  · rw [if_pos h]
    exact h1 h
  · rw [if_neg h]
    exact h2 h

/-! ### heaps -/
/-- all that was tracked is as it was -/
noncomputable def Same (H H' : Hp) : Prop := ∀ b o, H b = some o → H' b = some o
theorem Same.refl (H : Hp) : Same H H := fun _ _ h => h
theorem Same.trans {H H1 H2 : Hp} (a : Same H H1) (b : Same H1 H2) : Same H H2 := fun c o h => b c o (a c o h)
theorem Same.seq {K : PySem.W.Frag} {H H' : Hp} {a : Addr} {xs : List V} (e : Same H H') (h : SqL K H a xs) : SqL K H' a xs := by
  rcases h with (h | ⟨o, h⟩) | h
  · exact .inl (.inl (e _ _ h))
  · exact .inl (.inr ⟨o, e _ _ h⟩)
  · exact .inr h

end L2

set_option Elab.async false
set_option linter.all false
set_option maxRecDepth 100000
namespace L2
open PySem PySem.Spec PyProof.Rows

/-! ### lists of pairs as tables -/
section
variable {κ : Type} [DecidableEq κ]
noncomputable def valV (kvs : List (κ × V)) (k : κ) : Option V := (kvs.find? fun kv => decide (kv.1 = k)).map (·.2)
/-- in its place, or at the end -/
noncomputable def putK (kvs : List (κ × V)) (k : κ) (v : V) : List (κ × V) :=
  if (kvs.any fun kv => decide (kv.1 = k)) = true then kvs.map (fun kv => if kv.1 = k then (kv.1, v) else kv) else kvs ++ [(k, v)]
noncomputable def dropK (kvs : List (κ × V)) (k : κ) : List (κ × V) := kvs.filter fun kv => decide (kv.1 ≠ k)

theorem valV_nil {k : κ} : valV ([] : List (κ × V)) k = none := rfl
theorem valV_pos {p : κ × V} {r : List (κ × V)} {k : κ} (e : p.1 = k) : valV (p :: r) k = some p.2 := by simp [valV, List.find?_cons, e]
theorem valV_neg {p : κ × V} {r : List (κ × V)} {k : κ} (e : ¬ p.1 = k) : valV (p :: r) k = valV r k := by simp [valV, List.find?_cons, e]
theorem valV_any (k : κ) : ∀ kvs : List (κ × V), (kvs.any fun kv => decide (kv.1 = k)) = (valV kvs k).isSome
  | [] => rfl
  | p :: r => by
    rw [List.any_cons]
    by_cases e : p.1 = k
    · simp only [valV_pos e, decide_eq_true e, Bool.true_or, Option.isSome_some]
    · rw [valV_neg e, decide_eq_false e, Bool.false_or]; exact valV_any k r
theorem valV_map (k j : κ) (y : V) : ∀ kvs : List (κ × V), valV (kvs.map fun kv => if kv.1 = k then (kv.1, y) else kv) j = (valV kvs j).map fun x => if j = k then y else x
  | [] => rfl
  | p :: r => by
    have ih := valV_map k j y r
    rw [List.map_cons]
    by_cases h : p.1 = k
    · rw [if_pos h]
      by_cases e : p.1 = j
      · rw [valV_pos (p := (p.1, y)) e, valV_pos e, Option.map_some, if_pos (e.symm.trans h)]
      · rw [valV_neg (p := (p.1, y)) e, valV_neg e, ih]
    · rw [if_neg h]
      by_cases e : p.1 = j
      · rw [valV_pos (p := p) e, valV_pos e, Option.map_some, if_neg (fun z => h (e.trans z))]
      · rw [valV_neg (p := p) e, valV_neg e, ih]
theorem valV_snoc (k j : κ) (y : V) : ∀ kvs : List (κ × V), valV kvs k = none → valV (kvs ++ [(k, y)]) j = if j = k then some y else valV kvs j
  | [], _ => by
    by_cases e : k = j
    · rw [if_pos e.symm]; exact valV_pos (p := (k, y)) e
    · rw [if_neg (fun z => e z.symm)]; exact valV_neg (p := (k, y)) e
  | p :: r, hn => by
    rw [List.cons_append]
    have hk : ¬ p.1 = k := fun z => by rw [valV_pos z] at hn; cases hn
    rw [valV_neg hk] at hn
    have ih := valV_snoc k j y r hn
    by_cases e : p.1 = j
    · rw [valV_pos e, valV_pos e, if_neg (fun z => hk (e.trans z))]
    · rw [valV_neg e, valV_neg e, ih]
theorem valV_put (kvs : List (κ × V)) (k j : κ) (y : V) : valV (putK kvs k y) j = if j = k then some y else valV kvs j := by
  unfold putK
  by_cases a : (kvs.any fun kv => decide (kv.1 = k)) = true
  · rw [if_pos a, valV_map]
    rw [valV_any] at a
    by_cases e : j = k
    · obtain ⟨x, hx⟩ := Option.isSome_iff_exists.mp a
      rw [if_pos e, e, hx, Option.map_some, if_pos rfl]
    · rw [if_neg e]
      cases valV kvs j with
      | none => rfl
      | some x => rw [Option.map_some, if_neg e]
  · rw [if_neg a]
    refine valV_snoc k j y kvs ?_
    rw [valV_any] at a
    cases q : valV kvs k with
    | none => rfl
    | some x => rw [q] at a; exact (a rfl).elim
theorem length_putK (kvs : List (κ × V)) (k : κ) (v : V) : (putK kvs k v).length ≤ kvs.length + 1 := by
  unfold putK
  split
  · rw [List.length_map]; omega
  · rw [List.length_append, List.length_cons, List.length_nil]; omega

theorem RelO.isSome_eq {o : Option V} {u : Option Value} (r : RelO o u) : o.isSome = u.isSome := by
  cases o with
  | none => cases u with
    | none => rfl
    | some _ => exact (show False from r).elim
  | some _ => cases u with
    | none => exact (show False from r).elim
    | some _ => rfl

/-- raw tables of the same keys -/
theorem KV.val {kvs : List (κ × V)} {vs : List (κ × Value)} (r : KV kvs vs) (k : κ) : RelO (valV kvs k) (valueAt vs k) := by
  unfold KV at r
  induction r with
  | nil => exact True.intro
  | @cons p q ps qs h t ih =>
    obtain ⟨h1, h2⟩ := h
    by_cases e : p.1 = k
    · have e' : q.1 = k := h1.symm.trans e
      have b : valueAt (q :: qs) k = some q.2 := by simp [valueAt, List.find?_cons, e']
      rw [valV_pos e, b]; exact h2
    · have e' : ¬ q.1 = k := fun z => e (h1.trans z)
      have b : valueAt (q :: qs) k = valueAt qs k := by simp [valueAt, List.find?_cons, e']
      rw [valV_neg e, b]; exact ih
theorem KV.any {kvs : List (κ × V)} {vs : List (κ × Value)} (r : KV kvs vs) (k : κ) : (kvs.any fun kv => decide (kv.1 = k)) = vs.any fun kv => decide (kv.1 = k) := by
  unfold KV at r
  induction r with
  | nil => rfl
  | cons h t ih => rw [List.any_cons, List.any_cons, ih, h.1]
theorem KV.repl {kvs : List (κ × V)} {vs : List (κ × Value)} (r : KV kvs vs) (k : κ) {y : V} {u : Value} (ry : RelV y u) :
    KV (kvs.map fun kv => if kv.1 = k then (kv.1, y) else kv) (vs.map fun kv => if kv.1 = k then (kv.1, u) else kv) := by
  unfold KV at r ⊢
  induction r with
  | nil => exact .nil
  | @cons p q ps qs h t ih =>
    rw [List.map_cons, List.map_cons]
    refine .cons ?_ ih
    obtain ⟨h1, h2⟩ := h
    by_cases e : p.1 = k
    · rw [if_pos e, if_pos (h1.symm.trans e)]; exact ⟨h1, ry⟩
    · rw [if_neg e, if_neg (fun z => e (h1.trans z))]; exact ⟨h1, h2⟩
theorem KV.put {kvs : List (κ × V)} {vs : List (κ × Value)} (r : KV kvs vs) (k : κ) {y : V} {u : Value} (ry : RelV y u) : KV (putK kvs k y) (stored vs k u) := by
  unfold putK stored
  rw [r.any k]
  by_cases e : (vs.any fun kv => decide (kv.1 = k)) = true
  · rw [if_pos e, if_pos e]; exact r.repl k ry
  · rw [if_neg e, if_neg e]; exact Paired.snoc r ⟨rfl, ry⟩
theorem KV.length {kvs : List (κ × V)} {vs : List (κ × Value)} (r : KV kvs vs) : kvs.length = vs.length := Paired.length r
end


/-! ### a tracked dict, its keys ints and texts or tuples of these -/
theorem kV_is {P : Program} {w : World} {k : Key} {u : Value} (r : RelV (kV k) u) : (mixKind P w).is k u = true := by
  cases k with
  | inl i => obtain ⟨t, e⟩ := (show ∃ t, u = Value.int i t from r); subst e; exact mixKind_int P w i t
  | inr x => obtain ⟨t, e⟩ := (show ∃ t, u = Value.str x t from r); subst e; exact mixKind_str P w x t
theorem items_are {P : Program} {w : World} : ∀ {ks : List Key} {us : List Value}, Vals (ks.map kV) us → ItemsAre (mixKind P w) ks us
  | [], _, r => by rw [List.map_nil] at r; cases r; exact .nil
  | k :: ks, _, r => by
    rw [List.map_cons] at r
    cases r with
    | cons h t => exact .cons (kV_is h) (items_are t)

/-- raw entries of a dict with tuple keys -/
noncomputable abbrev KT (H : Hp) : List (List Key × V) → List (List Key × Addr × Value) → Prop := Paired fun p q => p.1 = q.1 ∧ H q.2.1 = some (.tup (p.1.map kV)) ∧ RelV p.2 q.2.2
theorem KT.val {H : Hp} {kvs : List (List Key × V)} {xs : List (List Key × Addr × Value)} (r : KT H kvs xs) (k : List Key) : RelO (valV kvs k) ((atKey xs k).map (·.2)) := by
  induction r with
  | nil => exact True.intro
  | @cons p q ps qs h t ih =>
    obtain ⟨h1, _, h2⟩ := h
    by_cases e : p.1 = k
    · have e' : q.1 = k := h1.symm.trans e
      have b : atKey (q :: qs) k = some q.2 := by simp [atKey, List.find?_cons, e']
      rw [valV_pos e, b]; exact h2
    · have e' : ¬ q.1 = k := fun z => e (h1.trans z)
      have b : atKey (q :: qs) k = atKey qs k := by simp [atKey, List.find?_cons, e']
      rw [valV_neg e, b]; exact ih
theorem KT.repl {H : Hp} {kvs : List (List Key × V)} {xs : List (List Key × Addr × Value)} (r : KT H kvs xs) (k : List Key) {y : V} {u : Value} (ry : RelV y u) :
    KT H (kvs.map fun kv => if kv.1 = k then (kv.1, y) else kv) (xs.map (putAt k u)) := by
  induction r with
  | nil => exact .nil
  | @cons p q ps qs h t ih =>
    rw [List.map_cons, List.map_cons]
    refine .cons ?_ ih
    obtain ⟨h1, h2, h3⟩ := h
    unfold putAt
    by_cases e : p.1 = k
    · rw [if_pos e, if_pos (h1.symm.trans e)]; exact ⟨h1, h2, ry⟩
    · rw [if_neg e, if_neg (fun z => e (h1.trans z))]; exact ⟨h1, h2, h3⟩
theorem KT.put {H : Hp} {kvs : List (List Key × V)} {xs : List (List Key × Addr × Value)} (r : KT H kvs xs) (k : List Key) {b : Addr} {y : V} {u : Value} (hb : H b = some (.tup (k.map kV))) (ry : RelV y u) :
    KT H (putK kvs k y) (storedH xs k b u) := by
  have e : (kvs.any fun kv => decide (kv.1 = k)) = (atKey xs k).isSome := by
    rw [valV_any, (r.val k).isSome_eq, Option.isSome_map]
  unfold putK storedH
  rw [e]
  by_cases q : (atKey xs k).isSome = true
  · rw [if_pos q, if_pos q]; exact r.repl k ry
  · rw [if_neg q, if_neg q]; exact Paired.snoc r ⟨rfl, hb, ry⟩
theorem KT.keeps {H H' : Hp} {kvs : List (List Key × V)} {xs : List (List Key × Addr × Value)} (r : KT H kvs xs) (ht : ∀ b ys, H b = some (.tup ys) → H' b = some (.tup ys)) : KT H' kvs xs :=
  Paired.mapP r fun _ _ z => ⟨z.1, ht _ _ z.2.1, z.2.2⟩

section
variable {P : Program} {w : World} {H : Hp} {h : Heap} {a : Addr}
theorem rd_of {u : HO} (ok : HOk P w H h) (e : Rd H a u) : ObjOk P w H h a u := e.ok ok
theorem dk_rd {kvs : List (Key × V)} (ok : HOk P w H h) (e : Rd H a (.dK kvs)) : kvs.length ≤ sizeLine ∧ (a == sysModules) = false ∧ ∃ vs, KV kvs vs ∧ h.DictOf (mixKind P w) a vs :=
  show ObjOk P w H h a (.dK kvs) from rd_of ok e
theorem dk_of {kvs : List (Key × V)} (ok : HOk P w H h) (e : H a = some (.dK kvs)) : kvs.length ≤ sizeLine ∧ (a == sysModules) = false ∧ ∃ vs, KV kvs vs ∧ h.DictOf (mixKind P w) a vs := dk_rd ok (.inl e)
/-- a tracked tuple of ints and texts is a key -/
theorem key_of {ks : List Key} (ok : HOk P w H h) (e : H a = some (.tup (ks.map kV))) : (tupleKind (mixKind P w)).is h ks a := by
  obtain ⟨_, its, r, o, h1, h2, n, h3⟩ := (show ObjOk P w H h a (.tup (ks.map kV)) from ok a _ e)
  exact ⟨o, its.toArray, n, h1, h2, h3, by simpa using items_are r⟩
theorem dt_rd {kvs : List (List Key × V)} (ok : HOk P w H h) (e : Rd H a (.dT kvs)) : kvs.length ≤ sizeLine ∧ (a == sysModules) = false ∧
    ∃ xs, KT H kvs xs ∧ h.DictOfH (tupleKind (mixKind P w)) a xs := by
  obtain ⟨z, y, xs, r, o, es, ep, h1, h2, h3, h4, h5⟩ := (show ObjOk P w H h a (.dT kvs) from rd_of ok e)
  refine ⟨z, y, xs, r, o, es, ep, h1, h2, h3, h4, fun x hx => ?_, h5⟩
  have all : ∀ {l : List (List Key × V)} {m : List (List Key × Addr × Value)}, KT H l m → ∀ x ∈ m, (tupleKind (mixKind P w)).is h x.1 x.2.1 := by
    intro l m q
    induction q with
    | nil => intro x hx; exact nomatch hx
    | @cons p q ps qs hq t ih =>
      intro x hx
      rcases List.mem_cons.mp hx with e | hx
      · subst e
        exact key_of ok (by rw [← hq.1]; exact hq.2.1)
      · exact ih x hx
  exact all r x hx
theorem dt_of {kvs : List (List Key × V)} (ok : HOk P w H h) (e : H a = some (.dT kvs)) : kvs.length ≤ sizeLine ∧ (a == sysModules) = false ∧
    ∃ xs, KT H kvs xs ∧ h.DictOfH (tupleKind (mixKind P w)) a xs := dt_rd ok (.inl e)
end

/-- what the dict at a holds at the key y -/
noncomputable def DGet (H : Hp) (a : Addr) (y : V) (r : Option V) : Prop :=
  (∃ kvs k, Rd H a (.dK kvs) ∧ y = kV k ∧ r = valV kvs k) ∨ ∃ kvs k b, Rd H a (.dT kvs) ∧ y = .ref b ∧ H b = some (.tup (k.map kV)) ∧ r = valV kvs k
/-- the heap behind a[y] = v -/
noncomputable def DPut (H : Hp) (a : Addr) (y v : V) (H' : Hp) : Prop :=
  (∃ kvs k, H a = some (.dK kvs) ∧ y = kV k ∧ kvs.length < sizeLine ∧ H' = upd H a (.dK (putK kvs k v))) ∨
  ∃ kvs k b, H a = some (.dT kvs) ∧ y = .ref b ∧ H b = some (.tup (k.map kV)) ∧ kvs.length < sizeLine ∧ H' = upd H a (.dT (putK kvs k v))
theorem DGet.k {H : Hp} {a : Addr} {kvs : List (Key × V)} {k : Key} (e : H a = some (.dK kvs)) : DGet H a (kV k) (valV kvs k) := .inl ⟨kvs, k, .inl e, rfl, rfl⟩
theorem DPut.k {H : Hp} {a : Addr} {kvs : List (Key × V)} {k : Key} {v : V} (e : H a = some (.dK kvs)) (hl : kvs.length < sizeLine) : DPut H a (kV k) v (upd H a (.dK (putK kvs k v))) := .inl ⟨kvs, k, e, rfl, hl, rfl⟩


section
variable {X : Cx} {pins : List (Addr × Obj)} {σ : St} {H : Hp} {s : Shared} {a : Addr} {y v : V} {u r : Value} {o : Option V} {A : Around} {E : Value → Shared → Prop}

theorem Inv.big (I : Inv X pins σ H s) : sysModules < s.heap.objs.size := by
  have h : mainGlobals < s.heap.objs.size := (I.mod.glob.keeps I.bk).lt
  exact Nat.lt_trans (by decide) h

/-- d[y], there -/
theorem d_getItem {Q : Value → Shared → Prop} (hu : A.units + 1 < cLine) (I : Inv X pins σ H s) (g : DGet H a y (some v)) (ry : RelV y u) (h : ∀ w' s', Inv X pins σ H s' → RelV v w' → Q w' s') :
    wpAny (model X.prog X.w) A (getItem (.ref a) u) Q E s := by
  rcases g with ⟨kvs, k, e, ey, l⟩ | ⟨kvs, k, b, e, ey, eb, l⟩
  · subst ey
    obtain ⟨z, hd, vs, rel, dd⟩ := dk_rd I.hok e
    obtain ⟨w', hw, rw'⟩ := RelO.some_of (v := v) (o := valueAt vs k) (by rw [l]; exact rel.val k)
    exact wpAny_getItem_of (kV_is ry) dd.mapOf hw (h w' _ (I.tok _) rw')
  · subst ey
    cases (show u = Value.ref b from ry)
    obtain ⟨z, hd, xs, rel, dd⟩ := dt_rd I.hok e
    obtain ⟨w', hw, rw'⟩ := RelO.some_of (v := v) (o := (atKey xs k).map (·.2)) (by rw [l]; exact rel.val k)
    obtain ⟨p, hp, hp2⟩ := Option.map_eq_some_iff.mp hw
    refine wpAny_getItem_heap (tupleKind_room_in1 hu) (key_of I.hok eb) dd hp ?_
    rw [hp2]
    exact h w' _ (I.tok _) rw'
/-- y in d -/
theorem d_in {Q : Value → Shared → Prop} (hu : A.units + 1 < cLine) (I : Inv X pins σ H s) (g : DGet H a y o) (ry : RelV y u) (h : ∀ s', Inv X pins σ H s' → Q (.bool o.isSome) s') :
    wpAny (model X.prog X.w) A (compareOp .In u (.ref a)) Q E s := by
  rcases g with ⟨kvs, k, e, ey, l⟩ | ⟨kvs, k, b, e, ey, eb, l⟩
  · subst ey
    obtain ⟨z, hd, vs, rel, dd⟩ := dk_rd I.hok e
    refine wpAny_in_of (kV_is ry) hd dd.mapOf ?_
    rw [← (rel.val k).isSome_eq, ← l]
    exact h _ (I.tok _)
  · subst ey
    cases (show u = Value.ref b from ry)
    obtain ⟨z, hd, xs, rel, dd⟩ := dt_rd I.hok e
    refine wpAny_in_heap (tupleKind_room_in1 hu) (key_of I.hok eb) hd dd ?_
    have q := (rel.val k).isSome_eq
    rw [Option.isSome_map] at q
    rw [← q, ← l]
    exact h _ (I.tok _)
theorem d_notIn {Q : Value → Shared → Prop} (hu : A.units + 1 < cLine) (I : Inv X pins σ H s) (g : DGet H a y o) (ry : RelV y u) (h : ∀ s', Inv X pins σ H s' → Q (.bool (!o.isSome)) s') :
    wpAny (model X.prog X.w) A (compareOp .NotIn u (.ref a)) Q E s := by
  rcases g with ⟨kvs, k, e, ey, l⟩ | ⟨kvs, k, b, e, ey, eb, l⟩
  · subst ey
    obtain ⟨z, hd, vs, rel, dd⟩ := dk_rd I.hok e
    refine wpAny_notIn_of (kV_is ry) hd dd.mapOf ?_
    rw [← (rel.val k).isSome_eq, ← l]
    exact h _ (I.tok _)
  · subst ey
    cases (show u = Value.ref b from ry)
    obtain ⟨z, hd, xs, rel, dd⟩ := dt_rd I.hok e
    refine wpAny_notIn_heap (tupleKind_room_in1 hu) (key_of I.hok eb) hd dd ?_
    have q := (rel.val k).isSome_eq
    rw [Option.isSome_map] at q
    rw [← q, ← l]
    exact h _ (I.tok _)
/-- a dict's object is replaced -/
theorem d_write {h' : Heap} {t' : Nat} {ob : HO} (I : Inv X pins σ H s) (mu : Mut (H a)) (hs : Heap.SameBut a s.heap h') (he : ∃ q, h'.get? a = some q) (new : ObjOk X.prog X.w (upd H a ob) h' a ob) :
    Inv X pins σ (upd H a ob) { s with heap := h', toks := t' } :=
  I.write (x := a) (e := a) mu (.inl rfl) (fun b q hb z => (hs.2 b hb).trans z) he new
theorem dk_new {P : Program} {w : World} {H' : Hp} {h' : Heap} {kvs : List (Key × V)} {vs : List (Key × Value)} (z : kvs.length ≤ sizeLine) (hd : (a == sysModules) = false) (rel : KV kvs vs) (dd : h'.DictOf (mixKind P w) a vs) :
    ObjOk P w H' h' a (.dK kvs) := ⟨z, hd, vs, rel, dd⟩
/-- d[y] = v -/
theorem d_setItem {H' : Hp} {Q : Unit → Shared → Prop} (hu : A.units + 1 < cLine) (I : Inv X pins σ H s) (g : DPut H a y v H') (ry : RelV y u) (rv : RelV v r) (h : ∀ s', Inv X pins σ H' s' → Q () s') :
    wpAny (model X.prog X.w) A (setItem (.ref a) u r) Q E s := by
  rcases g with ⟨kvs, k, e, ey, l, eH⟩ | ⟨kvs, k, b, e, ey, eb, l, eH⟩
  · subst ey eH
    obtain ⟨z, hd, vs, rel, dd⟩ := dk_of I.hok e
    have hz : vs.length ≤ sizeLine := by rw [← rel.length]; exact z
    have hl : (putK kvs k v).length ≤ sizeLine := by have := length_putK kvs k v; omega
    refine wpAny_setItem_pairs (hsz := hz) (kV_is ry) dd fun h' dd' hs => h _ ?_
    have he : ∃ q, h'.get? a = some q := let ⟨q, _, _, hq, _⟩ := dd'; ⟨q, hq⟩
    exact d_write I (by rw [e]; exact True.intro) hs he (dk_new hl hd (rel.put k rv) dd')
  · subst ey eH
    cases (show u = Value.ref b from ry)
    obtain ⟨z, hd, xs, rel, dd⟩ := dt_of I.hok e
    have hz : xs.length ≤ sizeLine := by rw [← Paired.length rel]; exact z
    have hl : (putK kvs k v).length ≤ sizeLine := by have := length_putK kvs k v; omega
    refine wpAny_setItem_heap (hsz := hz) (tupleKind_room_in1 hu) (key_of I.hok eb) dd fun h' dd' hs => h _ ?_
    obtain ⟨q, es, ep, hq, h2, h3, h4, _, h5⟩ := dd'
    refine d_write I (by rw [e]; exact True.intro) hs ⟨q, hq⟩ ⟨hl, hd, _, (rel.put k eb rv).keeps fun c ys ec => ?_, q, es, ep, hq, h2, h3, h4, h5⟩
    rw [upd_ne (ne_of ec e (fun z => nomatch z))]
    exact ec
end

section
variable {X : Cx} {pins : List (Addr × Obj)} {σ : St} {H : Hp} {s : Shared} {a : Addr} {kvs : List (Key × V)} {k : Key} {u : Value} {A : Around} {E : Value → Shared → Prop}
end


/-! ### readings and rules -/
/-- the element of a subscription, not a slice -/
noncomputable def NoSl (i : Expr) : Prop := ∀ ov iv, subscripted i false ov iv = operate [ov, iv] (getItem ov iv)
theorem subD_of {prog : Program} {w : World} {A : Around} {E : Value → Shared → Prop} {s : Shared} {env : Env} {value slice : Expr} {pos : Pos} {T id : String} {Q : Value → Shared → Prop}
    (hl : typeLookup (.type T) "__getitem__" = pure (some (.builtin id))) (hs : NoSl slice)
    (h : wpAny (model prog w) A (eval value env) (fun o s₁ => wpAny (model prog w) A (eval slice env) (fun i s₂ => s₂.TypeIs o T ∧ wpAny (model prog w) A (getItem o i) Q E s₂) E s₁) E s) :
    wpAny (model prog w) A (eval (.Subscript value slice pos) env) Q E s := by
  refine Subscript_ (wpAny_mono h (fun o s₁ h₁ => wpAny_mono h₁ (fun i s₂ h₂ => ?_) fun _ _ x => x) fun _ _ x => x)
  obtain ⟨hT, h₂⟩ := h₂
  unfold subscriptTail
  refine wpAny_bind ?_
  rw [getitemInPython_of_ne hT.not_modules]
  refine wpAny_bind (wpAny_specialOf hT hl ?_)
  have fin : wpAny (model prog w) A (subscripted slice false o i) (fun r s₃ => wpAny (model prog w) A (letTemporaryGo value o r >>= fun _ => pure r) Q E s₃) E s₂ := by
    rw [hs o i]
    exact wpAny_operating (wpAny_mono h₂ (fun r s₃ h₃ => wpAny_bind (wpAny_letTemporaryGo (wpAny_pure h₃))) fun _ _ x => x)
  first
    | exact wpAny_pure (wpAny_bind fin)
    | exact wpAny_bind (wpAny_pure (wpAny_bind fin))
    | exact wpAny_bind fin

theorem dict_typeIs {X : Cx} {pins : List (Addr × Obj)} {σ : St} {H : Hp} {s : Shared} {a : Addr} {y : V} {o : Option V} (I : Inv X pins σ H s) (g : DGet H a y o) : s.TypeIs (.ref a) "dict" := by
  rcases g with ⟨kvs, k, e, _, _⟩ | ⟨kvs, k, b, e, _, _, _⟩
  · obtain ⟨_, _, vs, _, dd⟩ := dk_rd I.hok e
    exact dd.typeIs
  · obtain ⟨_, _, xs, _, dd⟩ := dt_rd I.hok e
    exact dd.typeIs

/-- d[y] -/
noncomputable def tDGet (td ty : TE) : TE := fun σ H Q => td σ H fun x H1 => ty σ H1 fun y H2 => ∃ a v, x = .ref a ∧ DGet H2 a y (some v) ∧ Q v H2
/-- y in d, y not in d -/
noncomputable def tDIn (ty td : TE) : TE := fun σ H Q => ty σ H fun y H1 => td σ H1 fun x H2 => ∃ a o, x = .ref a ∧ DGet H2 a y o ∧ Q (.bl o.isSome) H2
noncomputable def tDNotIn (ty td : TE) : TE := fun σ H Q => ty σ H fun y H1 => td σ H1 fun x H2 => ∃ a o, x = .ref a ∧ DGet H2 a y o ∧ Q (.bl (!o.isSome)) H2
/-- d[y] = v -/
noncomputable def sDPut (td ty tv : TE) : TS := fun D σ H => tv σ H fun v H1 => td σ H1 fun x H2 => ty σ H2 fun y H3 => ∃ a H4, x = .ref a ∧ DPut H3 a y v H4 ∧ D.nx σ H4
/-- d[y] op= v -/
noncomputable def sDAug (td ty tv : TE) (rd : V → V → Hp → VK → Prop) : TS := fun D σ H => td σ H fun x H1 => ty σ H1 fun y H2 => ∃ a v, x = .ref a ∧ DGet H2 a y (some v) ∧
  tv σ H2 fun y2 H3 => rd v y2 H3 fun z H4 => ∃ H5, DPut H4 a y z H5 ∧ D.nx σ H5
/-- del d[y] -/
noncomputable def sDDel (td ty : TE) : TS := fun D σ H => td σ H fun x H1 => ty σ H1 fun y H2 => ∃ a kvs k, x = .ref a ∧ H2 a = some (.dK kvs) ∧ y = kV k ∧ (valV kvs k).isSome = true ∧ D.nx σ (upd H2 a (.dK (dropK kvs k)))

section
variable {X : Cx} {o i e value : Expr} {pos pos' tpos : Pos} {td ty tv : TE}
theorem pe_dget (hu : X.A.units + 1 < cLine) (ho : PE X o td) (hi : PE X i ty) (hs : NoSl i) : PE X (.Subscript o i pos) (tDGet td ty) := by
  intro pins s σ H Q I h
  refine subD_of PySem.F.slot_dict_getitem.lookup hs (thn (ho pins s σ H _ I h) fun u s1 ⟨x, H1, I1, rx, q1⟩ => thn (hi pins s1 σ H1 _ I1 q1) fun iv s2 ⟨y, H2, I2, ry, a, v, ex, g, q2⟩ => ?_)
  subst ex
  obtain rfl : u = Value.ref a := rx
  exact ⟨dict_typeIs I2 g, d_getItem hu I2 g ry fun w' s3 I3 rw' => ⟨v, H2, I3, rw', q2⟩⟩
theorem pc_din (hu : X.A.units + 1 < cLine) (hi : PE X i ty) (ho : PE X o td) : PC X .In i o (tDIn ty td) := by
  intro pins s σ H Q I h
  refine thn (hi pins s σ H _ I h) fun iv s1 ⟨y, H1, I1, ry, q1⟩ => thn (ho pins s1 σ H1 _ I1 q1) fun u s2 ⟨x, H2, I2, rx, a, ov, ex, g, q2⟩ => ?_
  subst ex
  obtain rfl : u = Value.ref a := rx
  exact d_in hu I2 g ry fun s3 I3 => ⟨.bl ov.isSome, H2, I3, rfl, q2⟩
theorem pc_dnotin (hu : X.A.units + 1 < cLine) (hi : PE X i ty) (ho : PE X o td) : PC X .NotIn i o (tDNotIn ty td) := by
  intro pins s σ H Q I h
  refine thn (hi pins s σ H _ I h) fun iv s1 ⟨y, H1, I1, ry, q1⟩ => thn (ho pins s1 σ H1 _ I1 q1) fun u s2 ⟨x, H2, I2, rx, a, ov, ex, g, q2⟩ => ?_
  subst ex
  obtain rfl : u = Value.ref a := rx
  exact d_notIn hu I2 g ry fun s3 I3 => ⟨.bl (!ov.isSome), H2, I3, rfl, q2⟩
theorem ps_dput (hu : X.A.units + 1 < cLine) (ho : PE X o td) (hi : PE X i ty) (hv : PE X value tv) (hs : swapsWith value (some (.Subscript o i pos')) pos.line X.env = pure false) :
    PS X (.Assign [.Subscript o i pos'] value pos) (sDPut td ty tv) := by
  intro pins s σ H D I h
  refine wpAny_Assign_Subscript (thn (hv pins s σ H _ I h) fun r s1 ⟨v, H1, I1, rv, q1⟩ => thn (ho pins s1 σ H1 _ I1 q1) fun u s2 ⟨x, H2, I2, rx, q2⟩ => thn (hi pins s2 σ H2 _ I2 q2) fun iv s3 ⟨y, H3, I3, ry, a, H4, ex, g, q3⟩ => ?_) hs
  subst ex
  obtain rfl : u = Value.ref a := rx
  exact d_setItem hu I3 g ry rv fun s4 I4 => ⟨σ, H4, I4, q3⟩
end


/-! ### displays -/
theorem dk_empty {P : Program} {w : World} {H : Hp} (h : Heap) (hb : sysModules < h.objs.size) : ObjOk P w H (h.push { cls := .type "dict", data := .dict #[] }) h.objs.size (.dK []) :=
  ⟨Nat.zero_le _, beq_eq_false_iff_ne.mpr (Ne.symm (Nat.ne_of_lt hb)), [], .nil, Heap.DictOf.new h⟩
/-- {}, to be a dict of the kind that is wanted -/
noncomputable def tDNewK : TE := fun _ H Q => ∀ p, H p = none → Q (.ref p) (upd H p (.dK []))
noncomputable def tDNewT : TE := fun _ H Q => ∀ p, H p = none → Q (.ref p) (upd H p (.dT []))
section
variable {X : Cx} {pos : Pos}
theorem pe_dnewK : PE X (.Dict [] [] pos) tDNewK := fun pins s σ H Q I h =>
  wpAny_Dict_empty ⟨.ref s.heap.objs.size, _, I.laid (a := s.heap.objs.size) (o := .dK []) (t' := s.toks) (fun _ _ q => Heap.get?_push_of_some _ q) (Nat.le_refl _) (dk_empty s.heap I.big), rfl, h _ (I.hok.fresh (Nat.le_refl _))⟩
end

/-- the pairs of a display, from the left -/
noncomputable def tPairs : List (TE × TE) → St → Hp → (List (V × V) → Hp → Prop) → Prop
  | [], _, H, Q => Q [] H
  | (tk, tv) :: r, σ, H, Q => tk σ H fun x H1 => tv σ H1 fun y H2 => tPairs r σ H2 fun ps H3 => Q ((x, y) :: ps) H3
noncomputable abbrev VV : List (V × V) → List (Value × Value) → Prop := Paired fun p q => RelV p.1 q.1 ∧ RelV p.2 q.2
noncomputable def PPs (X : Cx) (pos : Pos) (keys : List (Option Expr)) (values : List Expr) (trs : List (TE × TE)) : Prop :=
  ∀ (pins : List (Addr × Obj)) (s : Shared) (σ : St) (H : Hp) (Q : List (V × V) → Hp → Prop), Inv X pins σ H s → tPairs trs σ H Q →
    wpAny (model X.prog X.w) X.A (evalPairs (pairTrees keys values X.env pos)) (fun vs s' => ∃ ps H', Inv X pins σ H' s' ∧ VV ps vs ∧ Q ps H') X.xe s

noncomputable def mergeK (kvs more : List (Key × V)) : List (Key × V) := more.foldl (fun acc kv => putK acc kv.1 kv.2) kvs
theorem KV.merge : ∀ {more : List (Key × V)} {rs : List (Key × Value)} {kvs : List (Key × V)} {vs : List (Key × Value)}, KV more rs → KV kvs vs → KV (mergeK kvs more) (merged vs rs) := by
  intro more rs kvs vs r
  unfold KV at r
  induction r generalizing kvs vs with
  | nil => intro q; exact q
  | @cons p q ps qs h t ih =>
    intro r0
    have e : KV (putK kvs p.1 p.2) (stored vs q.1 q.2) := by
      have := r0.put p.1 h.2
      rw [← h.1]; exact this
    exact ih e
/-- {k: v, ..} with keys ints and texts; the new dict stands empty while the pairs are made -/
noncomputable def tDisp (trs : List (TE × TE)) : TE := fun σ H Q => ∀ p, H p = none → tPairs trs σ (upd H p (.dK [])) fun ps H2 => H2 p = some (.dK []) ∧ ∃ kvs : List (Key × V), ps = kvs.map (fun kv => (kV kv.1, kv.2)) ∧ kvs.length ≤ 15 ∧ Q (.ref p) (upd H2 p (.dK (mergeK [] kvs)))


/-! ### methods -/
/-- a method call o.m(e) of a built-in, with one argument: what must be seen of the text -/
structure M1 (X : Cx) (o : Expr) (m : Str) (apos : Pos) (e : Expr) (cpos : Pos) : Prop where
  base : attributeBase o m X.env (eval o X.env) = eval o X.env
  few : ((backTo cpos (starEach [e] X.env)).all (fun x => !x.1) && (backToKw cpos (keywordEach [] X.env)).all (fun x => x.1.isSome)
    && decide (([e] : List Expr).length + ([] : List Keyword).length + (if ([] : List Keyword).isEmpty then 0 else 1) < 30)) = true
  line : (apos.endLine == cpos.line) = true
  trees : backTo cpos (starEach [e] X.env) = [(false, eval e X.env)]
structure M2 (X : Cx) (o : Expr) (m : Str) (apos : Pos) (e f : Expr) (cpos : Pos) : Prop where
  base : attributeBase o m X.env (eval o X.env) = eval o X.env
  few : ((backTo cpos (starEach [e, f] X.env)).all (fun x => !x.1) && (backToKw cpos (keywordEach [] X.env)).all (fun x => x.1.isSome)
    && decide (([e, f] : List Expr).length + ([] : List Keyword).length + (if ([] : List Keyword).isEmpty then 0 else 1) < 30)) = true
  line : (apos.endLine == cpos.line) = true
  trees : backTo cpos (starEach [e, f] X.env) = [(false, eval e X.env), (false, eval f X.env)]

/-- a is a dict, whatever its keys -/
noncomputable def IsD (H : Hp) (a : Addr) : Prop := (∃ kvs, Rd H a (.dK kvs)) ∨ ∃ kvs, Rd H a (.dT kvs)

section
variable {X : Cx} {pins : List (Addr × Obj)} {σ : St} {H : Hp} {s : Shared} {a : Addr} {y d : V} {u r : Value} {o : Option V} {A : Around} {E : Value → Shared → Prop}
end

noncomputable def tDGet1 (td ty : TE) : TE := fun σ H Q => td σ H fun x H1 => ∃ a, x = .ref a ∧ IsD H1 a ∧ ty σ H1 fun y H2 => ∃ o, DGet H2 a y o ∧ Q (o.getD .non) H2
noncomputable def tDGet2 (td ty tx : TE) : TE := fun σ H Q => td σ H fun x H1 => ∃ a, x = .ref a ∧ IsD H1 a ∧ ty σ H1 fun y H2 => tx σ H2 fun z H3 => ∃ o, DGet H3 a y o ∧ Q (o.getD z) H3
/-- d.pop(k): there; d.pop(k, x): there or not -/
noncomputable def tDPop1 (td ty : TE) : TE := fun σ H Q => td σ H fun x H1 => ∃ a, x = .ref a ∧ IsD H1 a ∧ ty σ H1 fun y H2 => ∃ kvs k v, H2 a = some (.dK kvs) ∧ y = kV k ∧ valV kvs k = some v ∧ Q v (upd H2 a (.dK (dropK kvs k)))
noncomputable def tDPop2 (td ty tx : TE) : TE := fun σ H Q => td σ H fun x H1 => ∃ a, x = .ref a ∧ IsD H1 a ∧ ty σ H1 fun y H2 => tx σ H2 fun z H3 => ∃ kvs k, H3 a = some (.dK kvs) ∧ y = kV k ∧
  (∀ v, valV kvs k = some v → Q v (upd H3 a (.dK (dropK kvs k)))) ∧ (valV kvs k = none → Q z H3)
section
variable {X : Cx} {o e f : Expr} {apos cpos : Pos} {td ty tx : TE}
end

/-! ### dict(d): a copy -/
section
variable {X : Cx} {pins : List (Addr × Obj)} {σ : St} {H : Hp} {s : Shared} {a : Addr} {kvs : List (Key × V)} {A : Around} {E : Value → Shared → Prop}
end


section
variable {X : Cx} {pins : List (Addr × Obj)} {σ : St} {H : Hp} {s : Shared} {a : Addr} {y : V} {u : Value} {A : Around} {E : Value → Shared → Prop}
end
end L2

namespace L2
open PySem PySem.Spec PyProof.Rows
/-! ### a dict's pairs: keys that differ -/
section
variable {κ : Type} [DecidableEq κ]
end
end L2

set_option Elab.async false
set_option linter.all false
set_option maxRecDepth 100000
namespace L2
open PySem PySem.Spec PyProof.Rows

/-! ### comprehensions -/
section
variable {prog : Program} {w : World} {A : Around} {R : Result → Shared → Prop} {s : Shared}
noncomputable abbrev NoE : Value → Shared → Prop := fun _ _ => False
theorem comp_loop {elt target iter : Expr} {ifs : List Expr} {scope : Scope} {pos : Pos} {it acc : Value} {env : Env} (I : Nat → Shared → Prop)
    (turn : ∀ n s, I n s → wpAny (model prog w) A (pyNext it) (fun r s₁ => match r with
      | none => R (.ok .next) s₁
      | some v => wpAny (model prog w) A (letOwnedTupleGo target it v) (fun _ s₂ => wpAny (model prog w) A (assign target env v) (fun _ s₃ =>
          wpAny (model prog w) A (forIn ifs true fun c r => if r = true then do let ok ← isTrue c env (eval c env); pure (ForInStep.yield ok) else pure (ForInStep.yield r)) (fun ok s₄ =>
            if ok = true then wpAny (model prog w) A (eval elt env) (fun x s₅ =>
              wpAny (model prog w) A (call (.builtin "list.append") [acc, x]) (fun _ s₆ => ∃ m, m < n ∧ I m s₆) NoE s₅) NoE s₄
            else ∃ m, m < n ∧ I m s₄) NoE s₃) NoE s₂) NoE s₁) NoE s)
    (n : Nat) (h : I n s) :
    codeAny (model prog w) A (.compLoop (.ListComp elt [⟨target, iter, ifs, 0⟩] scope pos) 0 it acc env) R s := by
  refine codeAny_loop rfl I (fun n s hI => ?_) n h
  show wpAny _ A ((compTurn (.ListComp elt [⟨target, iter, ifs, 0⟩] scope pos) 0 it acc env).onRaise (fun x => do noteFrame x env; theTreesLotGoes x)) _ _ s
  refine wpAny_noted ?_
  rw [compTurn_list]
  refine wpAny_bind (wpAny_standAt (wpAny_bind (wpAny_mono (turn n s hI) (fun r s₁ h₁ => ?_) fun _ _ f => f.elim)))
  cases r with
  | none => exact wpAny_pure h₁
  | some v =>
    refine wpAny_bind (wpAny_mono h₁ (fun _ s₂ h₂ => ?_) fun _ _ f => f.elim)
    refine wpAny_bind (wpAny_mono h₂ (fun _ s₃ h₃ => wpAny_bind (wpAny_mono h₃ (fun ok s₄ h₄ => ?_) fun _ _ f => f.elim)) fun _ _ f => f.elim)
    cases ok with
    | false => exact wpAny_pure ⟨rfl, h₄⟩
    | true =>
      exact wpAny_bind (wpAny_bind (wpAny_mono h₄ (fun x s₅ h₅ => wpAny_bind (wpAny_mono h₅ (fun _ s₆ h₆ => wpAny_pure (wpAny_pure ⟨rfl, h₆⟩)) fun _ _ f => f.elim)) fun _ _ f => f.elim))
end

/-- the context of a comprehension's block -/
noncomputable def compCx (X : Cx) (scope : Scope) (M : List Str) (cl : List (Str × Addr)) (C : Addr) (fp : List Addr) (sB : Shared) (HB : Hp) : Cx where
  prog := X.prog
  w := X.w
  K := X.K
  mg := X.mg
  base := X.base
  A := X.A
  N := M
  s₀ := sB
  H₀ := HB
  env := compEnvC scope cl C X.env
  outer := X.stack
  stack := X.stack
  ex := fp
  fn := fun _ => false
  calm := X.calm
  pn := []
  xe := fun _ _ => False

/-- the block's names: nT of the target, then those of the frame at the places ix -/
noncomputable def sIn (nT : Nat) (ix : List Nat) (σ : St) : St := List.replicate nT none ++ ix.map fun i => (σ[i]?).getD none

structure CompSc (N : List Str) (sc scope : Scope) (M : List Str) (nT : Nat) (ix : List Nat) : Prop where
  cell : ∀ y ∈ scope.names, y.2 ≠ .cell
  kind : scope.kind = .function
  loc : ∀ y ∈ scope.names, y.2 = .local → scope.names.lookup y.1 = some .local
  fre : ∀ y ∈ scope.names, y.2 = .free → sc.names.lookup y.1 = some .cell
  nms : M.drop nT = ix.map fun i => N.getD i Str.empty
  len : M.length = nT + ix.length
  vis : ∀ i ∈ ix, scope.names.lookup (N.getD i Str.empty) = some .free

theorem relabel_cell {env : Env} (hk : env.scope.kind = .function) : ∀ {names : List (Str × NameKind)} {y : Str}, names.lookup y = some .free → env.kindOf y = some .cell →
    (names.map fun (n, k) => if (k == NameKind.free && env.scope.kind == .function && env.kindOf n == some .cell) then (n, NameKind.cell) else (n, k)).lookup y = some .cell
  | [], _, h, _ => by simp at h
  | (n, k) :: r, y, h, hc => by
    have ih := @relabel_cell env hk r y
    show List.lookup y ((if (k == NameKind.free && env.scope.kind == .function && env.kindOf n == some .cell) = true then (n, NameKind.cell) else (n, k)) :: _) = _
    cases hx : y == n with
    | true =>
      simp only [List.lookup_cons, hx] at h
      cases h
      have e : y = n := by simpa using hx
      subst e
      rw [if_pos (by rw [hk, hc]; rfl)]
      simp [List.lookup_cons]
    | false =>
      simp only [List.lookup_cons, hx] at h
      by_cases hc' : (k == NameKind.free && env.scope.kind == .function && env.kindOf n == some .cell) = true
      · rw [if_pos hc']; simp only [List.lookup_cons, hx]; exact ih h hc
      · rw [if_neg hc']; simp only [List.lookup_cons, hx]; exact ih h hc

theorem relabel_of {env : Env} : ∀ {names : List (Str × NameKind)} {y : Str} {k' : NameKind},
    (names.map fun (n, k) => if (k == NameKind.free && env.scope.kind == .function && env.kindOf n == some .cell) then (n, NameKind.cell) else (n, k)).lookup y = some k' →
    ∃ k, names.lookup y = some k ∧ (k' = k ∨ k = .free)
  | [], _, _, h => by simp at h
  | (n, k) :: r, y, k', h => by
    have ih := @relabel_of env r y k'
    have h : List.lookup y ((if (k == NameKind.free && env.scope.kind == .function && env.kindOf n == some .cell) = true then (n, NameKind.cell) else (n, k)) :: _) = some k' := h
    cases hx : y == n with
    | true =>
      refine ⟨k, by simp only [List.lookup_cons, hx], ?_⟩
      by_cases hc' : (k == NameKind.free && env.scope.kind == .function && env.kindOf n == some .cell) = true
      · right
        simp only [Bool.and_eq_true] at hc'
        simpa using hc'.1.1
      · rw [if_neg hc'] at h; simp only [List.lookup_cons, hx] at h; left; exact (Option.some.inj h).symm
    | false =>
      have h2 : List.lookup y (r.map fun (n, k) => if (k == NameKind.free && env.scope.kind == .function && env.kindOf n == some .cell) then (n, NameKind.cell) else (n, k)) = some k' := by
        by_cases hc' : (k == NameKind.free && env.scope.kind == .function && env.kindOf n == some .cell) = true
        · rw [if_pos hc'] at h; simp only [List.lookup_cons, hx] at h; exact h
        · rw [if_neg hc'] at h; simp only [List.lookup_cons, hx] at h; exact h
      obtain ⟨k2, e, q⟩ := ih h2
      exact ⟨k2, by simp only [List.lookup_cons, hx]; exact e, q⟩

noncomputable def clFrom (env : Env) : List (Str × NameKind) → List (Str × Addr) → List (Str × Addr)
  | [], acc => acc
  | (n, k) :: r, acc => if k == .free then clFrom env r ((n, (env.cells.lookup n).getD 0) :: acc) else clFrom env r acc
theorem clFrom_sub {env : Env} : ∀ {names : List (Str × NameKind)} {acc : List (Str × Addr)}, (∀ y ∈ names, y.2 = .free → ∃ c, env.cells.lookup y.1 = some c) → (∀ x c, acc.lookup x = some c → env.cells.lookup x = some c) →
    ∀ x c, (clFrom env names acc).lookup x = some c → env.cells.lookup x = some c
  | [], _, _, ha, x, c, h => ha x c h
  | (n, k) :: r, acc, hy, ha, x, c, h => by
    unfold clFrom at h
    by_cases hk : (k == NameKind.free) = true
    · rw [if_pos hk] at h
      refine clFrom_sub (fun y hy' => hy y (List.mem_cons_of_mem _ hy')) (fun x' c' h' => ?_) x c h
      obtain ⟨c0, e0⟩ := hy (n, k) List.mem_cons_self (by simpa using hk)
      have e0 : env.cells.lookup n = some c0 := e0
      simp only [List.lookup_cons] at h'
      cases hx : x' == n with
      | true =>
        rw [hx] at h'
        have e : x' = n := by simpa using hx
        subst e
        rw [e0] at h'
        rw [e0]
        exact h'
      | false => rw [hx] at h'; exact ha _ _ h'
    · rw [if_neg hk] at h
      exact clFrom_sub (fun y hy' => hy y (List.mem_cons_of_mem _ hy')) ha x c h
theorem lookup_some_of {x : Str} : ∀ {acc : List (Str × Addr)}, (∃ c, (x, c) ∈ acc) → ∃ c, acc.lookup x = some c
  | [], h => by obtain ⟨_, h⟩ := h; cases h
  | (n, c) :: r, h => by
    simp only [List.lookup_cons]
    cases hx : x == n with
    | true => exact ⟨c, rfl⟩
    | false =>
      obtain ⟨c', h⟩ := h
      rcases List.mem_cons.mp h with e | h
      · injection e with e1 _
        subst e1
        simp at hx
      · exact lookup_some_of ⟨c', h⟩
theorem clFrom_mem {env : Env} {x : Str} : ∀ {names : List (Str × NameKind)} {acc : List (Str × Addr)}, ((∃ c, (x, c) ∈ acc) ∨ (x, NameKind.free) ∈ names) → ∃ c, (x, c) ∈ clFrom env names acc
  | [], _, h => by
    rcases h with h | h
    · exact h
    · cases h
  | (n, k) :: r, acc, h => by
    unfold clFrom
    by_cases hk : (k == NameKind.free) = true
    · rw [if_pos hk]
      refine clFrom_mem ?_
      rcases h with ⟨c, h⟩ | h
      · exact .inl ⟨c, List.mem_cons_of_mem _ h⟩
      · rcases List.mem_cons.mp h with e | h
        · injection e with e1 _
          subst e1
          exact .inl ⟨_, List.mem_cons_self⟩
        · exact .inr h
    · rw [if_neg hk]
      refine clFrom_mem ?_
      rcases h with h | h
      · exact .inl h
      · rcases List.mem_cons.mp h with e | h
        · injection e with _ e2
          subst e2
          exact absurd rfl hk
        · exact .inr h
theorem closureFor_at {env : Env} : ∀ (names : List (Str × NameKind)) (acc : List (Str × Addr)), (∀ y ∈ names, y.2 = .free → ∃ c, env.cells.lookup y.1 = some c) →
    (forIn names acc (fun x r => match x with | (name, kind) => if (kind == NameKind.free) = true then (do let a ← cellOf env name; pure (ForInStep.yield ((name, a) :: r))) else pure (ForInStep.yield r)) : Sem (List (Str × Addr))) = pure (clFrom env names acc)
  | [], acc, _ => rfl
  | (n, k) :: r, acc, hy => by
    have ih := fun acc => closureFor_at r acc fun y hy' => hy y (List.mem_cons_of_mem _ hy')
    rw [List.forIn_cons]
    unfold clFrom
    by_cases hk : (k == NameKind.free) = true
    · obtain ⟨c0, e0⟩ := hy (n, k) List.mem_cons_self (by simpa using hk)
      have e0 : env.cells.lookup n = some c0 := e0
      have e1 : cellOf env n = pure c0 := by unfold cellOf; rw [e0]
      rw [if_pos hk]
      simp only [hk, if_true, e1, e0]
      exact ih _
    · rw [if_neg hk]
      simp only [hk]
      exact ih _
theorem closureFor_cl {env : Env} {scope : Scope} (hy : ∀ y ∈ scope.names, y.2 = .free → ∃ c, env.cells.lookup y.1 = some c) : closureFor scope env = pure (clFrom env scope.names []) := by
  have h := closureFor_at scope.names [] hy
  exact congrArg (fun t : Sem (List (Str × Addr)) => t >>= fun s => pure s) h

section
variable {X : Cx} {pins : List (Addr × Obj)} {σ : St} {H : Hp} {s : Shared}

theorem comp_has {scope : Scope} {M : List Str} {nT : Nat} {ix : List Nat} (I : Inv X pins σ H s) (S : CompSc X.N X.env.scope scope M nT ix) : ∀ y ∈ scope.names, y.2 = .free → ∃ c, X.env.cells.lookup y.1 = some c :=
  fun y hy e => I.ok.has y.1 (.inl (S.fre y hy e))
theorem comp_inv {scope : Scope} {M : List Str} {nT : Nat} {ix : List Nat} {fp : List Addr} {C : Addr} {h₁ : Heap} {m : Str → Option Value} {tk : Nat} (I : Inv X pins σ H s) (hf : ∀ b ∈ fp, FpOk X pins H b) (hfs : ∀ b ∈ fp, b < s.heap.objs.size)
    (S : CompSc X.N X.env.scope scope M nT ix) (hC : s.heap.objs.size ≤ C) (old : ∀ b o, s.heap.get? b = some o → h₁.get? b = some o) (hns : h₁.Ns C m) :
    Inv (compCx X scope M (clFrom X.env scope.names []) C fp s H) [] (sIn nT ix σ) H { s with heap := h₁, toks := tk } := by
  have sub : ∀ x c, (clFrom X.env scope.names []).lookup x = some c → X.env.cells.lookup x = some c := clFrom_sub (comp_has I S) (fun x c h => by simp at h)
  have hs2 : ∀ x, scope.names.lookup x = some .free → ∃ c, (clFrom X.env scope.names []).lookup x = some c := fun x e => lookup_some_of (clFrom_mem (.inr (PySem.mem_of_lookup e)))
  have hex : ∀ x k', (relabel scope X.env).names.lookup x = some k' → (k' = .cell ∨ k' = .free) → scope.names.lookup x = some .free := fun x k' e hk => by
    obtain ⟨k, e1, q⟩ := relabel_of e
    rcases q with q | q
    · rcases hk with z | z
      · exact absurd (q.symm.trans z) (S.cell (x, k) (PySem.mem_of_lookup e1))
      · rw [e1, ← q, z]
    · rw [e1, q]
  refine ⟨⟨I.ok.mod, S.kind, I.ok.glob, I.ok.blt, hC, fun x y c h1 h2 => I.ok.inj x y c (sub x c h1) (sub y c h2), fun x hx => ?_, fun x c hx => ?_, I.ok.hd, I.ok.frames, .inl rfl, fun b hb => ⟨fun z => ?_, fun x c e => ?_⟩, I.bs, Nat.le_trans I.ok.bsz I.sz, fun b o e hb => ?_, fun b hb hz => ?_, I.stack, I.stkFree⟩,
    rfl, I.bare, Un.kept old, ⟨m, hns, fun k y v e1 e2 _ => ?_⟩, fun x c e => ?_, I.hok.fresh hC, fun x c e => I.freeC x c (sub x c e), fun p hp => absurd (show p ∈ ([] : List (Addr × Obj)) from hp) (by simp), I.hok.kept old, ?_⟩
  · rcases hx with hx | hx
    · exact hs2 x (hex x _ hx (.inl rfl))
    · exact hs2 x (hex x _ hx (.inr rfl))
  · exact absurd (show false = true from hx) (by decide)
  · have z' : b = C := z
    have := hfs b hb
    rw [z'] at this
    exact absurd this (Nat.not_lt.mpr hC)
  · exact (hf b hb).2.2.2.2.1 x c (sub x c e)
  · rcases (hf b hb).2.2.2.1 with z | z
    · exact I.ok.noex b o e z
    · exact absurd (Nat.lt_of_lt_of_le (Heap.lt_size e) (Nat.le_trans I.ok.bsz z)) (Nat.lt_irrefl _)
  · rcases List.mem_cons.mp (I.stkSub b hz) with z | z
    · exact (hf b hb).2.1 z
    · exact (hf b hb).2.2.1 z
  · have e2 : (sIn nT ix σ)[k]? = some (some v) := e2
    have e1 : M[k]? = some y := e1
    unfold sIn at e2
    by_cases hk : k < nT
    · rw [List.getElem?_append_left (by simpa using hk), List.getElem?_replicate] at e2
      simp [hk] at e2
    · have hk' : nT ≤ k := Nat.le_of_not_lt hk
      rw [List.getElem?_append_right (by simpa using hk'), List.length_replicate, List.getElem?_map] at e2
      cases e3 : ix[k - nT]? with
      | none => rw [e3] at e2; cases e2
      | some i =>
        rw [e3] at e2
        have e4 : (σ[i]?).getD none = some v := Option.some.inj e2
        have e5 : σ[i]? = some (some v) := by
          cases e6 : σ[i]? with
          | none => rw [e6] at e4; cases e4
          | some o => rw [e6] at e4; exact congrArg some e4
        have hi : i < X.N.length := by rw [← I.len]; exact (List.getElem?_eq_some_iff.mp e5).1
        have e7 : y = X.N.getD i Str.empty := by
          have q : (M.drop nT)[k - nT]? = some y := by rw [List.getElem?_drop]; rw [Nat.add_sub_cancel' hk']; exact e1
          rw [S.nms, List.getElem?_map, e3] at q
          exact (Option.some.inj q).symm
        have e8 : X.N[i]? = some y := by rw [e7, List.getElem?_eq_getElem hi, List.getD_eq_getElem?_getD, List.getElem?_eq_getElem hi]; rfl
        have hfree : scope.names.lookup y = some .free := by rw [e7]; exact S.vis i (List.mem_of_getElem? e3)
        have hcell : X.env.scope.names.lookup y = some .cell := S.fre (y, .free) (PySem.mem_of_lookup hfree) rfl
        obtain ⟨m', _, hl⟩ := I.loc
        obtain ⟨u, r, l⟩ := hl i y v e8 e5 (.inr (.inl hcell))
        refine ⟨u, r, ?_⟩
        rcases l with ⟨l, _⟩ | ⟨_, c, ec, o, ho, hd⟩
        · have l : X.env.scope.names.lookup y = some .local := l
          rw [hcell] at l
          cases l
        · obtain ⟨c', ec'⟩ := hs2 y hfree
          have q := sub y c' ec'
          rw [ec] at q
          cases q
          exact .inr ⟨.inl (relabel_cell I.ok.kind hfree hcell), c, ec', o, old _ _ ho, hd⟩
  · obtain ⟨v, o, ho, hd⟩ := I.cell x c (sub x c e)
    exact ⟨v, o, old _ _ ho, hd⟩
  · show (sIn nT ix σ).length = M.length
    rw [S.len]
    simp [sIn]

/-- an object that stood untracked is tracked from here on -/
theorem Inv.track {D : Addr} {o : HO} (I : Inv X pins σ H s) (f : FpOk X pins H D) (ge : X.s₀.heap.objs.size ≤ D) (new : ObjOk X.prog X.w (upd H D o) s.heap D o) : Inv X pins σ (upd H D o) s := by
  have n := f.1
  have ne : ∀ b u, H b = some u → b ≠ D := fun b u e => ne_of_none e n
  refine ⟨I.ok, I.os, I.bare, ⟨I.base.keep, I.base.slot, fun b ob e q hx => ?_, I.base.there, fun b xs e => ?_, fun b ob u e => ?_, fun b ps e => ?_⟩, I.loc, I.cell, ?_, fun x c e => ?_, fun p hp => ?_, fun b u e => ?_, I.len⟩
  · rw [upd_ne (Nat.ne_of_lt (Nat.lt_of_lt_of_le (Heap.lt_size e) ge))]
    exact I.base.free b ob e q hx
  · have q := I.base.tups b xs e
    rw [upd_ne (ne _ _ q)]
    exact q
  · have q := I.base.frzs b ob u e
    rw [upd_ne (ne _ _ q)]
    exact q
  · obtain ⟨more, q⟩ := I.base.tbls b ps e
    exact ⟨more, by rw [upd_ne (ne _ _ q)]; exact q⟩
  · rw [upd_ne (Ne.symm f.2.1)]
    exact I.free
  · rw [upd_ne (f.2.2.2.2.1 x c e)]
    exact I.freeC x c e
  · obtain ⟨e, q, r⟩ := I.pin p hp
    exact ⟨e, by rw [upd_ne (f.2.2.2.2.2 p hp)]; exact q, r⟩
  · by_cases hb : b = D
    · subst hb
      rw [upd_same] at e
      cases e
      exact new
    · rw [upd_ne hb] at e
      exact (I.hok b u e).stay (fun _ _ _ q => q) (fun c q => by rw [upd_ne (ne _ _ q)]; exact q) fun c xs q => by rw [upd_ne (ne _ _ q)]; exact q

noncomputable abbrev lstO (us : List Value) : Obj := { cls := .type "list", data := .seq us.toArray us.length }
theorem lstO_snoc (us : List Value) (y : Value) : ({ cls := .type "list", data := .seq (us.toArray.push y) (us.length + 1) } : Obj) = lstO (us ++ [y]) := by
  show ({ cls := .type "list", data := .seq (us.toArray.push y) (us.length + 1) } : Obj) = { cls := .type "list", data := .seq (us ++ [y]).toArray (us ++ [y]).length }
  rw [List.length_append, List.length_singleton, List.push_toArray]

/-- the tests of a comprehension -/
noncomputable def PF (X : Cx) (ifs : List Expr) (t : TT) : Prop :=
  ∀ (pins : List (Addr × Obj)) (s : Shared) (σ : St) (H : Hp) (Q : Bool → Hp → Prop), Inv X pins σ H s → t σ H Q →
    wpAny (model X.prog X.w) X.A (forIn ifs true fun c r => if r = true then do let ok ← isTrue c X.env (eval c X.env); pure (ForInStep.yield ok) else pure (ForInStep.yield r)) (TP X pins σ Q) X.xe s
noncomputable def tAll : TT := fun _ H Q => Q true H
theorem pf_nil : PF X [] tAll := fun _ _ _ H _ I h => wpAny_tests_nil ⟨H, I, h⟩
theorem pf_one {c : Expr} {t : TT} (h : PT X c t) : PF X [c] t := fun pins s σ H Q I q => wpAny_tests_one (h pins s σ H Q I q)

noncomputable def sTail (ix : List Nat) (σ : St) : St := ix.map fun i => (σ[i]?).getD none
noncomputable def CompR (J : It) (nT : Nat) (tail : St) (g : TG) (tt : TT) (te : TE) (Q : List V → Hp → Prop) (H : Hp) : Prop :=
  ∃ W : Nat → Nat → List V → Hp → Prop, (∃ m, W 0 m [] H) ∧ ∀ i m ys H, W i m ys H →
    (J.stop i H ∧ Q ys H) ∨ (J.go i H ∧ ys.length < sizeLine ∧ ∃ N : List V → Hp → Prop, (∀ ys' H2, N ys' H2 → ∃ m', m' < m ∧ W (i + 1) m' ys' H2) ∧
      ∀ x H' (ts : St), ts.length = nT → J.yld i H x H' → g x (ts ++ tail) H' fun σ2 H2 => (∃ ts' : St, ts'.length = nT ∧ σ2 = ts' ++ tail) ∧ tt σ2 H2 fun b H3 => if b = true then te σ2 H3 fun y H4 => N (ys ++ [y]) H4 else N ys H3)

theorem comp_block {tg elt iter : Expr} {ifs : List Expr} {scope : Scope} {pos : Pos} {M : List Str} {nT : Nat} {ix : List Nat} {g : TG} {tt : TT} {te : TE} {it : Addr} {fp : List Addr} {tn : Nat → Heap → Prop} {J : It} {E : Value → Shared → Prop}
    {RR : Value → Addr → Result → Shared → Prop} {Qf : List V → Hp → Prop}
    (I : Inv X pins σ H s) (hc : X.calm = true) (T : Turn X.prog X.w X.K tg J fp it tn) (st : tn 0 s.heap) (hf : ∀ b ∈ fp, FpOk X pins H b) (S : CompSc X.N X.env.scope scope M nT ix)
    (hg : ∀ cl C fp s H, PG (compCx X scope M cl C fp s H) tg g) (hi : ∀ cl C fp s H, PF (compCx X scope M cl C fp s H) ifs tt) (he : ∀ cl C fp s H, PE (compCx X scope M cl C fp s H) elt te)
    (h : CompR J nT (sTail ix σ) g tt te Qf H)
    (hRR : ∀ D C ys m H' s', (∀ b o u, H b = some (.frz o u) → H' b = some (.frz o u)) → H' D = none → Inv X pins σ (upd H' D (.lst ys)) s' → FpOk X pins (upd H' D (.lst ys)) C → s'.heap.Ns C m → Qf ys H' → RR (.ref D) C (.ok .next) s') :
    wpAny (model X.prog X.w) X.A (newList []) (fun acc s₃ => wpAny (model X.prog X.w) X.A (newFunctionEnv scope X.env.globals (clFrom X.env scope.names []) [] X.env.qual none .none (some X.env)) (fun cenv s₄ =>
      codeAny (model X.prog X.w) X.A (.compStart (.ListComp elt [⟨tg, iter, ifs, 0⟩] scope pos) 0 (.ref it) acc { cenv with scope := relabel scope X.env }) (RR acc cenv.locals) s₄) E s₃) E s := by
  obtain ⟨W, ⟨m0, w0⟩, turn⟩ := h
  have hfs : ∀ b ∈ fp, b < s.heap.objs.size := fun b hb => by
    obtain ⟨o, e, _⟩ := T.obj 0 _ st b hb
    exact Heap.lt_size e
  refine wpAny_newObj_type (wpAny_newFunctionEnv S.cell (by intro y hy; simp at hy) (fun h₁ hns₁ hsb₁ => ?_) S.kind)
  dsimp only at hns₁ hsb₁ ⊢
  generalize hH2 : s.heap.push { cls := .type "list", dict := none, data := .seq ([] : List Value).toArray } = H2 at hns₁ hsb₁ ⊢
  have hC : H2.objs.size = s.heap.objs.size + 1 := by rw [← hH2, Heap.size_push]
  have hDC : s.heap.objs.size ≠ H2.objs.size := by rw [hC]; exact Nat.ne_of_lt (Nat.lt_succ_self _)
  have hCle : s.heap.objs.size ≤ H2.objs.size := by rw [hC]; exact Nat.le_succ _
  have below : ∀ b, b < s.heap.objs.size → b ≠ H2.objs.size ∧ b ≠ s.heap.objs.size := fun b hb => ⟨by rw [hC]; exact Nat.ne_of_lt (Nat.lt_succ_of_lt hb), Nat.ne_of_lt hb⟩
  have old : ∀ b o, s.heap.get? b = some o → h₁.get? b = some o := fun b o e => hsb₁.extBut b o (below b (Heap.lt_size e)).1 (Heap.get?_push_of_some _ (hH2 ▸ Heap.get?_push_of_some _ e))
  have hacc : h₁.get? s.heap.objs.size = some (lstO []) := hsb₁.extBut _ _ hDC (Heap.get?_push_of_some _ (hH2 ▸ Heap.get?_push_size _ rfl))
  have hDn : H s.heap.objs.size = none := I.hok.fresh (Nat.le_refl _)
  have hDfs : s.heap.objs.size ∉ frs X.stack := fun hb => (List.mem_cons.mp (I.stkSub _ hb)).elim (fun e => absurd I.lt (by rw [← e]; exact Nat.lt_irrefl _)) (I.nofs (Nat.le_refl _))
  generalize hD : s.heap.objs.size = D at *
  generalize hCC : H2.objs.size = C at *
  have J0 : ∀ tk, Inv (compCx X scope M (clFrom X.env scope.names []) C fp s H) [] (sIn nT ix σ) H { s with heap := h₁, toks := tk } := fun tk => comp_inv I hf (by rw [hD]; exact hfs) S (by rw [hD]; exact hCle) old hns₁
  have cne : ∀ x c, (clFrom X.env scope.names []).lookup x = some c → c ≠ D := fun x c e z => by
    have sub := clFrom_sub (comp_has I S) (acc := []) (fun x c h => by simp at h) x c e
    obtain ⟨v, o, ho, _⟩ := I.cell x c sub
    have := Heap.lt_size ho
    rw [z, hD] at this
    exact Nat.lt_irrefl _ this
  have pinD : ∀ {σ' : St} {H' : Hp} {s' : Shared} {us : List Value}, Inv (compCx X scope M (clFrom X.env scope.names []) C fp s H) [] σ' H' s' → s'.heap.get? D = some (lstO us) → H' D = none →
      Inv (compCx X scope M (clFrom X.env scope.names []) C fp s H) [(D, lstO us)] σ' H' s' := fun {σ' H' s' us} I' e n => I'.pins_of fun p hp => by
    have ep : p = (D, lstO us) := by simpa using hp
    subst ep
    exact ⟨e, n, hDC, hDfs, fun v z => by cases z⟩
  have stat : ∀ {H' : Hp} {us : List Value}, (∀ b ∈ fp, H' b = none) → ∀ b ∈ fp, FpOk (compCx X scope M (clFrom X.env scope.names []) C fp s H) [(D, lstO us)] H' b := fun {H' us} hn b hb =>
    ⟨hn b hb, ((J0 0).ok.exf b hb).1, (J0 0).ok.exfs b hb, .inl hb, ((J0 0).ok.exf b hb).2, fun p hp z => by
      have ep : p = (D, lstO us) := by simpa [compCx] using hp
      rw [ep] at z
      have := hfs b hb
      rw [← z] at this
      exact Nat.lt_irrefl _ this⟩
  have loop : ∀ s₃ : Shared, (∃ tk, s₃ = { s with heap := h₁, toks := tk }) →
      codeAny (model X.prog X.w) X.A (.compLoop (.ListComp elt [⟨tg, iter, ifs, 0⟩] scope pos) 0 (.ref it) (.ref D) (compEnvC scope (clFrom X.env scope.names []) C X.env)) (RR (.ref D) C) s₃ := by
    rintro s₃ ⟨tk, rfl⟩
    refine comp_loop (fun n s' => ∃ i ys us ts H', ts.length = nT ∧ Inv (compCx X scope M (clFrom X.env scope.names []) C fp s H) [(D, lstO us)] (ts ++ sTail ix σ) H' s' ∧ Vals ys us ∧ ys.length ≤ sizeLine ∧ tn i s'.heap ∧ (∀ b ∈ fp, H' b = none) ∧ W i n ys H') ?_ m0
      ⟨0, [], [], List.replicate nT none, H, List.length_replicate, pinD (J0 tk) hacc hDn, .nil, Nat.zero_le _, T.keep _ _ _ st fun b hb o e => old b o e, fun b hb => (hf b hb).1, w0⟩
    rintro n s1 ⟨i, ys, us, ts, H1, hts, I1, rv, hz, st1, fr1, w1⟩
    rcases turn i n ys H1 w1 with ⟨stop, q⟩ | ⟨go, hlt, N, hN, step⟩
    · refine thn (T.done (compCx X scope M (clFrom X.env scope.names []) C fp s H) rfl rfl rfl hc i _ s1 _ H1 NoE I1 (stat fr1) st1 stop) fun r s2 ⟨hr, I2⟩ => ?_
      subst hr
      have IO : Inv X pins σ H1 s2 := I.call' (ch := fp) I2.os I2.base I2.hok I2.bare fun b hb => ⟨(hf b hb).2.2.2.1, (hf b hb).2.1, (hf b hb).2.2.2.2.1, (hf b hb).2.2.2.2.2⟩
      have pD := I2.pin (D, lstO us) (by simp [compCx])
      have hn1 : H1 D = none := pD.2.1
      have fD : FpOk X pins H1 D := by rw [← hD]; exact I.fpOk (Nat.le_refl _) (by rw [hD]; exact hn1)
      have IT : Inv X pins σ (upd H1 D (.lst ys)) s2 := IO.track fD (by rw [← hD]; exact I.sz) ⟨hz, us, us.length, rv, pD.1⟩
      obtain ⟨mC, hnC, _⟩ := I2.loc
      have hC1 : H1 C = none := I2.free
      exact hRR D C ys mC H1 s2 I2.base.frzs hn1 IT (I.fpOk (by rw [hD]; exact hCle) (by rw [upd_ne (Ne.symm hDC)]; exact hC1)) hnC q
    · refine thn (T.item (compCx X scope M (clFrom X.env scope.names []) C fp s H) rfl rfl rfl hc i _ s1 _ H1 NoE I1 (stat fr1) st1 go) fun r s2 ⟨u, hr, h2⟩ => ?_
      subst hr
      refine thn h2 fun _ s3 ⟨x, H3, I3, r3, y3, st3, fr3⟩ => ?_
      have I3' := I3.pinned (stat fr3) (T.obj _ _ st3)
      refine thn (hg _ _ _ _ _ _ s3 _ H3 x u _ I3' r3 (step x H3 ts hts y3)) fun _ s4 ⟨σ4, H4, I4, ⟨ts4, hts4, e4⟩, q4⟩ => ?_
      subst e4
      refine thn (hi _ _ _ _ _ _ s4 _ H4 _ I4 q4) fun b s5 ⟨H5, I5, q5⟩ => ?_
      cases b with
      | false =>
        obtain ⟨m', hm, w'⟩ : ∃ m', m' < n ∧ W (i + 1) m' ys H5 := hN _ _ q5
        refine ⟨m', hm, i + 1, ys, us, ts4, H5, hts4, I5.unpinned, rv, hz, T.keep _ _ _ st3 fun b hb o e => (I5.pin (b, o) (List.mem_append_right _ (List.mem_append_right _ (mem_pinsAt hb e)))).1, fun b hb => ?_, w'⟩
        obtain ⟨o, e, d⟩ := T.obj _ _ st3 b hb
        exact (I5.pin (b, o) (List.mem_append_right _ (List.mem_append_right _ (mem_pinsAt hb e)))).2.1
      | true =>
        refine thn (he _ _ _ _ _ _ s5 _ H5 _ I5 q5) fun v s6 ⟨y, H6, I6, r6, q6⟩ => ?_
        obtain ⟨m', hm, w'⟩ := hN _ _ q6
        have pD := I6.pin (D, lstO us) (List.mem_append_right _ (List.mem_append_left _ List.mem_cons_self))
        have hl := rv.length
        have keepfp : ∀ b ∈ fp, ∀ o, s3.heap.get? b = some o → s6.heap.get? b = some o := fun b hb o e => (I6.pin (b, o) (List.mem_append_right _ (List.mem_append_right _ (mem_pinsAt hb e)))).1
        have freefp : ∀ b ∈ fp, H6 b = none := fun b hb => by
          obtain ⟨o, e, d⟩ := T.obj _ _ st3 b hb
          exact (I6.pin (b, o) (List.mem_append_right _ (List.mem_append_right _ (mem_pinsAt hb e)))).2.1
        refine append_at (hsz := by rw [List.size_toArray, ← hl]; exact hz) pD.1 fun h7 sb hD7 => ?_
        have I7 : Inv (compCx X scope M (clFrom X.env scope.names []) C fp s H) [] (ts4 ++ sTail ix σ) H6 { s6 with heap := h7 } :=
          (I6.pins_of (pins' := []) fun p hp => absurd hp (by simp)).turned (t' := s6.toks) (it := D) (fun b o hb e => (sb.2 b hb).trans e) pD.2.1 hDC (.inr (by show s.heap.objs.size ≤ D; rw [hD]; exact Nat.le_refl _)) cne fun p hp => absurd (show p ∈ ([] : List (Addr × Obj)) from hp) (by simp)
        refine ⟨m', hm, i + 1, ys ++ [y], us ++ [v], ts4, H6, hts4, pinD I7 (hD7.trans (congrArg some (lstO_snoc us v))) pD.2.1, rv.append (.cons r6 .nil), by rw [List.length_append, List.length_singleton]; exact hlt,
          T.keep _ _ _ (T.keep _ _ _ st3 keepfp) fun b hb o e => (sb.2 b fun z => ?_).trans e, freefp, w'⟩
        have := hfs b hb
        rw [z] at this
        exact Nat.lt_irrefl _ this
  exact codeAny_compStart_list (loop _ ⟨_, rfl⟩) (T.self _ 0 _ _ _ (T.keep _ _ _ st fun b hb o e => old b o e) (loop _ ⟨_, rfl⟩))

noncomputable def tComp (wi : TI) (nT : Nat) (ix : List Nat) (g : TG) (tt : TT) (te : TE) : TE := fun σ H Q => wi σ H fun J H1 => CompR J nT (sTail ix σ) g tt te (fun ys H' => ∀ p, H' p = none → Q (.ref p) (upd H' p (.lst ys))) H1
theorem pe_comp {tg elt iter : Expr} {ifs : List Expr} {scope : Scope} {pos : Pos} {M : List Str} {nT : Nat} {ix : List Nat} {wi : TI} {g : TG} {tt : TT} {te : TE} (hc : X.calm = true) (hI : PI X tg iter wi) (S : CompSc X.N X.env.scope scope M nT ix)
    (hg : ∀ cl C fp s H, PG (compCx X scope M cl C fp s H) tg g) (hi : ∀ cl C fp s H, PF (compCx X scope M cl C fp s H) ifs tt) (he : ∀ cl C fp s H, PE (compCx X scope M cl C fp s H) elt te)
    (hs : ∀ x, foldedSetIterable iter X.env x = pure x := by intro _; rfl) :
    PE X (.ListComp elt [⟨tg, iter, ifs, 0⟩] scope pos) (tComp wi nT ix g tt te) := by
  intro pins s σ H Q I h
  rw [eval_ListComp]
  refine wpAny_comprehension_free (use := none) rfl hs (closureFor_cl (comp_has I S)) S.kind S.loc (thn (hI pins s σ H _ I h) fun xv s1 h1 => thn h1 fun itv s2 h2 => ?_)
  obtain ⟨it, fp, tn, J, H2, e, I2, T, st2, f2, R⟩ := h2
  subst e
  refine comp_block (RR := fun acc C => compPost (model X.prog X.w) X.A X.xe none (EP X pins σ Q) acc C) I2 hc T st2 f2 S hg hi he R ?_
  intro D C ys m H' s' _ n I' fC ns q
  exact ⟨m, ns, fun h' sb => ⟨.ref D, _, I'.turned (t' := s'.toks) (fun b o hb e => (sb.2 b hb).trans e) fC.1 fC.2.1 fC.2.2.2.1 fC.2.2.2.2.1 fC.2.2.2.2.2, rfl, q D n⟩⟩
/-- y = [..], y a name of the frame's own -/
theorem ps_setC {tg elt iter : Expr} {ifs : List Expr} {scope : Scope} {pos py spos : Pos} {y : Str} {i : Nat} {M : List Str} {nT : Nat} {ix : List Nat} {wi : TI} {g : TG} {tt : TT} {te : TE} (hN : X.N.Nodup) (hy : X.N[i]? = some y) (hx : Loc X.env.scope y)
    (hc : X.calm = true) (hI : PI X tg iter wi) (S : CompSc X.N X.env.scope scope M nT ix)
    (hg : ∀ cl C fp s H, PG (compCx X scope M cl C fp s H) tg g) (hi : ∀ cl C fp s H, PF (compCx X scope M cl C fp s H) ifs tt) (he : ∀ cl C fp s H, PE (compCx X scope M cl C fp s H) elt te)
    (hsw : swapsWith (.ListComp elt [⟨tg, iter, ifs, 0⟩] scope pos) (some (.Name y py)) spos.line X.env = pure true := by rfl)
    (hf : X.fn y = true ∨ X.env.scope.names.lookup y = some .local := by first | exact .inl rfl | exact .inr rfl | assumption)
    (hs : ∀ x, foldedSetIterable iter X.env x = pure x := by intro _; rfl) :
    PS X (.Assign [.Name y py] (.ListComp elt [⟨tg, iter, ifs, 0⟩] scope pos) spos) (fun D σ H => tComp wi nT ix g tt te σ H fun v H1 => D.nx (σ.set i (some v)) H1) := by
  intro pins s σ H D I h
  rw [exec_Assign_Name_used _ _ _ _ hsw]
  refine wpAny_bind (wpAny_standAt (wpAny_bind ?_))
  show wpAny _ X.A (do let _ ← comprehension (.ListComp elt [⟨tg, iter, ifs, 0⟩] scope pos) scope X.env _ (newList []) false (eval iter X.env) (some (assign (.Name y py) X.env))) _ _ s
  refine wpAny_bind (thn (wpAny_comprehension_free (use := some (assign (.Name y py) X.env)) (Q := fun _ s' => SP X pins D .next s') rfl hs (closureFor_cl (comp_has I S)) S.kind S.loc
    (thn (hI pins s σ H _ I h) fun xv s1 h1 => thn h1 fun itv s2 h2 => ?_)) fun _ s' hq => wpAny_pure (wpAny_pure hq))
  obtain ⟨it, fp, tn, J, H2, e, I2, T, st2, f2, R⟩ := h2
  subst e
  refine comp_block (RR := fun acc C => compPost (model X.prog X.w) X.A X.xe (some (assign (.Name y py) X.env)) (fun _ s' => SP X pins D .next s') acc C) I2 hc T st2 f2 S hg hi he R ?_
  intro Dd C ys m H' s' _ n I' fC ns q
  show wpAny _ X.A (assign (.Name y py) X.env (.ref Dd)) _ _ s'
  refine wpAny_assign_Name (store_ok2 I' hN hy hx (v := .ref Dd) rfl (fun s'' I'' hh => ?_) hf)
  obtain ⟨a, sb, ha⟩ := hh
  have hCa : C ≠ a := by
    rcases ha with z | z
    · rw [z]; exact fC.2.1
    · exact Ne.symm (fC.2.2.2.2.1 _ _ z)
  exact ⟨m, ns.sameBut sb hCa, fun h' sb' => ⟨_, _, I''.turned (t' := s''.toks) (fun b o hb e => (sb'.2 b hb).trans e) fC.1 fC.2.1 fC.2.2.2.1 fC.2.2.2.2.1 fC.2.2.2.2.2, q Dd n⟩⟩
end
end L2

set_option Elab.async false
set_option linter.all false
set_option maxRecDepth 100000
namespace L2
open PySem PySem.Spec PyProof.Rows
section
variable {X : Cx}

/-! ### // by a divisor up to 10 ** 18 -/
noncomputable def CDivB (i j : Int) : Prop := 0 < j ∧ j ≤ 1000000000000000000
theorem op_fdivB : OpR X (binaryOp .FloorDiv) (rI CDivB fun i j => .int (i / j)) := opI fun i j _ _ _ _ _ hc q => by
  have h1 : (0 : Int) < j := hc.1
  have h2 : j ≤ 1000000000000000000 := hc.2
  refine floordiv_int (by omega) (by rw [Int.fdiv_eq_ediv_of_nonneg i (by omega)]; exact q) (.inl (PyProof.noPylong_of_log2 ?_))
  have h3 : j.natAbs ≠ 0 := by omega
  have h4 : j.natAbs < 2 ^ 60 := by omega
  have h5 : j.natAbs.log2 < 60 := (Nat.log2_lt h3).mpr h4
  omega

/-! ### isinstance -/
noncomputable def clsV : V → Option Value
  | .ty n => some (.type n)
  | .ref a => some (.ref a)
  | _ => none

/-! ### all -/

/-! ### texts -/
theorem strsAre_of : ∀ {ys : List Str} {us : List Value}, Vals (ys.map V.str) us → StrsAre us ys
  | [], _, .nil => .nil
  | y :: r, _, .cons (b := u) h t => by
    obtain ⟨tk, e⟩ : ∃ tk, u = Value.str y tk := h
    subst e
    exact .cons y tk (strsAre_of t)
theorem mt_join : MtR X "str.join" (fun x xs H Q => ∃ (z : Str) (p : Addr) (ys : List Str), x = .str z ∧ xs = [.ref p] ∧ SqL X.K H p (ys.map V.str) ∧ z.length ≤ 16 ∧ (ys.map (·.length)).sum + ys.length ≤ 1048576 ∧ Q (.str (Txt.join z ys)) H) := by
  intro pins s σ H x xs v us Q I rx rs h
  obtain ⟨z, p, ys, rfl, rfl, hq, hz, hw, q⟩ := h
  obtain ⟨u, rfl, ru⟩ := vals1 rs
  cases ru
  obtain ⟨t, rfl⟩ := rx
  obtain ⟨its, r', pl, hz'⟩ := I.list hq
  exact join_listW pl.isList (by simpa using strsAre_of r') hz hw fun t' k => ⟨.str _, H, I.tok k, ⟨_, rfl⟩, q⟩
theorem op_mulS : OpR X (binaryOp .Mult) (fun x y H Q => ∃ z n, x = .str z ∧ y = .int n ∧ MulOk z n ∧ Q (.str (Txt.mul z n)) H) := by
  intro pins s σ H x y v u Q I rx ry h
  obtain ⟨z, n, rfl, rfl, hok, q⟩ := h
  obtain ⟨t, rfl⟩ := rx
  obtain ⟨t', rfl⟩ := ry
  exact SB.mul hok fun t' k => ⟨.str _, H, I.tok k, ⟨_, rfl⟩, q⟩

/-! ### displays of constants -/
noncomputable def cstV : Expr → Option V
  | .Constant (.str x) _ _ => some (.str x)
  | .Constant (.int i) _ _ => some (.int i)
  | _ => none
theorem pe_cst {e : Expr} {v : V} (h : cstV e = some v) : PE X e (tC v) := by
  cases e with
  | Constant c j p =>
    cases c with
    | str x => cases h; exact pe_str
    | int i => cases h; exact pe_int
    | _ => cases h
  | _ => cases h
theorem star_cst {e : Expr} {es : List Expr} {env : Env} {v : V} (h : cstV e = some v) : starEach (e :: es) env = (false, eval e env) :: starEach es env := by
  cases e with
  | Constant c j p => rfl
  | _ => cases h
noncomputable def isCst (e : Expr) : Bool := (cstV e).isSome
noncomputable def cstG (e : Expr) : V := (cstV e).getD .non
theorem pa_csts : ∀ {es : List Expr}, es.all isCst = true → PA X es (fun _ H Q => Q (es.map cstG) H)
  | [], _ => pa_nil
  | e :: es, h => by
    rw [List.all_cons, Bool.and_eq_true] at h
    obtain ⟨v, hv⟩ := Option.isSome_iff_exists.mp (show (cstV e).isSome = true from h.1)
    have hg : cstG e = v := by unfold cstG; rw [hv]; rfl
    rw [List.map_cons, hg]
    exact pa_cons (pe_cst hv) (pa_csts h.2) (star_cst hv)
theorem pa_strs {es : List Expr} (ys : List Str) (h : (es.all isCst && decide (es.map cstG = ys.map V.str)) = true) : PA X es (fun _ H Q => Q (ys.map V.str) H) := by
  rw [Bool.and_eq_true] at h
  have e := of_decide_eq_true h.2
  rw [← e]
  exact pa_csts h.1
theorem flat_csts {es : List Expr} (h : es.all isCst = true) : (es.map cstG).all flatV = true := by
  rw [List.all_eq_true] at h ⊢
  intro v hv
  obtain ⟨e, he, rfl⟩ := List.mem_map.mp hv
  have q := h e he
  unfold isCst at q
  unfold cstG
  cases e with
  | Constant c j p =>
    cases c with
    | str x => rfl
    | int i => rfl
    | _ => exact absurd q Bool.false_ne_true
  | _ => exact absurd q Bool.false_ne_true

/-! ### a word between two statements -/
noncomputable def tMid (t : TS) : TS := fun D σ H => ∃ R : St → Hp → Prop, t { D with nx := R } σ H ∧ ∀ σ' H', R σ' H' → D.nx σ' H'
theorem ps_mid {st : Stmt} {t : TS} (h : PS X st t) : PS X st (tMid t) := by
  intro pins s σ H D I hw
  obtain ⟨R, h1, h2⟩ := hw
  refine thn (h pins s σ H _ I h1) fun f s' q => ?_
  cases f with
  | next => obtain ⟨σ', H', I', q⟩ := q; exact ⟨σ', H', I', h2 _ _ q⟩
  | brk => exact q
  | cont => exact q
  | ret v => exact q
noncomputable def tMidE (t : TE) : TE := fun σ H Q => ∃ R : VK, t σ H R ∧ ∀ v H', R v H' → Q v H'

/-! ### a text walked sign by sign -/
noncomputable def Its (x : Str) : It := ⟨fun i _ => i < x.cps.size, fun i H v H' => H' = H ∧ ∃ c, x.cps[i]? = some c ∧ v = .str ⟨#[c]⟩, fun i _ => i = x.cps.size⟩
theorem go_str {M : Model} {A : Around} {E : Value → Shared → Prop} {s : Shared} {tg : Expr} {it : Addr} {x : Str} {t : Tok} {Q : Unit → Shared → Prop} (hQ : Q () s) : wpAny M A (letOwnedTupleGo tg (.ref it) (.str x t)) Q E s := by
  unfold letOwnedTupleGo
  cases tg <;> exact wpAny_pure hQ
theorem turn_str {P : Program} {w : World} {K : PySem.W.Frag} {tg : Expr} {ty : String} {x : Str} {t : Tok} {it : Addr}
    (hW : ∀ A' : Around, A'.handled = none → Walks P w A' it [it] [it] x.cps.size (SignAt x) (fun i h => h.IsStrIter it ty x t i))
    (hS : ∀ (A : Around) (i : Nat) (s : Shared) (Q : Value → Shared → Prop) (E : Value → Shared → Prop), s.heap.IsStrIter it ty x t i → Q (.ref it) s → wpAny (model P w) A (pyIter (.ref it)) Q E s) :
    Turn P w K tg (Its x) [it] it (fun i h => h.IsStrIter it ty x t i) where
  mem := by simp
  obj := fun i h st b hb => by
    have e : b = it := by simpa using hb
    subst e
    obtain ⟨o, e, c, d⟩ := st
    exact ⟨o, e, fun v z => by rw [d] at z; cases z⟩
  keep := fun i h h' st k => by
    obtain ⟨o, e, r⟩ := st
    exact ⟨o, k it (by simp) o e, r⟩
  item := by
    intro X hP hw hK hc i pins s σ H E I hf st hg
    subst hP hw hK
    obtain ⟨f0, f1, f2, f3, f4, f5⟩ := hf it (by simp)
    refine (hW X.A (I.ok.hd hc)).item i s _ _ hg st fun v h' tk hv st' kk => ?_
    obtain ⟨c, u, hcx, rfl⟩ := hv
    have I1 : Inv X pins σ H { s with heap := h', toks := tk } := I.turned (fun b o hb e => kk b o (by simpa using hb) e) f0 f1 f3 f4 f5
    exact ⟨_, rfl, go_str ⟨.str ⟨#[c]⟩, H, I1, ⟨u, rfl⟩, ⟨rfl, c, hcx, rfl⟩, st', fun b hb => (hf b hb).1⟩⟩
  done := by
    intro X hP hw hK hc i pins s σ H E I hf st hg
    subst hP hw hK
    obtain ⟨f0, f1, f2, f3, f4, f5⟩ := hf it (by simp)
    have e : i = x.cps.size := hg
    subst e
    refine (hW X.A (I.ok.hd hc)).done s _ _ st fun h' tk kk => ⟨rfl, I.turned (fun b o hb e => kk b o (by simpa using hb) e) f0 f1 f3 f4 f5⟩
  self := hS
noncomputable def iStr (tl : TE) : TI := fun σ H R => tl σ H fun x H1 => ∃ z, x = .str z ∧ R (Its z) H1
theorem pi_str {tg l : Expr} {tl : TE} (hl : PE X l tl) : PI X tg l (iStr tl) := by
  intro pins s σ H R I h
  refine thn (hl pins s σ H _ I h) fun v s1 ⟨x, H1, I1, r1, q1⟩ => ?_
  obtain ⟨z, e, q⟩ := q1
  subst e
  obtain ⟨t, rfl⟩ := r1
  have fp : ∀ b ∈ [s1.heap.objs.size], FpOk X pins H1 b := fun b hb => by
    have e : b = s1.heap.objs.size := by simpa using hb
    subst e
    exact I1.fpOk (Nat.le_refl _) (I1.hok.fresh (Nat.le_refl _))
  cases ha : z.cps.all (· < 128)
  · refine wpAny_pyIter_wide ha ⟨s1.heap.objs.size, [s1.heap.objs.size], _, _, H1, rfl, I1.kept (t' := s1.toks) fun b o e => Heap.get?_push_of_some _ e,
      turn_str (fun A' hA => Walks.strWide hA _ z t) (fun _ _ _ _ _ st h => wpAny_pyIter_striter_wide st h), ⟨_, Heap.get?_push_size _ rfl, rfl, rfl⟩, fp, q⟩
  · refine wpAny_pyIter_ascii ha ⟨s1.heap.objs.size, [s1.heap.objs.size], _, _, H1, rfl, I1.kept (t' := s1.toks) fun b o e => Heap.get?_push_of_some _ e,
      turn_str (fun A' hA => Walks.strAscii hA _ z t) (fun _ _ _ _ _ st h => wpAny_pyIter_striter_ascii st h), ⟨_, Heap.get?_push_size _ rfl, rfl, rfl⟩, fp, q⟩

/-! ### comprehensions by a word -/
theorem len1 {ts : St} (h : ts.length = 1) : ∃ v, ts = [v] := by
  match ts, h with
  | [v], _ => exact ⟨v, rfl⟩
theorem compR_range {lo : Int} {n : Nat} {te : TE} {Qf : List V → Hp → Prop} {σt : St} {H : Hp} (Pv : Nat → List V → Hp → Prop) (h0 : Pv 0 [] H) (hz : n ≤ sizeLine) (hlen : ∀ i ys H', Pv i ys H' → ys.length ≤ i)
    (hs : ∀ i ys H', i < n → Pv i ys H' → te (some (.int (lo + i)) :: σt) H' fun y H2 => Pv (i + 1) (ys ++ [y]) H2) (hd : ∀ ys H', Pv n ys H' → Qf ys H') :
    CompR (Itr lo n) 1 σt (gName 0) tAll te Qf H := by
  refine ⟨fun i m ys H' => m = n - i ∧ i ≤ n ∧ Pv i ys H', ⟨n, by simp, Nat.zero_le _, h0⟩, ?_⟩
  rintro i m ys H' ⟨rfl, hi, p⟩
  by_cases hlt : i < n
  · refine .inr ⟨hlt, Nat.lt_of_le_of_lt (hlen i ys H' p) (Nat.lt_of_lt_of_le hlt hz), Pv (i + 1), fun ys' H2 p' => ⟨n - (i + 1), by omega, rfl, hlt, p'⟩, fun x H2 ts hts y => ?_⟩
    obtain ⟨e, y⟩ := y
    subst e y
    obtain ⟨v, rfl⟩ := len1 hts
    exact ⟨⟨[some _], rfl, rfl⟩, hs i ys _ hlt p⟩
  · have e : i = n := by omega
    subst e
    exact .inl ⟨Nat.le_refl _, hd ys H' p⟩
end
end L2

set_option Elab.async false
set_option linter.all false
set_option maxRecDepth 100000
namespace L2
open PySem PySem.Spec PyProof.Rows
section
variable {X : Cx} {pins : List (Addr × Obj)} {σ : St} {H : Hp} {s : Shared}

/-! ### a dict is only read for a while -/

/-! ### a dict's keys, walked -/
noncomputable def Itd (a : Addr) (o : Obj) (kvs : List (Key × V)) : It :=
  ⟨fun i H => i < kvs.length ∧ H a = some (.frz o (.dK kvs)), fun i H x H' => H' = H ∧ ∃ k v, kvs[i]? = some (k, v) ∧ x = kV k, fun i H => i = kvs.length ∧ H a = some (.frz o (.dK kvs))⟩
noncomputable def tCompD (tl : TE) (nT : Nat) (ix : List Nat) (g : TG) (tt : TT) (te : TE) : TE := fun σ H Q => tl σ H fun x H1 => ∃ a kvs, x = .ref a ∧ H1 a = some (.dK kvs) ∧
  ∀ o, CompR (Itd a o kvs) nT (sTail ix σ) g tt te (fun ys H' => ∀ p, H' p = none → Q (.ref p) (upd (upd H' a (.dK kvs)) p (.lst ys))) (upd H1 a (.frz o (.dK kvs)))

/-! ### sum, dict(d), ==, index -/
end
end L2

set_option Elab.async false
set_option linter.all false
set_option maxRecDepth 100000
set_option maxHeartbeats 4000000
namespace L2
open PySem PySem.Spec PyProof.Rows

/-! ## own classes of exceptions under ValueError: attributes, isinstance, making one with its own __init__ -/
section
open PySem.W PySem.Calls Builtin Builtin.ObjectAttr
variable {prog : Program} {w : World} {A : Around} {E : Value → Shared → Prop} {s : Shared} {K : PySem.W.Frag} {x C : Addr} {ox : Obj} {od : Option Obj} {name : Str}

theorem bga_kind : builtinKind "BaseException.__getattribute__" = some .slot := by decide +kernel
theorem bga_split : splitId "BaseException.__getattribute__" = some ("BaseException", "__getattribute__") := by decide +kernel

theorem ga_run {tk : Tok} {R : Result → Shared → Prop} (X : K.In s.heap) (I : InstAt s.heap x ox C od) (hb : mroIn K C (.type "BaseException") = some true)
    (h : wpAny (model prog w) A.in1 (Builtin.«object.__getattribute__» ⟨[.ref x, .str name tk], []⟩) (fun fin s' => match fin with | .done f => R (.ok f) s' | .again c' => c'.quiet = true ∧ codeAny (model prog w) A c' R s') (fun e s' => R (.error e) s') s) :
    codeAny (model prog w) A (.call (.builtin "BaseException.__getattribute__") ⟨[.ref x, .str name tk], []⟩) R s :=
  codeAny_call_builtin PySem.F.excAttr_ValueError.ga.plain PySem.F.entry_bexc_ga
    (@check_slot (model prog w) _ _ s "BaseException.__getattribute__" "BaseException" "__getattribute__" (.ref x) [.str name tk] [] _ bga_kind bga_split (I.type.andThen (looks_mroIn X hb)) (PySem.F.args_bexc_ga (.ref x) (.str name tk)) h)

theorem by_exc {tk : Tok} {fill expr : Bool} {Q : Value → Shared → Prop} (X : K.In s.heap) (I : InstAt s.heap x ox C od) (hga : findIn K (.ref C) "__getattribute__" = some (some (.builtin "BaseException.__getattribute__"))) (hgh : findIn K (.ref C) "__getattr__" = some none)
    (hb : mroIn K C (.type "BaseException") = some true)
    (h : wpAny (model prog w) A.in1 (Builtin.«object.__getattribute__» ⟨[.ref x, .str name tk], []⟩) (fun fin s' => match fin with | .done (.ret v) => wpAny (model prog w) A (handedOut v) Q E s' | _ => False) (fun _ _ => False) s) :
    wpAny (model prog w) A (getAttrBy (.ref x) (.str name tk) fill expr) Q E s := by
  obtain ⟨hh, g, d, t, os⟩ := s
  have L0 := I.type (M := model prog w)
  have L1 := looks_findIn (M := model prog w) X hga
  have L2 := looks_findIn (M := model prog w) X hgh
  unfold getAttrBy
  refine wpAny_holding (wpAny_bind (L0.at (wpAny_bind (L1.at ?_))))
  show wpAny _ _ (getAttrByItsOwn _ _ _ _ _ _) _ _ _
  unfold getAttrByItsOwn
  refine wpAny_bind (show wpAny _ _ (typeLookup (.ref C) "__getattr__") _ _ _ from L2.at ?_)
  refine wpAny_bind (wpAny_attempt (wpAny_holding ?_))
  have e0 : callGetattribute (.ref x) (.str name tk) (.builtin "BaseException.__getattribute__") expr = boundAndCalled (.builtin "BaseException.__getattribute__") (.ref x) (.str name tk) := by cases expr <;> rfl
  rw [e0]
  unfold boundAndCalled
  rw [PySem.F.excAttr_ValueError.ga.bind]
  refine wpAny_bind (wpAny_pure (wpAny_call (ga_run X I hb (wpAny_mono h (fun fin s' z => ?_) fun _ _ z => z.elim))))
  rcases fin with (_ | _ | _ | _) | _ <;> first | exact z | exact z.elim

theorem get_exc {v : Value} {expr : Bool} {Q : Value → Shared → Prop} (X : K.In s.heap) (I : InstAt s.heap x ox C od) (hga : findIn K (.ref C) "__getattribute__" = some (some (.builtin "BaseException.__getattribute__"))) (hgh : findIn K (.ref C) "__getattr__" = some none)
    (hb : mroIn K C (.type "BaseException") = some true) (hf : findObj K C od name = some (.value v)) (hv : handedIn v = true) (h : Q v { s with toks := s.toks + 1 }) : wpAny (model prog w) A (getAttr (.ref x) name expr) Q E s := by
  unfold getAttr
  refine wpAny_bind (wpAny_mkText (by_exc (s := { s with toks := s.toks + 1 }) X I hga hgh hb ?_))
  obtain ⟨hh, g, d, t, os⟩ := s
  have L0 := I.type (M := model prog w)
  have L1 := looks_find (M := model prog w) X I hf
  refine wpAny_bind (wpAny_pure (wpAny_bind (wpAny_pure (wpAny_bind (L0.at (wpAny_bind (L1.at ?_)))))))
  refine wpAny_pure ?_
  show wpAny _ _ (handedOut v) _ _ _
  rw [handedOut_of hv]; exact wpAny_pure h

theorem class_exc {Q : Option Value → Shared → Prop} (X : K.In s.heap) (I : InstAt s.heap x ox C od) (hga : findIn K (.ref C) "__getattribute__" = some (some (.builtin "BaseException.__getattribute__"))) (hgh : findIn K (.ref C) "__getattr__" = some none)
    (hb : mroIn K C (.type "BaseException") = some true) (hf : findObj K C od "__class__" = some (.bind (.builtin "getset_descriptor.__get__") (.builtin "object.__class__"))) (hm : mroIn K C (.type "object") = some true) (h : Q (some (.ref C)) { s with toks := s.toks + 1 }) :
    wpAny (model prog w) A (getAttr? (.ref x) "__class__") Q E s := by
  unfold getAttr? getAttrBy?
  refine wpAny_bind (wpAny_mkText (wpAny_bind (wpAny_attempt (by_exc (s := { s with toks := s.toks + 1 }) X I hga hgh hb ?_))))
  obtain ⟨hh, g, d, t, os⟩ := s
  have L0 := I.type (M := model prog w)
  have L1 := looks_find (M := model prog w) X I hf
  refine wpAny_bind (wpAny_pure (wpAny_bind (wpAny_pure (wpAny_bind (L0.at (wpAny_bind (L1.at ?_)))))))
  show wpAny _ _ (bindTo _ _ _ _) _ _ _
  unfold bindTo
  refine wpAny_bind (wpAny_holding (wpAny_call (class_get (ox := ox) (od := od) X I hm ?_)))
  refine wpAny_pure ?_
  exact handed_on rfl (wpAny_pure h)

theorem findObj_dat {a g : Value} (hc : (clsIn K C).isSome = true) (ha : findIn K (.ref C) name = some (some a)) (hg : specialIn K a "__get__" = some (some g)) (ht : takesIn K a = some true) : findObj K C od name = some (.bind g a) := by
  obtain ⟨cd, hc⟩ := Option.isSome_iff_exists.mp hc
  unfold findObj
  rw [hc, Option.bind_some, ha, Option.bind_some]
  simp [hg, ht]

/-- what of an own class of exceptions the text must have -/
structure XCls (K : Frag) (C : Addr) : Prop where
  ga : findIn K (.ref C) "__getattribute__" = some (some (.builtin "BaseException.__getattribute__"))
  gh : findIn K (.ref C) "__getattr__" = some none
  sa : findIn K (.ref C) "__setattr__" = some (some (.builtin "object.__setattr__"))
  cl : findIn K (.ref C) "__class__" = some (some (.builtin "object.__class__"))
  gt : specialIn K (.builtin "object.__class__") "__get__" = some (some (.builtin "getset_descriptor.__get__"))
  tk : takesIn K (.builtin "object.__class__") = some true
  mb : mroIn K C (.type "BaseException") = some true
  mo : mroIn K C (.type "object") = some true
  hd : hasDictIn K C = true

theorem kitx_exc (c : XCls K C) : KitX K (.ref x) (.ref C) (fun h => ∃ ox od, InstAt h x ox C od) where
  ty := fun _ _ _ ⟨_, _, I⟩ => I.type
  it := fun _ _ X _ => by
    obtain ⟨cdD, hcD, _⟩ := any_some c.hd
    unfold clsIn at hcD
    split at hcD
    · rename_i c' d' cd' sl' ho
      intro A' Q' E' s' k q
      unfold isType loadHead
      exact wpAny_bind (wpAny_loadPart (k _ _ (X _ _ ho)) (wpAny_pure q))
    · cases hcD
  ne := fun h tp dd its n sl X htp => by
    obtain ⟨cdD, hcD, _⟩ := any_some c.hd
    refine Bool.eq_false_iff.mpr fun q => ?_
    have e : C = tp := Value.ref.inj (beq_iff_eq.mp q)
    subst e
    unfold clsIn at hcD
    split at hcD
    · rename_i c' d' cd' sl' ho
      have z := (X _ _ ho).symm.trans htp
      cases z
    · cases hcD
  ca := fun X ⟨_, _, I⟩ k => class_exc X I c.ga c.gh c.mb (findObj_dat (by obtain ⟨cd, hc, _⟩ := any_some c.hd; rw [hc]; rfl) c.cl c.gt c.tk) c.mo k

/-! ### x.name = v where x has no dict yet -/
abbrev bmVE : List Value := [.type "ValueError", .type "Exception", .type "BaseException", .type "object"]
noncomputable def veTail : List Value → Bool
  | .ref _ :: r => veTail r
  | l => l == bmVE
theorem refuse_ve (self : Value) : ∀ {l : List Value}, veTail l = true → refuseLoop self "__setattr__" l = pure ()
  | .ref c :: r, e => by rw [refuseLoop_ref]; exact refuse_ve self (l := r) e
  | [], e => by cases (show bmVE = [] from (beq_iff_eq.mp e).symm)
  | .none :: r, e => by rw [show Value.none :: r = bmVE from beq_iff_eq.mp e]; exact PySem.F.store_ValueError.passes self
  | .bool b :: r, e => by rw [show Value.bool b :: r = bmVE from beq_iff_eq.mp e]; exact PySem.F.store_ValueError.passes self
  | .type b :: r, e => by rw [show Value.type b :: r = bmVE from beq_iff_eq.mp e]; exact PySem.F.store_ValueError.passes self
  | v :: r, e => by
    cases v with
    | ref c => rw [refuseLoop_ref]; exact refuse_ve self (l := r) e
    | _ => rw [show _ = bmVE from beq_iff_eq.mp e]; exact PySem.F.store_ValueError.passes self

theorem osa_openE {tk : Tok} {v : Value} {cd : ClassData} {R : Result → Shared → Prop} (X : K.In s.heap) (I : InstAt s.heap x ox C od) (hc : clsIn K C = some cd) (hv : veTail cd.mro = true) (mo : mroIn K C (.type "object") = some true) (ha : findIn K (.ref C) name = some none)
    (h : wpAny (model prog w) A.in1 (storeInOwnDict (.ref x) (.ref C) (.str name tk) name v false)
      (fun fin s' => match fin with | .done f => R (.ok f) s' | .again c' => c'.quiet = true ∧ codeAny (model prog w) A c' R s') (fun e s' => R (.error e) s') s) :
    codeAny (model prog w) A (.call (.builtin "object.__setattr__") ⟨[.ref x, .str name tk, v], []⟩) R s := by
  have SF := PySem.F.store_object
  have sub : Looks (model prog w) s.heap (isInstance (.ref x) (.type "object")) true := I.type.andThen (looks_mroIn X mo)
  refine codeAny_call_builtin SF.slot.plain SF.entry (@check_slot (model prog w) _ _ s "object.__setattr__" "object" "__setattr__" (.ref x) [.str name tk, v] [] _ SF.kind SF.split sub (SF.args (.ref x) (.str name tk) v) ?_)
  have hm : Looks (model prog w) s.heap (mroOf (.ref C)) cd.mro := (looks_clsIn X hc).andThen .now
  have L3 : Looks (model prog w) s.heap (storeTaker? none) none := .now
  rw [osa_eq, refuse_eq]
  refine wpAny_bind (wpAny_bind (I.type.here (wpAny_bind (hm.here ?_))))
  rw [refuse_ve _ hv]
  refine wpAny_pure (wpAny_bind (I.type.here (wpAny_bind ((looks_findIn X ha).here (wpAny_bind (L3.here ?_))))))
  exact h

theorem set_exc {v : Value} {cd : ClassData} {Q : Unit → Shared → Prop} (X : K.In s.heap) (hx : s.heap.get? x = some ox) (hcl : ox.cls = .ref C) (hn : notCls ox = true) (hdn : ox.dict = none) (hc : clsIn K C = some cd) (hdct : cd.hasDict = true) (hv : veTail cd.mro = true)
    (mo : mroIn K C (.type "object") = some true) (hs : findIn K (.ref C) "__setattr__" = some (some (.builtin "object.__setattr__"))) (ha : findIn K (.ref C) name = some none)
    (h : ∀ h' tk, h'.get? x = some { ox with dict := some s.heap.objs.size } → h'.Ns1 s.heap.objs.size (fun y => if y = name then some v else none) → (∀ b o, b ≠ x → s.heap.get? b = some o → h'.get? b = some o) → Q () { s with heap := h', toks := tk }) :
    wpAny (model prog w) A (setAttr (.ref x) name v) Q E s := by
  have I : InstAt s.heap x ox C none := ⟨hx, hcl, hn, by rw [hdn]; trivial⟩
  refine set_plain X I hs (osa_openE (s := { s with toks := s.toks + 1 }) X I hc hv mo ha ?_)
  obtain ⟨hp, g, d, t, os⟩ := s
  obtain ⟨oc, odt, oda, osl⟩ := ox
  dsimp only at hcl hdn h hx
  subst hcl hdn
  unfold storeInOwnDict ownDictForStores
  refine wpAny_bind (wpAny_pure (wpAny_bind (wpAny_bind (wpAny_loadPart hx (wpAny_bind (PySem.W.Looks.here (s := ⟨hp, g, d, t + 1, os⟩) (looks_clsIn X hc) ?_))))))
  rw [hdct]
  have hx₁ : (hp.push { cls := .type "dict", data := .dict #[] }).get? x = some ⟨.ref C, none, oda, osl⟩ := Heap.get?_push_of_some _ hx
  have hxs : x ≠ hp.objs.size := Nat.ne_of_lt (Heap.lt_size hx)
  have hfr := (Heap.get?_some_iff.mp hx).2
  have hgd : ((hp.push { cls := .type "dict", data := .dict #[] }).update x fun o => { cls := o.cls, dict := some hp.objs.size, data := o.data, slots := o.slots }).get? hp.objs.size
      = some { cls := .type "dict", data := .dict #[] } :=
    (Heap.get?_update_ne _ _ _ _ hxs.symm).trans (Heap.get?_push_at rfl rfl)
  have hnd : ((hp.push { cls := .type "dict", data := .dict #[] }).update x fun o => { cls := o.cls, dict := some hp.objs.size, data := o.data, slots := o.slots }).Ns hp.objs.size (fun _ => none) :=
    ⟨_, #[], _, hgd, rfl, fun e he => absurd he (by simp), fun _ => rfl⟩
  have fin : wpAny (model prog w) A.in1 (do
        let d ← alloc { cls := .type "dict", data := .dict #[] }
        update x fun o => { o with dict := some d }
        dictMade (.ref C) x d)
      (fun a s' => wpAny (model prog w) A.in1 (match a with
            | some d_1 => storeInDict d_1 (Value.str name t) name v
            | none => noDictFor (Value.ref x) (Value.ref C) name false)
          (fun fin s' => match fin with
              | .done f => (match (Except.ok f : Result) with | .ok (.ret _) => Q () s' | .ok _ => False | .error e => E e s')
              | .again c' => c'.quiet = true ∧ codeAny (model prog w) A c' (fun r s' => match r with | .ok (.ret _) => Q () s' | .ok _ => False | .error e => E e s') s')
          (fun e s' => E e s') s') (fun e s' => E e s') ⟨hp, g, d, t + 1, os⟩ := by
    refine wpAny_bind (wpAny_alloc' ?_)
    refine wpAny_bind (wpAny_update' hx₁ ?_)
    refine wpAny_pure ?_
    show wpAny _ _ (storeInDict hp.objs.size (.str name t) name v) _ _ _
    unfold storeInDict newKeyGuard
    refine wpAny_bind (wpAny_pure (wpAny_bind (wpAny_nsSet1 (Heap.Ns1.of_empty hnd) fun h' hn' hs => ?_)))
    obtain ⟨oD, esD, epD, hoD, hdD, hcD⟩ := hn'.count (Within.cons name v Within.nil)
    refine wpAny_bind (wpAny_lookBehind hoD (by rw [hdD]; exact pastItsLine_dict (Nat.le_trans hcD (by rw [List.length_cons, List.length_nil, sizeLine_eq]; omega))) ?_)
    refine wpAny_pure ?_
    refine h h' _ ((hs.2 x hxs).trans (Heap.get?_update_self _ hx₁ ?_)) hn' fun b o hb e => ?_
    · cases oda <;> first | rfl | exact hfr
    · exact (hs.2 b (Nat.ne_of_lt (Heap.lt_size e))).trans ((Heap.get?_update_ne _ _ _ _ hb).trans (Heap.get?_push_of_some _ e))
  cases oda with
  | cls c => exact absurd hn (by simp [notCls])
  | _ => exact fin
end

section
open PySem.W PySem.Calls
variable {prog : Program} {w : World} {A : Around} {E : Value → Shared → Prop} {R : Result → Shared → Prop} {K : Frag} {h : Heap} {g : Array GenState} {d : Drawn} {t : Nat} {os : OsState} {C B : Addr}
/-- an own class of exceptions that makes its objects as ValueError does, right above it ones without an __init__ -/
structure XMk (K : Frag) (C : Addr) : Prop where
  obj : ∃ nm q N bs bm hdct sn sub ab col dd k0 k1 k2 k3 k5, K.lookup C = some (excClassObj nm q C N bs bm hdct sn sub ab col dd k0 k1 k2 k3 k5 "ValueError.__new__") ∧ tailIn K bmVE bm = true
  call : specialIn K (.ref C) "__call__" = some (some (.builtin "type.__call__"))
  typ : instIn K (.ref C) (.type "type") = some true
  kp : keepIn K (.ref C) = true
theorem exc_parts (q : excIn K C bmVE "ValueError.__new__" = true) : (∃ nm q N bs bm hdct sn sub ab col dd k0 k1 k2 k3 k5, K.lookup C = some (excClassObj nm q C N bs bm hdct sn sub ab col dd k0 k1 k2 k3 k5 "ValueError.__new__") ∧ tailIn K bmVE bm = true ∧ nsOkIn K N = true ∧ nsIn K N "__init__" = some none) := by
  unfold excIn at q
  split at q
  · rename_i dd cd sl ho
    split at q
    · rename_i C' bm k0 k1 k2 k3 n k5 hm hs
      simp only [Bool.and_eq_true, beq_iff_eq, Bool.not_eq_true'] at q
      obtain ⟨⟨⟨⟨⟨rfl, rfl⟩, hdel⟩, ht⟩, hok⟩, hni⟩ := q
      obtain ⟨nm, bs, mro, ns, qn, hd, sn, sub, ab, col, del⟩ := cd
      dsimp only at hm hdel hok hni
      subst hm hdel
      have hsl : sl = #[k0, k1, k2, k3, some (.builtin "ValueError.__new__"), k5] := by
        obtain ⟨l⟩ := sl
        simp only at hs
        rw [hs]
      subst hsl
      exact ⟨nm, qn, ns, bs, bm, hd, sn, sub, ab, col, dd, k0, k1, k2, k3, k5, ho, ht, hok, hni⟩
    · cases q
  · cases q

noncomputable abbrev excTup (rest : List Value) : Obj := { cls := .type "tuple", data := .seq rest.toArray }
noncomputable abbrev excNew (C t : Addr) : Obj := { cls := .ref C, data := .fields #[.ref t, .none, .none, .none, .bool false, .none] }
theorem make_exc {rest : List Value} {f : Addr} (X : K.In h) (M : XMk K C) (hi : findIn K (.ref C) "__init__" = some (some (.ref f))) (hf : typeIn K (.ref f) = some (.type "function")) (hrest : rest.length ≤ sizeLine)
    (hq : codeAny (model prog w) (A.under (.builtin "type.__call__" ⟨.ref C :: rest, []⟩)) (.call (.ref f) ⟨.ref (h.objs.size + 1) :: rest, []⟩) (InitBack (h.objs.size + 1) R) ⟨(h.push (excTup rest)).push (excNew C h.objs.size), g, d, t, os⟩) :
    codeAny (model prog w) A (.call (.ref C) ⟨rest, []⟩) R ⟨h, g, d, t, os⟩ := by
  obtain ⟨nm, q, N, bs, bm, hdct, sn, sub, ab, col, dd, k0, k1, k2, k3, k5, hK, hT⟩ := M.obj
  have hC := X _ _ hK
  have T := tail_of_in X hT
  have F := PySem.F.excBase_ValueError
  have call := looks_specialIn (M := model prog w) X M.call
  have typ := looks_instIn (M := model prog w) X M.typ
  refine codeAny_of_tree ?_
  show wpAny _ _ (callAny (.ref C) _) _ _ _
  refine nd_load hC ?_
  show wpAny _ _ (callAny.viaDunder (.ref C) _) _ _ _
  unfold callAny.viaDunder
  refine wpAny_bind (call.at ?_)
  dsimp only
  rw [tc_bind]
  refine wpAny_bind (wpAny_pure (wpAny_bind (wpAny_pure ?_)))
  refine wpAny_pure (a := Fin.again (.call (.builtin "type.__call__") ⟨.ref C :: rest, []⟩)) (And.intro rfl ?_)
  refine codeAny_call_builtin_at (Code.quiet_builtin _ (by decide +kernel)) entry_typeCall (check_slot tc_kind tc_split typ (tc_args _ _ _) ?_)
  unfold Builtin.«type.__call__»
  repeat (first | with_reducible refine wpAny_loadPart_at hC ?_ | with_reducible refine wpAny_madeBy_exc hC ?_ | wp_step)
  refine codeAny_call_builtin_code (Code.quiet_builtin _ F.quiet) (wpAny_check_new_subT F T hC ?_)
  refine codeAny_exc_new_subT F T hC ?_ hrest
  show wpAny _ _ _ _ _ _
  have k : ∀ b o, h.get? b = some o → ((h.push (excTup rest)).push (excNew C h.objs.size)).get? b = some o := fun b o e => Heap.get?_push_of_some _ (Heap.get?_push_of_some _ e)
  have hC₁ := k _ _ hC
  have hget : ((h.push (excTup rest)).push (excNew C h.objs.size)).get? (h.objs.size + 1) = some (excNew C h.objs.size) := by heap_get
  have hcC : (Value.ref C :: bm).contains (.ref C) = true := by simp
  have i1 := (looks_findIn (M := model prog w) X hi).keeps k
  have b1 := (bind_fn (M := model prog w) X (.ref (h.objs.size + 1)) hf).keeps k
  unfold isInstance
  repeat (first | with_reducible refine wpAny_loadPart_at hget ?_ | (with_reducible refine wpAny_isSubtype_exc hC₁ ?_; rw [hcC]) | wp_step)
  show wpAny _ _ (typeLookup (.ref C) _) _ _ _
  refine i1.at ?_
  refine wpAny_holding (wpAny_bind (b1.at ?_))
  refine wpAny_bind (wpAny_call (codeAny_mono hq fun r s' z => ?_))
  rcases r with e | (v | _ | _ | _) <;> first | exact z | exact z.elim | skip
  obtain ⟨rfl, z⟩ := z
  wp_walk
  exact z
end


/-! ### exceptions as tracked things: the object by its class and its dict's address, the dict by its pairs -/
noncomputable def ExO (C : Addr) (d : Option Addr) (x : Addr) : HO := .ext fun h => ∃ o, h.get? x = some o ∧ o.cls = .ref C ∧ PySem.W.notCls o = true ∧ o.dict = d ∧ ∃ vs, o.data = .fields vs ∧ vs[1]? = some .none
theorem exO_ok {P : Program} {w : World} {H : Hp} {h : Heap} {C x : Addr} {d : Option Addr} {o : Obj} (e : h.get? x = some o) (hc : o.cls = .ref C) (hn : PySem.W.notCls o = true) (hd : o.dict = d) (hf : ∃ vs, o.data = .fields vs ∧ vs[1]? = some .none) : ObjOk P w H h x (ExO C d x) :=
  ⟨⟨o, e, hc, hn, hd, hf⟩, ⟨o, e⟩, fun h1 h2 ⟨o1, e1, q⟩ k => ⟨o1, k o1 e1, q⟩⟩
noncomputable def Exc (H : Hp) (a C : Addr) (fs : List (Str × V)) : Prop := (fs = [] ∧ H a = some (ExO C none a)) ∨ ∃ dx, H a = some (ExO C (some dx) a) ∧ H dx = some (.xd fs)
section
variable {X : Cx} {pins : List (Addr × Obj)} {σ : St} {H : Hp} {s : Shared} {a C : Addr} {fs : List (Str × V)} {f : Str} {v : V} {A : Around} {E : Value → Shared → Prop}
theorem setX_ok {y : V} {u : Value} {cd : ClassData} {Q : Unit → Shared → Prop} (I : Inv X pins σ H s) (e : H a = some (ExO C none a)) (c : XCls X.K C) (n : NoAttr X.K C f) (hc : PySem.W.clsIn X.K C = some cd) (hdct : cd.hasDict = true) (hv : veTail cd.mro = true) (ry : RelV y u)
    (h : ∀ dx s', H dx = none → Inv X pins σ (upd (upd H a (ExO C (some dx) a)) dx (.xd [(f, y)])) s' → Q () s') : wpAny (model X.prog X.w) A (setAttr (.ref a) f u) Q E s := by
  obtain ⟨⟨o, h1, h2, h3, h4, h5⟩, _⟩ := I.hok a _ e
  refine set_exc I.kIn h1 h2 h3 h4 hc hdct hv c.mo c.sa n fun h' tk g1 g2 g3 => h s.heap.objs.size _ (I.hok.fresh (Nat.le_refl _)) ?_
  have nd : s.heap.objs.size ≠ a := Ne.symm (Nat.ne_of_lt (Heap.lt_size h1))
  have I1 : Inv X pins σ (upd H a (ExO C (some s.heap.objs.size) a)) { s with heap := h', toks := tk } :=
    I.write (x := a) (e := a) (by rw [e]; exact True.intro) (.inl rfl) g3 ⟨_, g1⟩ (exO_ok g1 h2 h3 rfl h5)
  have hn : upd H a (ExO C (some s.heap.objs.size) a) s.heap.objs.size = none := by rw [upd_ne nd]; exact I.hok.fresh (Nat.le_refl _)
  refine I1.track (I.fpOk (Nat.le_refl _) hn) I.sz ⟨_, g2, fun g => ?_⟩
  show RelO (List.lookup g [(f, y)]) (if g = f then some u else none)
  by_cases q : g = f
  · subst q; simp [RelO, ry]
  · rw [if_neg q]
    have : (g == f) = false := by simpa using q
    simp [List.lookup, this, RelO]

end

/-- e.f, an attribute of an exception -/
noncomputable def tFldX (K : PySem.W.Frag) (ta : TE) (f : Str) : TE := fun σ H Q => ta σ H fun x H1 => ∃ a C fs v, x = .ref a ∧ Exc H1 a C fs ∧ XCls K C ∧ NoAttr K C f ∧ fs.lookup f = some v ∧ Q v H1
/-- e.f = value, the first attribute of an exception -/
noncomputable def sFldX (K : PySem.W.Frag) (ta tv : TE) (f : Str) : TS := fun D σ H => tv σ H fun y H1 => ta σ H1 fun x H2 => ∃ a C cd, x = .ref a ∧ H2 a = some (ExO C none a) ∧ XCls K C ∧ NoAttr K C f ∧ PySem.W.clsIn K C = some cd ∧ cd.hasDict = true ∧ veTail cd.mro = true ∧
  ∀ dx, H2 dx = none → D.nx σ (upd (upd H2 a (ExO C (some dx) a)) dx (.xd [(f, y)]))
/-- C(..) of an own class of exceptions, with an __init__ of its own -/
noncomputable def tMakeX (C : Addr) (sp : Sp) (E : XK) (t : TA) : TE := fun σ H Q => t σ H fun vs H1 => vs.length ≤ 1000 ∧ ∀ x, H1 x = none → sp (.ref x :: vs) (upd H1 x (ExO C none x)) (fun v H2 => v = .non ∧ Q (.ref x) H2) E
noncomputable def tMakeX0 (C : Addr) : TE := fun σ H Q => ∀ x, H x = none → Q (.ref x) (upd H x (ExO C none x))
section
variable {X : Cx} {CX : CXT} {k : Nat} {f C : Addr} {fd : FuncData} {ps : List Str} {sp : Sp} {E : XK} {x m g : Str} {p pos pos' : Pos} {e o value : Expr} {es : List Expr} {ta tv : TE} {t : TA}
theorem ps_fldX (ha : PE X o ta) (hv : PE X value tv) (hs : swapsWith value (some (.Attribute o g pos')) pos.line X.env = pure false) : PS X (.Assign [.Attribute o g pos'] value pos) (sFldX X.K ta tv g) := by
  intro pins s σ H D I h
  refine plainObj_wpAny_Assign_Attribute (thn (hv pins s σ H _ I h) fun u s1 ⟨y, H1, I1, ry, q⟩ => thn (ha pins s1 σ H1 _ I1 q) fun ov s2 hq' => ?_) hs
  obtain ⟨x, H2, I2, rx, a, C, cd, ex, ea, c, n, hc, hd, hv, q2⟩ := hq'
  subst ex
  obtain rfl : ov = Value.ref a := rx
  exact setX_ok I2 ea c n hc hd hv ry fun dx s3 hn I3 => ⟨σ, _, I3, q2 dx hn⟩

theorem Inv.madeX {pins : List (Addr × Obj)} {σ : St} {H : Hp} {s : Shared} {us : List Value} (I : Inv X pins σ H s) : Inv X pins σ (upd H (s.heap.objs.size + 1) (ExO C none (s.heap.objs.size + 1)))
    { s with heap := (s.heap.push (excTup us)).push (excNew C s.heap.objs.size) } := by
  have I1 := I.kept (h' := s.heap.push (excTup us)) (t' := s.toks) (fun b u q => Heap.get?_push_of_some _ q)
  have e2 : ((s.heap.push (excTup us)).push (excNew C s.heap.objs.size)).get? (s.heap.objs.size + 1) = some (excNew C s.heap.objs.size) := by
    have := Heap.get?_push_size (s.heap.push (excTup us)) (o := excNew C s.heap.objs.size) rfl
    rwa [Heap.size_push] at this
  exact I1.laid (a := s.heap.objs.size + 1) (t' := s.toks) (fun b u q => Heap.get?_push_of_some _ q) (Nat.le_of_eq (Heap.size_push _ _)) (exO_ok e2 rfl rfl rfl ⟨_, rfl, rfl⟩)

theorem run_makeX {pins : List (Addr × Obj)} {σ : St} {H : Hp} {s : Shared} {Q : VK} {us : List Value} {vs : List V} (M : XMk X.K C) (hi : PySem.W.findIn X.K (.ref C) "__init__" = some (some (.ref f))) (hf : PySem.W.isFn X.K (.ref f) = true)
    (F : FnOk X.prog X.w X.K X.mg X.base CX k f fd ps sp) (hr : Room (k + 1) X.A) (hb : Binds X.K fd ps []) (hx : Passes CX X E) (I : Inv X pins σ H s) (r : Vals vs us) (hl : vs.length ≤ 1000)
    (h : ∀ x, H x = none → sp (.ref x :: vs) (upd H x (ExO C none x)) (fun v H2 => v = .non ∧ Q (.ref x) H2) E) :
    wpAny (model X.prog X.w) X.A (call (.ref C) us) (EP X pins σ Q) X.xe s := by
  have hq := h (s.heap.objs.size + 1) (I.hok.fresh (Nat.le_succ _))
  have I2 := Inv.madeX (C := C) (us := us) I
  have r2 : Vals (V.ref (s.heap.objs.size + 1) :: vs) (Value.ref (s.heap.objs.size + 1) :: us) := .cons rfl r
  have hln : (Value.ref (s.heap.objs.size + 1) :: us).length = ps.length := by
    have e := r2.length
    rw [F.len _ _ _ _ hq] at e
    exact e.symm
  have hln' : ((Value.ref (s.heap.objs.size + 1) :: us) ++ []).length = ps.length := by rw [List.append_nil]; exact hln
  have hbb := hb _ (Value.ref (s.heap.objs.size + 1) :: us) I2.kIn hln'
  rw [List.append_nil] at hbb
  obtain ⟨hp, g, d, tk, os⟩ := s
  refine wpAny_call (make_exc (f := f) I.kIn M hi (beq_iff_eq.mp hf) (by rw [← r.length, sizeLine_eq]; omega) (codeAny_mono (F.run _ X.stack _ _ ⟨Value.ref (hp.objs.size + 1) :: us, []⟩ (Value.ref (hp.objs.size + 1) :: us) _ _ E (hr.make C us [])
    (I2.env0.make C us []) hbb r2 hq) fun r s' hq' => ?_))
  cases r with
  | error e => exact hx pins σ _ _ e s' I2 hq'
  | ok fl =>
    cases fl with
    | ret u =>
      obtain ⟨v, H', I3, rv, ev, q3⟩ := I2.after hq'
      subst ev
      exact ⟨rv, ⟨V.ref (hp.objs.size + 1), H', I3, rfl, q3⟩⟩
    | next => exact False.elim hq'
    | brk => exact False.elim hq'
    | cont => exact False.elim hq'
theorem pe_makeX (M : XMk X.K C) (hi : PySem.W.findIn X.K (.ref C) "__init__" = some (some (.ref f))) (hf : PySem.W.isFn X.K (.ref f) = true) (F : FnOk X.prog X.w X.K X.mg X.base CX k f fd ps sp) (hr : Room (k + 1) X.A) (hg : Gl X x) (hm : X.mg x = some (.ref C)) (hb : Binds X.K fd ps []) (hx : Passes CX X E)
    (ha : PA X (e :: es) t) (hdb : (x == ("__debug__" : Str)) = false := by decide) (he : starEach (e :: es) X.env = (false, eval e X.env) :: starEach es X.env := by rfl) (hpl : (backTo pos (starEach es X.env)).any (·.1) = false := by rfl) :
    PE X (.Call (.Name x p) (e :: es) [] pos) (tMakeX C sp E t) := by
  intro pins s σ H Q I h
  refine wpAny_Call_Name_kw (ld_glob I hg hm ?_ hdb)
  refine PySem.W.callWith_K (h₀ := X.base) I.ok.mod.kin M.kp (thn (ha pos pins s σ H _ I h) fun us s1 ⟨vs, H1, I1, r, hl, q⟩ => ⟨I1.kIn, ?_⟩) he hpl
  exact run_makeX M hi hf F hr hb hx I1 r hl q
end
end L2

set_option Elab.async false
set_option linter.all false
set_option maxRecDepth 100000
set_option maxHeartbeats 4000000
namespace L2
open PySem PySem.Spec PyProof.Rows

/-! ## for i, x in enumerate(xs) -/

noncomputable def Ite (K : PySem.W.Frag) (a : Addr) : It :=
  ⟨fun i H => ∃ xs x, SqL K H a xs ∧ xs[i]? = some x, fun i H x H' => ∃ p v, x = .ref p ∧ H p = none ∧ H' = upd H p (.tup [.int i, v]) ∧ ∀ xs, SqL K H a xs → xs[i]? = some v, fun i H => ∃ xs, SqL K H a xs ∧ xs.length ≤ i⟩

section
variable {X : Cx} {elts : List Expr} {kx : Nat} {tp : Pos}
noncomputable def iEnum (K : PySem.W.Frag) (ta : TA) : TI := fun σ H R => ta σ H fun vs H1 => ∃ a, vs = [.ref a] ∧ (∃ xs, SqL K H1 a xs) ∧ R (Ite K a) H1
end
end L2

set_option Elab.async false
set_option linter.all false
set_option maxRecDepth 100000
set_option maxHeartbeats 4000000
namespace L2
open PySem PySem.Spec PyProof.Rows PySem.SeqAt
/-! ## == and != of two lists with the same truths, ints, texts -/
section
variable {X : Cx}
end
end L2

set_option Elab.async false
set_option linter.all false
set_option maxRecDepth 100000
set_option maxHeartbeats 4000000
namespace L2
open PySem PySem.Spec PyProof.Rows
/-! ## an exception in flight: the heap behind a note of the frame, behind a landing -/
section
variable {M : Model} {A : Around} {E : Value → Shared → Prop} {s : Shared}
/-- what a note leaves: the exception points to a new entry, frames change in their slots alone -/
structure Noted (fl : Value) (frs : List Addr) (x : Addr) (ox : Obj) (h h' : Heap) : Prop where
  ex : ∃ T oT ts, h.objs.size ≤ T ∧ h'.get? x = some (Obj.mapFields (·.setIfInBounds 1 (.ref T)) ox) ∧ h'.get? T = some oT ∧ oT.data = .fields ts ∧ ts[3]? = some fl
  keep : ∀ b o, b ∉ frs → b ≠ x → h.get? b = some o → h'.get? b = some o
  slot : ∀ b o, b ≠ x → h.get? b = some o → ∃ sl, h'.get? b = some { o with slots := sl }

theorem entry_new {base : Heap} {env : Env} {outer : List Env} {L x : Addr} {ox : Obj} {vs : Array Value} {head : Value} {hadNext : Bool} {Q : Unit → Shared → Prop}
    (hfr : A.frames = some (env :: outer)) (hl : s.heap.FunFrames base (env :: outer)) (hf : env.frame = some L)
    (hx : s.heap.get? x = some ox) (hd : ox.data = .fields vs) (hsz : 1 < vs.size)
    (h : ∀ h', Noted (rawInt L) ((env :: outer).filterMap (·.frame)) x ox s.heap h' → Q () { s with heap := h' }) :
    wpAny M A (do let a ← frameOf env; let pl ← entryPlaceOf L hadNext; let b ← EntryCells.newEntry head a .none (rawInt L) .none pl; setField (.ref x) 1 b) Q E s := by
  have hxn : x ∉ (env :: outer).filterMap (·.frame) := fun hm => by
    obtain ⟨_, o, ho, hnf⟩ := hl.mem hm
    rw [hx] at ho; injection ho with ho; subst ho; exact hnf vs hd
  refine wpAny_bind (wpAny_frameOf_fun hfr hl hf fun h₁ hs₁ => ?_)
  refine wpAny_bind (wpAny_entryPlaceOf fun pl hpl => ?_)
  unfold EntryCells.newEntry newFields
  refine wpAny_bind (wpAny_newObj_type ?_ (hpl.sizeOk5 _ _ _ _ _))
  have hx₁ : h₁.get? x = some ox := (hs₁.2.1 x hxn).trans hx
  have hx₂ := Heap.get?_push_of_some (h := h₁) { cls := .type "traceback", dict := none, data := .fields ([head, .ref L, .none, rawInt L, .none] ++ (if pl.isEmpty then List.replicate 6 Value.none else pl)).toArray } hx₁
  refine wpAny_setField hx₂ hd hsz (h _ ?_)
  have hTx : h₁.objs.size ≠ x := Nat.ne_of_gt (Heap.lt_size hx₁)
  have hd₃ := Obj.data_mapFields hd (·.setIfInBounds 1 (Value.ref h₁.objs.size))
  have hx₃ := Heap.get?_update_self (Obj.mapFields (·.setIfInBounds 1 (Value.ref h₁.objs.size))) hx₂ (Obj.isFreed_of_fields hd₃)
  have keep : ∀ b o, b ≠ x → h₁.get? b = some o → ((h₁.push { cls := .type "traceback", dict := none, data := .fields ([head, .ref L, .none, rawInt L, .none] ++ (if pl.isEmpty then List.replicate 6 Value.none else pl)).toArray }).update x (Obj.mapFields (·.setIfInBounds 1 (Value.ref h₁.objs.size)))).get? b = some o := fun b o hb e => by
    rw [Heap.get?_update_other _ _ (Ne.symm hb)]
    exact Heap.get?_push_of_some _ e
  have hT₃ := (Heap.get?_update_other (h₁.push { cls := .type "traceback", dict := none, data := .fields ([head, .ref L, .none, rawInt L, .none] ++ (if pl.isEmpty then List.replicate 6 Value.none else pl)).toArray })
    (Obj.mapFields (·.setIfInBounds 1 (Value.ref h₁.objs.size))) (Ne.symm hTx)).trans (Heap.get?_push_size h₁ rfl)
  refine ⟨⟨h₁.objs.size, _, _, Nat.le_of_eq hs₁.1.symm, hx₃, hT₃, rfl, by simp⟩, fun b o hb hbx e => keep b o hbx ((hs₁.2.1 b hb).trans e), fun b o hbx e => ?_⟩
  obtain ⟨sl, e'⟩ := hs₁.2.2 b o e
  exact ⟨sl, keep b _ hbx e'⟩

theorem note_first {base : Heap} {env : Env} {outer : List Env} {L x : Addr} {ox : Obj} {vs : Array Value} {Q : Unit → Shared → Prop}
    (hfr : A.frames = some (env :: outer)) (hl : s.heap.FunFrames base (env :: outer)) (hf : env.frame = some L)
    (hx : s.heap.get? x = some ox) (hd : ox.data = .fields vs) (h1 : vs[1]? = some .none)
    (h : ∀ h', Noted (rawInt L) ((env :: outer).filterMap (·.frame)) x ox s.heap h' → Q () { s with heap := h' }) :
    wpAny M A (noteFrame (.ref x) env) Q E s := by
  unfold noteFrame
  simp only [hf]
  refine wpAny_bind (wpAny_field hx hd h1 ?_)
  rw [if_neg (by decide)]
  exact entry_new hfr hl hf hx hd (Array.getElem?_eq_some_iff.mp h1).1 h
/-- the exception lands (or leaves): its entry is in flight no more -/
theorem land {fl : Value} {frs : List Addr} {x : Addr} {ox : Obj} {vs : Array Value} {h₀ : Heap} {Q : Unit → Shared → Prop} (N : Noted fl frs x ox h₀ s.heap) (hx0 : h₀.get? x = some ox) (hd : ox.data = .fields vs) (hsz : 1 < vs.size)
    (h : ∀ h', Noted .none frs x ox h₀ h' → Q () { s with heap := h' }) : wpAny M A (setFlight (.ref x) none) Q E s := by
  obtain ⟨T, oT, ts, hT0, hx, hT, hdT, h3⟩ := N.ex
  have hd' := Obj.data_mapFields hd (·.setIfInBounds 1 (Value.ref T))
  have hTx : T ≠ x := fun z => absurd (Nat.lt_of_lt_of_le (Heap.lt_size hx0) (by rw [← z]; exact hT0)) (Nat.lt_irrefl _)
  unfold setFlight
  refine wpAny_bind (wpAny_field hx hd' (x := .ref T) (by simp [hsz]) ?_)
  rw [if_pos (show (Value.ref T != Value.none) = true from by simp)]
  have h3s := (Array.getElem?_eq_some_iff.mp h3).1
  refine wpAny_setField hT hdT h3s (h _ ?_)
  have hdT' := Obj.data_mapFields hdT (·.setIfInBounds 3 ((none : Option Addr).elim Value.none fun f => rawInt f))
  have hT' := Heap.get?_update_self (Obj.mapFields (·.setIfInBounds 3 ((none : Option Addr).elim Value.none fun f => rawInt f))) hT (Obj.isFreed_of_fields hdT')
  have nT : ∀ b o, h₀.get? b = some o → T ≠ b := fun b o e z => absurd (Nat.lt_of_lt_of_le (Heap.lt_size e) (by rw [← z]; exact hT0)) (Nat.lt_irrefl _)
  refine ⟨⟨T, _, _, hT0, by rw [Heap.get?_update_other _ _ hTx]; exact hx, hT', hdT', by simp [h3s]⟩, fun b o hb hbx e => ?_, fun b o hbx e => ?_⟩
  · rw [Heap.get?_update_other _ _ (nT b o e)]
    exact N.keep b o hb hbx e
  · obtain ⟨sl, q⟩ := N.slot b o hbx e
    exact ⟨sl, by rw [Heap.get?_update_other _ _ (nT b o e)]; exact q⟩
theorem leave_first {base : Heap} {env : Env} {outer : List Env} {L x : Addr} {ox : Obj} {vs : Array Value} {Q : Unit → Shared → Prop}
    (hfr : A.frames = some (env :: outer)) (hl : s.heap.FunFrames base (env :: outer)) (hf : env.frame = some L)
    (hx : s.heap.get? x = some ox) (hd : ox.data = .fields vs) (h1 : vs[1]? = some .none)
    (h : ∀ h', Noted .none ((env :: outer).filterMap (·.frame)) x ox s.heap h' → Q () { s with heap := h' }) :
    wpAny M A (leaving env (.ref x)) Q E s := by
  unfold leaving
  exact wpAny_bind (note_first hfr hl hf hx hd h1 fun h' N => land (s := { s with heap := h' }) N hx hd (Array.getElem?_eq_some_iff.mp h1).1 h)
end

section
variable {M : Model} {A : Around} {E : Value → Shared → Prop} {s : Shared}
noncomputable abbrev clearT (T : Addr) (h : Heap) : Heap := h.update T (Obj.mapFields (·.setIfInBounds 3 Value.none))
theorem note_next {base : Heap} {env : Env} {outer : List Env} {L x T : Addr} {ox oT : Obj} {vs ts : Array Value} {Q : Unit → Shared → Prop}
    (hfr : A.frames = some (env :: outer)) (hl : s.heap.FunFrames base (env :: outer)) (hf : env.frame = some L)
    (hx : s.heap.get? x = some ox) (hd : ox.data = .fields vs) (h1 : vs[1]? = some (.ref T)) (hTx : T ≠ x) (hT : s.heap.get? T = some oT) (hdT : oT.data = .fields ts) (h3 : ts[3]? = some .none)
    (h : ∀ h', Noted (rawInt L) ((env :: outer).filterMap (·.frame)) x ox (clearT T s.heap) h' → Q () { s with heap := h' }) :
    wpAny M A (noteFrame (.ref x) env) Q E s := by
  unfold noteFrame
  simp only [hf]
  refine wpAny_bind (wpAny_field hx hd h1 ?_)
  rw [if_pos (show (Value.ref T != Value.none) = true from by simp)]
  refine wpAny_bind (wpAny_field hT hdT h3 ?_)
  rw [if_neg (show ¬ ((Value.none == rawInt L) = true) from by simp [rawInt])]
  refine wpAny_bind (wpAny_setField hT hdT (Array.getElem?_eq_some_iff.mp h3).1 ?_)
  have other : ∀ b, b ≠ T → (clearT T s.heap).get? b = s.heap.get? b := fun b hb => Heap.get?_update_other _ _ (Ne.symm hb)
  have noRecord : ∀ b o, s.heap.get? b = some o → (∀ vs, o.data ≠ .fields vs) → b ≠ T := fun b o hb hnf q => by
    rw [q, hT] at hb; injection hb with hb; subst hb; exact hnf ts hdT
  exact entry_new (s := { s with heap := clearT T s.heap }) hfr (hl.of_keeps fun b o hb hnf => ⟨o, (other b (noRecord b o hb hnf)).trans hb, rfl⟩) hf ((other x (Ne.symm hTx)).trans hx) hd (Array.getElem?_eq_some_iff.mp h1).1 h
theorem leave_next {base : Heap} {env : Env} {outer : List Env} {L x T : Addr} {ox oT : Obj} {vs ts : Array Value} {Q : Unit → Shared → Prop}
    (hfr : A.frames = some (env :: outer)) (hl : s.heap.FunFrames base (env :: outer)) (hf : env.frame = some L)
    (hx : s.heap.get? x = some ox) (hd : ox.data = .fields vs) (h1 : vs[1]? = some (.ref T)) (hTx : T ≠ x) (hT : s.heap.get? T = some oT) (hdT : oT.data = .fields ts) (h3 : ts[3]? = some .none)
    (h : ∀ h', Noted .none ((env :: outer).filterMap (·.frame)) x ox (clearT T s.heap) h' → Q () { s with heap := h' }) :
    wpAny M A (leaving env (.ref x)) Q E s := by
  unfold leaving
  exact wpAny_bind (note_next hfr hl hf hx hd h1 hTx hT hdT h3 fun h' N => land (s := { s with heap := h' }) N ((Heap.get?_update_other _ _ hTx).trans hx) hd (Array.getElem?_eq_some_iff.mp h1).1 h)
end

/-! ### the layer: an exception with an entry, the entry; how an exception lies behind a call -/
noncomputable def TxO (C : Addr) (d : Option Addr) (T x : Addr) : HO := .ext fun h => ∃ o vs, h.get? x = some o ∧ o.cls = .ref C ∧ PySem.W.notCls o = true ∧ o.dict = d ∧ o.data = .fields vs ∧ vs[1]? = some (.ref T)
noncomputable def TbO (T : Addr) : HO := .ext fun h => ∃ o ts, h.get? T = some o ∧ o.data = .fields ts ∧ ts[3]? = some .none
theorem txO_ok {P : Program} {w : World} {H : Hp} {h : Heap} {C T x : Addr} {d : Option Addr} {o : Obj} {vs : Array Value} (e : h.get? x = some o) (hc : o.cls = .ref C) (hn : PySem.W.notCls o = true) (hd : o.dict = d) (hf : o.data = .fields vs) (h1 : vs[1]? = some (.ref T)) : ObjOk P w H h x (TxO C d T x) :=
  ⟨⟨o, vs, e, hc, hn, hd, hf, h1⟩, ⟨o, e⟩, fun h1 h2 ⟨o1, vs1, e1, q⟩ k => ⟨o1, vs1, k o1 e1, q⟩⟩
theorem tbO_ok {P : Program} {w : World} {H : Hp} {h : Heap} {T : Addr} {o : Obj} {ts : Array Value} (e : h.get? T = some o) (hf : o.data = .fields ts) (h3 : ts[3]? = some .none) : ObjOk P w H h T (TbO T) :=
  ⟨⟨o, ts, e, hf, h3⟩, ⟨o, e⟩, fun h1 h2 ⟨o1, ts1, e1, q⟩ k => ⟨o1, ts1, k o1 e1, q⟩⟩
/-- behind a call that an exception left: the exception is tracked, with its entry -/
noncomputable def CX1 (P : Program) (w : World) : CXT := fun outer H s E e s' => ∃ x C d T H', e = .ref x ∧ s'.os = s.os ∧ AllBare s'.gens ∧ Un (frs outer) [] H H' s.heap s'.heap ∧ HOk P w H' s'.heap ∧
  H' x = some (TxO C d T x) ∧ H' T = some (TbO T) ∧ T ≠ x ∧ E (.ref C) d H'
section
variable {X : Cx} {pins : List (Addr × Obj)} {σ : St} {H : Hp} {s : Shared} {x C : Addr} {d : Option Addr}
/-- the abstract heap behind a note -/
theorem Noted.hok {fl : Value} {fr : List Addr} {ox : Obj} {vs : Array Value} {h' : Heap} {φ : Heap → Prop} (I : Inv X pins σ H s) (hx : H x = some (.ext φ)) (ho : s.heap.get? x = some ox) (h2 : ox.cls = .ref C) (h4 : ox.dict = d) (h5 : ox.data = .fields vs) (hsz : 1 < vs.size) (hfr : ∀ b ∈ fr, H b = none)
    (N : Noted .none fr x ox s.heap h') : ∃ T, H T = none ∧ T ≠ x ∧ s.heap.objs.size ≤ T ∧ HOk X.prog X.w (upd (upd H T (TbO T)) x (TxO C d T x)) h' := by
  obtain ⟨T, oT, ts, hT0, hx', hT, hdT, ht3⟩ := N.ex
  have hn : H T = none := I.hok.fresh hT0
  have hTx : T ≠ x := Ne.symm (ne_of_none hx hn)
  have hd' := Obj.data_mapFields h5 (·.setIfInBounds 1 (Value.ref T))
  refine ⟨T, hn, hTx, hT0, fun b u e => ?_⟩
  by_cases hb : b = x
  · subst hb
    rw [upd_same] at e
    cases e
    refine txO_ok hx' ((Obj.cls_mapFields _ _).trans h2) ?_ ?_ hd' (by simp [hsz])
    · unfold PySem.W.notCls
      rw [hd']
    · obtain ⟨oc, od, oda, osl⟩ := ox
      simp only at h5
      subst h5
      exact h4
  · rw [upd_ne hb] at e
    by_cases hbT : b = T
    · subst hbT
      rw [upd_same] at e
      cases e
      exact tbO_ok hT hdT ht3
    · rw [upd_ne hbT] at e
      refine (I.hok b u e).stay (fun c v hc q => ?_) (fun c q => ?_) fun c xs q => ?_
      · have hcx : c ≠ x := by
          rcases hc with z | z
          · rw [z]; exact hb
          · exact ne_of z hx (by intro q; cases q)
        refine N.keep c v (fun hm => ?_) hcx q
        have := hfr c hm
        rcases hc with z | z
        · rw [z, e] at this; cases this
        · rw [z] at this; cases this
      · rw [upd_ne (ne_of q hx (by intro z; cases z)), upd_ne (ne_of_none q hn)]
        exact q
      · rw [upd_ne (ne_of q hx (by intro z; cases z)), upd_ne (ne_of_none q hn)]
        exact q

/-- from the entry of a def to behind a note in its frame -/
theorem Noted.un {fr : List Addr} {ox : Obj} {h' : Heap} {φ : Heap → Prop} {T : Addr} (I : Inv X pins σ H s) (hex : X.ex = []) (hx : H x = some (.ext φ)) (hn : H T = none) (hT0 : s.heap.objs.size ≤ T) (hfr : ∀ b ∈ fr, b ∈ X.fs ∨ X.s₀.heap.objs.size ≤ b)
    (N : Noted .none fr x ox s.heap h') : Un X.fs [] X.H₀ (upd (upd H T (TbO T)) x (TxO C d T x)) X.s₀.heap h' := by
  have nx : ∀ b, H b = none → b ≠ x := fun b e z => by rw [z, hx] at e; cases e
  have nT : ∀ b o, X.s₀.heap.get? b = some o → b ≠ T := fun b o e => Nat.ne_of_lt (Nat.lt_of_lt_of_le (Heap.lt_size e) (Nat.le_trans I.sz hT0))
  have nin : ∀ b : Addr, b ∉ X.ex := fun b z => by rw [hex] at z; cases z
  have up : ∀ b, H b = none → b ≠ T → upd (upd H T (TbO T)) x (TxO C d T x) b = none := fun b e z => by rw [upd_ne (nx b e), upd_ne z]; exact e
  have upS : ∀ b u, H b = some u → (∀ φ, u ≠ .ext φ) → upd (upd H T (TbO T)) x (TxO C d T x) b = some u := fun b u e z => by
    rw [upd_ne (fun q => by rw [q, hx] at e; cases e; exact z _ rfl), upd_ne (ne_of_none e hn)]
    exact e
  refine ⟨fun b o e n hb _ => ?_, fun b o e n hb _ => ?_, fun b o e n _ => ?_, fun b o e _ => ?_, fun b xs e => upS b _ (I.base.tups b xs e) (by intro _ q; cases q), fun b o u e => upS b _ (I.base.frzs b o u e) (by intro _ q; cases q), fun b ps e => ?_⟩
  · refine N.keep b o (fun z => ?_) (nx b (I.base.free b o e n (nin b))) (I.base.keep b o e n hb (nin b))
    rcases hfr b z with q | q
    · exact hb q
    · exact absurd (Nat.lt_of_lt_of_le (Heap.lt_size e) q) (Nat.lt_irrefl _)
  · obtain ⟨sl, q⟩ := I.base.slot b o e n hb (nin b)
    obtain ⟨sl', q'⟩ := N.slot b _ (nx b (I.base.free b o e n (nin b))) q
    exact ⟨sl', q'⟩
  · exact up b (I.base.free b o e n (nin b)) (nT b o e)
  · obtain ⟨o', q⟩ := I.base.there b o e (nin b)
    by_cases hb : b = x
    · obtain ⟨T', _, _, _, hx', _⟩ := N.ex
      exact ⟨_, by rw [hb]; exact hx'⟩
    · obtain ⟨sl, q'⟩ := N.slot b o' hb q
      exact ⟨_, q'⟩
  · obtain ⟨more, q⟩ := I.base.tbls b ps e
    exact ⟨more, upS b _ q (by intro _ q; cases q)⟩
end
section
variable {P : Program} {w : World} {K : PySem.W.Frag} {mg : Str → Option Value} {base : Heap} {N : List Str} {qual : Str} {scope : Scope} {f : Addr} {cd : Value} {A : Around} {outer : List Env} {s₀ : Shared} {H₀ : Hp} {E : XK}
variable {pins : List (Addr × Obj)} {σ : St} {H : Hp} {s : Shared} {x C : Addr} {d : Option Addr}
/-- a new exception leaves a def's body -/
theorem xe_first (I : Inv (cxOf (CX1 P w) P w K mg base N qual scope f cd A outer s₀ H₀ E) pins σ H s) (hx : H x = some (ExO C d x))
    (h : ∀ T, H T = none → E (.ref C) d (upd (upd H T (TbO T)) x (TxO C d T x))) : (cxOf (CX1 P w) P w K mg base N qual scope f cd A outer s₀ H₀ E).xe (.ref x) s := by
  obtain ⟨⟨ox, h1, h2, h3, h4, vs, h5, h6⟩, _⟩ := I.hok x _ hx
  have hsz := (Array.getElem?_eq_some_iff.mp h6).1
  refine leave_first (base := base) I.ok.frames I.stack rfl h1 h5 h6 fun h' Nd => ?_
  obtain ⟨T, hn, hTx, hT0, hok⟩ := Nd.hok (C := C) (d := d) (fl := .none) I hx h1 h2 h4 h5 hsz fun b hb => I.stkFree b hb
  have un := Nd.un (C := C) (d := d) I rfl hx hn hT0 fun b hb => by
    rcases List.mem_cons.mp (I.stkSub b hb) with e | e
    · exact .inr (by rw [e]; exact I.ok.above)
    · exact .inl e
  exact ⟨x, C, d, T, _, rfl, I.os, I.bare, un, hok, upd_same, by rw [upd_ne hTx, upd_same], hTx, h T hn⟩

theorem Inv.cleared {X : Cx} {T : Addr} {oT : Obj} {ts : Array Value} (I : Inv X pins σ H s) (hT : H T = some (TbO T)) (h1 : s.heap.get? T = some oT) (hd : oT.data = .fields ts) (h3 : ts[3]? = some .none) : Inv X pins σ H { s with heap := clearT T s.heap } := by
  have hd' := Obj.data_mapFields hd (·.setIfInBounds 3 Value.none)
  have e' := Heap.get?_update_self (Obj.mapFields (·.setIfInBounds 3 Value.none)) h1 (Obj.isFreed_of_fields hd')
  have := I.write (x := T) (e := T) (o := TbO T) (h' := clearT T s.heap) (t' := s.toks) (by rw [hT]; exact True.intro) (.inl rfl) (fun b u hb q => (Heap.get?_update_other _ _ (Ne.symm hb)).trans q) ⟨_, e'⟩ (tbO_ok e' hd' (by simp [(Array.getElem?_eq_some_iff.mp h3).1]))
  have eH : upd H T (TbO T) = H := by
    funext b
    by_cases hb : b = T
    · rw [hb, upd_same, hT]
    · rw [upd_ne hb]
  rw [eH] at this
  exact this
/-- an exception that came from a call leaves a def's body -/
theorem xe_next {T : Addr} (I : Inv (cxOf (CX1 P w) P w K mg base N qual scope f cd A outer s₀ H₀ E) pins σ H s) (hx : H x = some (TxO C d T x)) (hT : H T = some (TbO T)) (hTx : T ≠ x)
    (h : ∀ T', H T' = none → E (.ref C) d (upd (upd H T' (TbO T')) x (TxO C d T' x))) : (cxOf (CX1 P w) P w K mg base N qual scope f cd A outer s₀ H₀ E).xe (.ref x) s := by
  obtain ⟨⟨ox, vs, h1, h2, h3, h4, h5, h6⟩, _⟩ := I.hok x _ hx
  obtain ⟨⟨oT, ts, t1, t2, t3⟩, _⟩ := I.hok T _ hT
  have hsz := (Array.getElem?_eq_some_iff.mp h6).1
  have I1 := I.cleared hT t1 t2 t3
  refine leave_next (base := base) I.ok.frames I.stack rfl h1 h5 h6 hTx t1 t2 t3 fun h' Nd => ?_
  have hx1 : (clearT T s.heap).get? x = some ox := (Heap.get?_update_other _ _ hTx).trans h1
  obtain ⟨T', hn, hT'x, hT0, hok⟩ := Noted.hok (C := C) (d := d) (fl := .none) I1 hx hx1 h2 h4 h5 hsz (fun b hb => I.stkFree b hb) Nd
  have un := Noted.un (C := C) (d := d) I1 rfl hx hn hT0 (fun b hb => by
    rcases List.mem_cons.mp (I.stkSub b hb) with e | e
    · exact .inr (by rw [e]; exact I.ok.above)
    · exact .inl e) Nd
  exact ⟨x, C, d, T', _, rfl, I.os, I.bare, un, hok, upd_same, by rw [upd_ne hT'x, upd_same], hT'x, h T' hn⟩
/-- an exception of a callee passes through a def's body -/
theorem passes1 {E' : XK} (hE : ∀ x C d T T' H', H' x = some (TxO C d T x) → H' T = some (TbO T) → H' T' = none → E' (.ref C) d H' → E (.ref C) d (upd (upd H' T' (TbO T')) x (TxO C d T' x))) :
    Passes (CX1 P w) (cxOf (CX1 P w) P w K mg base N qual scope f cd A outer s₀ H₀ E) E' := by
  intro pins σ H s e s' I h
  obtain ⟨x, C, d, T, H', rfl, os, bare, un, hok, hx, hT, hTx, hw⟩ := h
  obtain ⟨hh, g, dr, tk, os'⟩ := s'
  obtain rfl : os' = s.os := os
  have I' := I.call (h' := hh) (g' := g) (d' := dr) (t' := tk) (ch := []) un hok bare (fun b z => absurd z (by simp))
  exact xe_next I' hx hT hTx fun T' hn => hE x C d T T' H' hx hT hn hw
end
end L2

set_option Elab.async false
set_option linter.all false
set_option maxRecDepth 100000
set_option maxHeartbeats 4000000
namespace L2
open PySem PySem.Spec PyProof.Rows
section
open PySem.W
variable {prog : Program} {w : World} {A : Around} {E : Value → Shared → Prop} {K : Frag} {x C : Addr} {ox : Obj} {vs : Array Value} {env : Env}
/-- an instance of an own class of exceptions, just made, is raised -/
theorem raise_inst {s : Shared} {ev : Sem Value} {Q : Flow → Shared → Prop} (hh : A.handled = none)
    (h : wpAny (model prog w) A ev (fun v s₁ => ∃ x C ox vs, v = .ref x ∧ K.In s₁.heap ∧ XCls K C ∧ typeIn K (.ref C) = some (.type "type") ∧ s₁.heap.get? x = some ox ∧ ox.cls = .ref C ∧ ox.data = .fields vs ∧ vs[1]? = some .none ∧ E (.ref x) s₁) E s) :
    wpAny (model prog w) A (raiseStmt env (some ev) none) Q E s := by
  unfold raiseStmt
  refine wpAny_bind (wpAny_mono h (fun v s₁ h₁ => ?_) fun _ _ z => z)
  obtain ⟨x, C, ox, vs, rfl, X, xc, ht, hx, hc, hd, h1, hE⟩ := h₁
  obtain ⟨hp, g, d, tk, os⟩ := s₁
  have L0 : Looks (model prog w) hp (typeOf (.ref x)) (.ref C) := hc ▸ (Looks.ld hx).andThen .now
  have L1 : Looks (model prog w) hp (isType (.ref x)) false := by
    intro A' Q' E' s' k q
    unfold isType loadHead
    refine wpAny_bind (wpAny_loadPart (k _ _ hx) ?_)
    rw [hd]
    exact wpAny_pure q
  have L2 := looks_mroIn (M := model prog w) X xc.mb
  have L3 := looks_typeIn (M := model prog w) X ht
  have L4 : Looks (model prog w) hp (isInstance (.ref x) (.type "BaseException")) true := L0.andThen L2
  have L5 : Looks (model prog w) hp (isExcClass (.ref x)) false := by
    unfold isExcClass
    exact L1.andThen .now
  have L6 : Looks (model prog w) hp (raisedInstance (.ref x)) (.ref x) := by
    unfold raisedInstance
    exact L0.andThen (L3.andThen (by rw [if_pos (by decide)]; exact .now))
  have L7 : Looks (model prog w) hp (excFromValue (.ref x) "exceptions must derive from BaseException") (.ref x) := by
    unfold excFromValue
    exact L5.andThen (by rw [if_neg (by decide)]; exact L4.andThen (by rw [if_pos rfl]; exact .now))
  refine wpAny_bind (wpAny_pure ?_)
  refine wpAny_bind (wpAny_holding (L7.at ?_))
  dsimp only
  refine wpAny_bind (L1.at ?_)
  rw [if_neg (by decide)]
  refine wpAny_bind (L6.at ?_)
  unfold setFlight
  refine wpAny_bind (wpAny_bind (wpAny_field hx hd h1 ?_))
  rw [if_neg (by decide)]
  exact wpAny_pure (wpAny_raiseNew_none hh hE)
end

/-- what is wanted of an exception just made that leaves the code -/
noncomputable def Flies (X : Cx) (Wx : Addr → Addr → Option Addr → Hp → Prop) : Prop := ∀ (pins : List (Addr × Obj)) (σ : St) (H : Hp) (s : Shared) (x C : Addr) (d : Option Addr), Inv X pins σ H s → H x = some (ExO C d x) → Wx x C d H → X.xe (.ref x) s
theorem flies_def {P : Program} {w : World} {K : PySem.W.Frag} {mg : Str → Option Value} {base : Heap} {N : List Str} {qual : Str} {scope : Scope} {f : Addr} {cd : Value} {A : Around} {outer : List Env} {s₀ : Shared} {H₀ : Hp} {E : XK} :
    Flies (cxOf (CX1 P w) P w K mg base N qual scope f cd A outer s₀ H₀ E) (fun x C d H => ∀ T, H T = none → E (.ref C) d (upd (upd H T (TbO T)) x (TxO C d T x))) :=
  fun _ _ _ _ _ _ _ I hx h => xe_first I hx h
/-- raise e -/
noncomputable def sRaise (K : PySem.W.Frag) (te : TE) (Wx : Addr → Addr → Option Addr → Hp → Prop) : TS := fun _ σ H => te σ H fun v H1 => ∃ x C d, v = .ref x ∧ H1 x = some (ExO C d x) ∧ XCls K C ∧ PySem.W.typeIn K (.ref C) = some (.type "type") ∧ Wx x C d H1
theorem ps_raise {X : Cx} {e : Expr} {te : TE} {pos : Pos} {Wx : Addr → Addr → Option Addr → Hp → Prop} (hc : X.calm = true) (fl : Flies X Wx) (he : PE X e te) : PS X (.Raise (some e) none pos) (sRaise X.K te Wx) := by
  intro pins s σ H D I h
  rw [arm_exec_Raise]
  refine wpAny_bind (wpAny_standAt ?_)
  refine raise_inst (K := X.K) (ev := do let v ← eval e X.env; standAt pos; pure v) (I.ok.hd hc) (wpAny_bind (thn (he pins s σ H _ I h) fun u s1 hq' => wpAny_bind (wpAny_standAt (wpAny_pure ?_))))
  obtain ⟨v, H1, I1, rv, x, C, d, ev, hx, xc, ht, q⟩ := hq'
  subst ev
  obtain rfl : u = Value.ref x := rv
  obtain ⟨⟨ox, h1, h2, h3, h4, vs, h5, h6⟩, _⟩ := I1.hok x _ hx
  exact ⟨x, C, ox, vs, rfl, I1.kIn, xc, ht, h1, h2, h5, h6, fl pins σ H1 s1 x C d I1 hx q⟩
end L2

set_option Elab.async false
set_option linter.all false
set_option maxRecDepth 100000
set_option maxHeartbeats 4000000
namespace L2
open PySem PySem.Spec PyProof.Rows
section
variable {X : Cx} {pins : List (Addr × Obj)} {σ : St} {H : Hp} {s : Shared} {x C : Addr} {d : Option Addr}
/-- the exception is noted in this frame and lands -/
theorem Inv.noted {ox : Obj} {vs : Array Value} {h' : Heap} {φ : Heap → Prop} {t' : Nat} (I : Inv X pins σ H s) (hx : H x = some (.ext φ)) (ho : s.heap.get? x = some ox) (h2 : ox.cls = .ref C) (h4 : ox.dict = d) (h5 : ox.data = .fields vs) (hsz : 1 < vs.size)
    (Nd : Noted .none (frs X.stack) x ox s.heap h') : ∃ T, H T = none ∧ T ≠ x ∧ Inv X pins σ (upd (upd H T (TbO T)) x (TxO C d T x)) { s with heap := h', toks := t' } := by
  obtain ⟨T, hn, hTx, hT0, hok⟩ := Noted.hok (C := C) (d := d) (fl := .none) I hx ho h2 h4 h5 hsz (fun b hb => I.stkFree b hb) Nd
  have nx : ∀ b, H b = none → b ≠ x := fun b e z => by rw [z, hx] at e; cases e
  have upS : ∀ b u, H b = some u → (∀ φ, u ≠ .ext φ) → upd (upd H T (TbO T)) x (TxO C d T x) b = some u := fun b u e z => by
    rw [upd_ne (fun q => by rw [q, hx] at e; cases e; exact z _ rfl), upd_ne (ne_of_none e hn)]
    exact e
  refine ⟨T, hn, hTx, I.call (g' := s.gens) (d' := s.drawn) (ch := []) ?_ hok I.bare (fun b z => absurd z (by simp))⟩
  refine ⟨fun b o e n hb _ => Nd.keep b o hb (nx b n) e, fun b o e n _ _ => Nd.slot b o (nx b n) e, fun b o e n _ => ?_, fun b o e _ => ?_, fun b xs e => upS b _ e (by intro _ q; cases q), fun b o u e => upS b _ e (by intro _ q; cases q), fun b ps e => ⟨#[], by rw [upS b _ e (by intro _ q; cases q)]; simp⟩⟩
  · rw [upd_ne (nx b n), upd_ne (Nat.ne_of_lt (Nat.lt_of_lt_of_le (Heap.lt_size e) hT0))]
    exact n
  · by_cases hb : b = x
    · obtain ⟨T', _, _, _, hx', _⟩ := Nd.ex
      exact ⟨_, by rw [hb]; exact hx'⟩
    · obtain ⟨sl, q⟩ := Nd.slot b o hb e
      exact ⟨_, q⟩
/-- a local name is unbound -/
theorem unbind_ok {M : Model} {A : Around} {E : Value → Shared → Prop} {i : Nat} {n : Str} {v : V} {pos : Pos} {Q : Unit → Shared → Prop} (I : Inv X pins σ H s) (hN : X.N.Nodup) (hi : X.N[i]? = some n) (hk : X.env.scope.names.lookup n = some .local) (hv : σ[i]? = some (some v))
    (h : ∀ s', Inv X pins (σ.set i none) H s' → Q () s') : wpAny M A (unbindBehindTheSuite X.env n pos) Q E s := by
  obtain ⟨m, hn, hl⟩ := id I.loc
  have hcls : (X.env.scope.kind == .class || (X.env.scope.kind == .module && X.env.locals != X.env.globals)) = false := by rw [I.ok.kind]; rfl
  obtain ⟨u, ru, lk⟩ := hl i n v hi hv (.inl hk)
  have hm : m n = some u := by
    rcases lk with ⟨_, e⟩ | ⟨k, _⟩
    · exact e
    · have k' : X.env.scope.names.lookup n = some .cell ∨ X.env.scope.names.lookup n = some .free := k
      rw [hk] at k'
      rcases k' with z | z <;> cases z
  have cne := I.cne
  obtain ⟨oL, _, _, hoL, _⟩ := id hn
  unfold unbindBehindTheSuite
  refine wpAny_onRaise (wpAny_unbindName_local hk hn hm hcls fun h' w' hn' hs => h _ ?_)
  refine ⟨I.ok, I.os, I.bare, ⟨fun b o e n hb hx => ?_, fun b o e n hb hx => ?_, I.base.free, fun b o e hx => ?_, I.base.tups, I.base.frzs, I.base.tbls⟩, ⟨_, hn', fun j y v' e1 e2 e3 => ?_⟩, fun y c e => ?_, I.free, I.freeC, fun p hp => ?_, fun b ob e => ?_, by simpa using I.len⟩
  · exact (hs.2 b (Nat.ne_of_lt (Nat.lt_of_lt_of_le (Heap.lt_size e) I.ok.above))).trans (I.base.keep b o e n hb hx)
  · obtain ⟨sl, e1⟩ := I.base.slot b o e n hb hx
    exact ⟨sl, (hs.2 b (Nat.ne_of_lt (Nat.lt_of_lt_of_le (Heap.lt_size e) I.ok.above))).trans e1⟩
  · obtain ⟨o', e1⟩ := I.base.there b o e hx
    exact ⟨o', (hs.2 b (Nat.ne_of_lt (Nat.lt_of_lt_of_le (Heap.lt_size e) I.ok.above))).trans e1⟩
  · have hiσ : i < σ.length := by rw [I.len]; exact (List.getElem?_eq_some_iff.mp hi).1
    by_cases hj : j = i
    · subst hj
      rw [List.getElem?_set_self hiσ] at e2
      cases e2
    · rw [List.getElem?_set_ne (Ne.symm hj)] at e2
      obtain ⟨u', r', q⟩ := hl j y v' e1 e2 e3
      refine ⟨u', r', ?_⟩
      rcases q with ⟨k, e⟩ | ⟨k, c, e, z⟩
      · refine .inl ⟨k, ?_⟩
        have : y ≠ n := fun e => hj (nodup_ix hN e1 (e ▸ hi))
        simp [this, e]
      · exact .inr ⟨k, c, e, z.sameBut hs (cne y c e)⟩
  · obtain ⟨w2, z⟩ := I.cell y c e
    exact ⟨w2, z.sameBut hs (cne y c e)⟩
  · obtain ⟨e, n, ne, nf, d⟩ := I.pin p hp
    exact ⟨(hs.2 p.1 ne).trans e, n, ne, nf, d⟩
  · refine (I.hok b ob e).stay (fun c w' hc q => (hs.2 c ?_).trans q) (fun _ q => q) fun _ _ q => q
    rintro rfl
    rcases hc with z | z
    · rw [← z, I.free] at e; cases e
    · rw [I.free] at z; cases z
end

/-- the context within an except suite -/
noncomputable abbrev Cx.mark (X : Cx) (e : Value) (xe : Value → Shared → Prop) : Cx := { X with A := X.A.mark (some e), calm := false, xe := xe }
theorem Inv.mark {X : Cx} {pins : List (Addr × Obj)} {σ : St} {H : Hp} {s : Shared} (I : Inv X pins σ H s) (e : Value) (xe : Value → Shared → Prop) : Inv (X.mark e xe) pins σ H s :=
  ⟨⟨I.ok.mod, I.ok.kind, I.ok.glob, I.ok.blt, I.ok.above, I.ok.inj, I.ok.has, I.ok.cab, (fun z => nomatch (show false = true from z)), I.ok.frames, I.ok.stk, I.ok.exf, I.ok.bs, I.ok.bsz, I.ok.noex, I.ok.exfs, I.ok.funs, I.ok.frf⟩, I.os, I.bare, I.base, I.loc, I.cell, I.free, I.freeC, I.pin, I.hok, I.len⟩
theorem Inv.unmark {X : Cx} {pins : List (Addr × Obj)} {σ : St} {H : Hp} {s : Shared} {e : Value} {xe : Value → Shared → Prop} (ok : X.Ok) (I : Inv (X.mark e xe) pins σ H s) : Inv X pins σ H s :=
  ⟨ok, I.os, I.bare, I.base, I.loc, I.cell, I.free, I.freeC, I.pin, I.hok, I.len⟩
section
open PySem.W
/-- except B: of an exception whose class is C, under B -/
theorem looks_matches {M : Model} {K : Frag} {h : Heap} {x C B : Addr} {ox : Obj} (X : K.In h) (hx : h.get? x = some ox) (hc : ox.cls = .ref C) (hB : clsIn K B ≠ none) (tB : typeIn K (.ref B) = some (.type "type")) (mB : mroIn K B (.type "BaseException") = some true) (mC : mroIn K C (.ref B) = some true) :
    Looks M h (excMatches (.ref x) (.ref B)) true := by
  have L0 : Looks M h (typeOf (.ref x)) (.ref C) := hc ▸ (Looks.ld hx).andThen .now
  have L1 := looks_typeIn (M := M) X tB
  have L2 : Looks M h (isInstance (.ref B) (.type "tuple")) false := L1.andThen (Looks.of_pure tc_notTuple)
  have L3 : Looks M h (isType (.ref B)) true := by
    unfold clsIn at hB
    split at hB
    · rename_i ho
      intro A' Q' E' s' k q
      unfold isType loadHead
      exact wpAny_bind (wpAny_loadPart (k _ _ (X _ _ ho)) (wpAny_pure q))
    · exact absurd rfl hB
  have L4 : Looks M h (isExcClass (.ref B)) true := by
    unfold isExcClass
    exact L3.andThen (by rw [if_pos rfl]; exact looks_mroIn X mB)
  have L5 := looks_mroIn (M := M) X mC
  intro A' Q' E' s' k q
  unfold excMatches
  refine wpAny_bind (L2 A' _ E' s' k ?_)
  rw [if_neg (by decide)]
  refine wpAny_bind (wpAny_pure ?_)
  dsimp only
  refine wpAny_bind ?_
  rw [List.forIn_cons]
  refine wpAny_bind (wpAny_bind (L4 A' _ E' s' k ?_))
  simp only [Bool.not_true, Bool.false_eq_true, if_false]
  refine wpAny_pure ?_
  dsimp only
  rw [List.forIn_nil]
  refine wpAny_pure ?_
  refine wpAny_bind (L0 A' _ E' s' k ?_)
  refine wpAny_bind ?_
  rw [List.forIn_cons]
  refine wpAny_bind (wpAny_bind (L5 A' _ E' s' k ?_))
  simp only [if_true]
  refine wpAny_pure (wpAny_pure ?_)
  exact wpAny_pure q
end
end L2
namespace L2
open PySem PySem.Spec PyProof.Rows
/-! ### code that an exception of a callee may leave: the locals are as they were ahead of it -/
noncomputable abbrev XR := Addr → Addr → Option Addr → Addr → Hp → Prop
noncomputable def XW (X : Cx) (pins : List (Addr × Obj)) (σ : St) (R : XR) (e : Value) (s' : Shared) : Prop :=
  ∃ x C d T H', e = .ref x ∧ Inv X pins σ H' s' ∧ H' x = some (TxO C d T x) ∧ H' T = some (TbO T) ∧ T ≠ x ∧ R x C d T H'
noncomputable abbrev TEX := St → Hp → VK → XR → Prop
noncomputable abbrev TSX := Ends → XR → St → Hp → Prop
noncomputable def PEX (X : Cx) (e : Expr) (t : TEX) : Prop :=
  ∀ (pins : List (Addr × Obj)) (s : Shared) (σ : St) (H : Hp) (Q : VK) (R : XR), Inv X pins σ H s → t σ H Q R → wpAny (model X.prog X.w) X.A (eval e X.env) (EP X pins σ Q) (XW X pins σ R) s
noncomputable def PSX (X : Cx) (st : Stmt) (t : TSX) : Prop :=
  ∀ (pins : List (Addr × Obj)) (s : Shared) (σ : St) (H : Hp) (D : Ends) (R : XR), Inv X pins σ H s → t D R σ H → wpAny (model X.prog X.w) X.A (exec st X.env) (SP X pins D) (XW X pins σ R) s
noncomputable def xOf (R : XR) : XK := fun Cv d H' => ∀ x C T, Cv = .ref C → H' x = some (TxO C d T x) → H' T = some (TbO T) → T ≠ x → R x C d T H'
noncomputable def tCallX (sp : Sp) (dvs : List V) (t : TA) : TEX := fun σ H Q R => t σ H fun vs H1 => sp (vs ++ dvs) H1 Q (xOf R)
section
variable {X : Cx} {k : Nat} {f : Addr} {fd : FuncData} {ps : List Str} {sp : Sp} {dvs : List V} {ds : List Value} {x : Str} {p pos : Pos} {e : Expr} {es : List Expr} {t : TA} {te : TEX}
theorem pex_call (F : FnOk X.prog X.w X.K X.mg X.base (CX1 X.prog X.w) k f fd ps sp) (hr : Room k X.A) (hg : Gl X x) (hm : X.mg x = some (.ref f)) (hk : PySem.W.keepIn X.K (.ref f) = true) (hb : Binds X.K fd ps ds) (hd : Vals dvs ds)
    (ha : PA X.nox (e :: es) t) (hdb : (x == ("__debug__" : Str)) = false := by decide) (he : starEach (e :: es) X.env = (false, eval e X.env) :: starEach es X.env := by rfl) (hpl : (backTo pos (starEach es X.env)).any (·.1) = false := by rfl) :
    PEX X (.Call (.Name x p) (e :: es) [] pos) (tCallX sp dvs t) := by
  intro pins s σ H Q R I h
  refine wpAny_Call_Name_kw (ld_glob I hg hm ?_ hdb)
  refine PySem.W.callWith_K (h₀ := X.base) I.ok.mod.kin hk (wpAny_mono (ha pos pins s σ H _ (I.wish _) h) (fun us s1 ⟨vs, H1, I1, r, q⟩ => ⟨I1.kIn, ?_⟩) fun _ _ z => z.elim) he hpl
  have I1 := I1.unwish
  have r2 : Vals (vs ++ dvs) (us ++ ds) := r.append hd
  have hl : (us ++ ds).length = ps.length := by rw [← r2.length]; exact F.len _ _ _ _ q
  refine wpAny_call (codeAny_mono (F.run X.A X.stack s1 H1 ⟨us, []⟩ (us ++ ds) (vs ++ dvs) Q (xOf R) hr I1.env0 (hb s1 us I1.kIn hl) r2 q) fun r s' hq => ?_)
  cases r with
  | error e =>
    obtain ⟨x, C, d, T, H', rfl, os, bare, un, hok, hx, hT, hTx, hw⟩ := hq
    exact ⟨x, C, d, T, H', rfl, I1.call' os un hok bare (fun b z => absurd z (by simp)), hx, hT, hTx, hw x C T rfl hx hT hTx⟩
  | ok fl =>
    cases fl with
    | ret u => exact I1.after hq
    | next => exact False.elim hq
    | brk => exact False.elim hq
    | cont => exact False.elim hq
theorem psx_set {i : Nat} {y : Str} {pos' : Pos} (hN : X.N.Nodup) (hi : X.N[i]? = some y) (hx : Loc X.env.scope y) (he : PEX X e te) (hs : swapsWith e (some (.Name y pos')) pos.line X.env = pure false := by rfl) (hf : X.fn y = true ∨ X.env.scope.names.lookup y = some .local := by first | exact .inl rfl | exact .inr rfl | assumption) :
    PSX X (.Assign [.Name y pos'] e pos) (fun D R σ H => te σ H (fun v H1 => D.nx (σ.set i (some v)) H1) R) := by
  intro pins s σ H D R I h
  refine wpAny_Assign_Name (thn (he pins s σ H _ R I h) fun v s1 ⟨y, H1, I1, r1, q1⟩ => ?_) hs
  exact store_ok I1 hN hi hx r1 (fun s2 I2 => ⟨_, H1, I2, q1⟩) hf
end
end L2

set_option Elab.async false
set_option linter.all false
set_option maxRecDepth 100000
set_option maxHeartbeats 4000000
namespace L2
open PySem PySem.Spec PyProof.Rows
theorem drop_name {X : Cx} {pins : List (Addr × Obj)} {σ : St} {H : Hp} {s : Shared} {M : Model} {A : Around} {E : Value → Shared → Prop} {i : Nat} {n : Str} {pos : Pos} {Q : Unit → Shared → Prop} (I : Inv X pins σ H s) (hN : X.N.Nodup) (hi : X.N[i]? = some n) (hk : X.env.scope.names.lookup n = some .local)
    (h : ∀ s', Inv X pins (σ.set i none) H s' → Q () s') : wpAny M A (do bindName X.env n .none; unbindBehindTheSuite X.env n pos) Q E s := by
  have hiσ : i < σ.length := by rw [I.len]; exact (List.getElem?_eq_some_iff.mp hi).1
  refine wpAny_bind ?_
  unfold bindName
  refine wpAny_bind (wpAny_holding (wpAny_point (wpAny_bind (store_ok (v := .non) I hN hi (.inl hk) rfl (fun s1 I1 => wpAny_point ?_) (.inr hk)))))
  refine unbind_ok I1 hN hi hk (v := .non) (List.getElem?_set_self hiσ) fun s2 I2 => h s2 ?_
  rw [List.set_set] at I2
  exact I2
noncomputable def behind (i : Nat) (D : Ends) : Ends := { nx := fun σ H => D.nx (σ.set i none) H, rt := D.rt, bk := fun σ H => D.bk (σ.set i none) H, ct := fun σ H => D.ct (σ.set i none) H }
noncomputable def tTry (K : PySem.W.Frag) (B : Addr) (i : Nat) (tb : TSX) (ts : TS) : TS := fun D σ H => tb D (fun x C d _ H' => PySem.W.mroIn K C (.ref B) = some true ∧ ∀ T', H' T' = none → ts (behind i D) (σ.set i (some (.ref x))) (upd (upd H' T' (TbO T')) x (TxO C d T' x))) σ H
section
variable {X : Cx} {st b₀ : Stmt} {suite : List Stmt} {tb : TSX} {ts : TS} {cn n : Str} {np hp pos : Pos} {B : Addr} {i : Nat}
/-- try: st  except B as n: suite -/
theorem ps_try (hst : X.stack = X.env :: X.outer) (hfr : X.env.frame = some X.env.locals) (hb : PSX X st tb) (hg : Gl X cn) (hm : X.mg cn = some (.ref B)) (hB : PySem.W.clsIn X.K B ≠ none) (tB : PySem.W.typeIn X.K (.ref B) = some (.type "type")) (mB : PySem.W.mroIn X.K B (.type "BaseException") = some true)
    (hN : X.N.Nodup) (hi : X.N[i]? = some n) (hk : X.env.scope.names.lookup n = some .local) (hs : ∀ e, PSs (X.mark e fun _ _ => False) (b₀ :: suite) ts) (hdb : (cn == ("__debug__" : Str)) = false := by decide) :
    PS X (.Try [st] [.ExceptHandler (some (.Name cn np)) (some n) (b₀ :: suite) hp] [] [] pos) (tTry X.K B i tb ts) := by
  intro pins s σ H D I h
  refine wpAny_Try_except (wpAny_execs_cons (wpAny_mono (hb pins s σ H D _ I h) (fun f s1 q => ?_) fun e s1 q => ?_))
  · cases f with
    | next => exact wpAny_execs_nil (wpAny_execs_nil q)
    | ret v => exact q
    | brk => exact q
    | cont => exact q
  obtain ⟨x, C, d, T, H', rfl, I1, hx, hT, hTx, mC, q⟩ := q
  obtain ⟨⟨ox, vs, h1, h2, h3, h4, h5, h6⟩, _⟩ := I1.hok x _ hx
  obtain ⟨⟨oT, tz, t1, t2, t3⟩, _⟩ := I1.hok T _ hT
  have hsz := (Array.getElem?_eq_some_iff.mp h6).1
  have fr1 : X.A.frames = some (X.env :: X.outer) := by rw [← hst]; exact I1.ok.frames
  have fl1 : s1.heap.FunFrames X.base (X.env :: X.outer) := by rw [← hst]; exact I1.stack
  refine note_next (base := X.base) fr1 fl1 hfr h1 h5 h6 hTx t1 t2 t3 fun g2 Nd => ?_
  have hx1 : (clearT T s1.heap).get? x = some ox := (Heap.get?_update_other _ _ hTx).trans h1
  refine land (s := { s1 with heap := g2 }) Nd hx1 h5 hsz fun g3 Nd3 => ?_
  obtain ⟨T', hn, hT'x, I3⟩ := (I1.cleared hT t1 t2 t3).noted (C := C) (d := d) (t' := s1.toks) hx hx1 h2 h4 h5 hsz (by unfold frs; rw [hst]; exact Nd3)
  have I3 : Inv X pins σ (upd (upd H' T' (TbO T')) x (TxO C d T' x)) { s1 with heap := g3 } := I3
  obtain ⟨⟨ox3, vs3, k1, k2, k3, k4, k5, k6⟩, _⟩ := I3.hok x _ upd_same
  have hT3 : upd (upd H' T' (TbO T')) x (TxO C d T' x) T' = some (TbO T') := by rw [upd_ne hT'x, upd_same]
  obtain ⟨⟨oT3, tz3, u1, u2, u3⟩, _⟩ := I3.hok T' _ hT3
  refine wpAny_handleBy_cons (codeAny_handlers_test ?_) (by intro z; cases z)
  refine ld_glob (I3.mark (.ref x) fun _ _ => False) hg hm ?_ hdb
  refine looks_matches I3.kIn k1 k2 hB tB mB mC _ _ _ _ (fun _ _ e => e) ?_
  refine codeAny_handlers_suite_as ?_
  unfold setFlight
  refine wpAny_bind (wpAny_field k1 k5 k6 ?_)
  rw [if_pos (show (Value.ref T' != Value.none) = true from by simp)]
  refine wpAny_setField u1 u2 (Array.getElem?_eq_some_iff.mp u3).1 ?_
  have I4 := I3.cleared hT3 u1 u2 u3
  refine store_ok (v := .ref x) I4 hN hi (.inl hk) rfl (fun s5 I5 => ?_) (.inr hk)
  refine wpAny_mono (hs (.ref x) pins s5 _ _ (behind i D) (I5.mark (.ref x) fun _ _ => False) (q T' hn)) (fun f s6 q6 => ?_) fun _ _ z => z.elim
  cases f with
  | next => obtain ⟨σ', H6, I6, nx⟩ := q6; exact drop_name (I6.unmark I.ok) hN hi hk fun s7 I7 => ⟨_, _, I7, nx⟩
  | brk => obtain ⟨σ', H6, I6, nx⟩ := q6; exact drop_name (I6.unmark I.ok) hN hi hk fun s7 I7 => ⟨_, _, I7, nx⟩
  | cont => obtain ⟨σ', H6, I6, nx⟩ := q6; exact drop_name (I6.unmark I.ok) hN hi hk fun s7 I7 => ⟨_, _, I7, nx⟩
  | ret v => obtain ⟨y, σ', H6, I6, rv, nx⟩ := q6; exact drop_name (I6.unmark I.ok) hN hi hk fun s7 I7 => ⟨y, _, _, I7, rv, nx⟩
end
end L2

set_option Elab.async false
set_option linter.all false
set_option maxRecDepth 100000
set_option maxHeartbeats 4000000
namespace L2
open PySem PySem.Spec PyProof.Rows
/-! ### a caught exception is read -/
noncomputable def ExcC (H : Hp) (a C : Addr) (fs : List (Str × V)) : Prop := (fs = [] ∧ ∃ T, H a = some (TxO C none T a)) ∨ ∃ dx T, H a = some (TxO C (some dx) T a) ∧ H dx = some (.xd fs)
section
variable {X : Cx} {pins : List (Addr × Obj)} {σ : St} {H : Hp} {s : Shared} {a C : Addr} {fs : List (Str × V)} {f : Str} {v : V} {A : Around} {E : Value → Shared → Prop}
theorem excC_inst (I : Inv X pins σ H s) (e : ExcC H a C fs) : ∃ ox od, PySem.W.InstAt s.heap a ox C od ∧ ∀ f v, fs.lookup f = some v → ∃ o u, od = some o ∧ RelV v u ∧ PySem.W.lookIn f o = some (some u) := by
  rcases e with ⟨rfl, T, e⟩ | ⟨dx, T, e, e2⟩
  · obtain ⟨⟨o, vs, h1, h2, h3, h4, _⟩, _⟩ := I.hok a _ e
    exact ⟨o, none, ⟨h1, h2, h3, by rw [h4]; trivial⟩, fun f v q => nomatch q⟩
  · obtain ⟨⟨o, vs, h1, h2, h3, h4, _⟩, _⟩ := I.hok a _ e
    obtain ⟨mA, n, r⟩ := (show ObjOk X.prog X.w H s.heap dx (.xd fs) from I.hok dx _ e2)
    obtain ⟨od, ho, hl⟩ := lookIn_ns n
    refine ⟨o, some od, ⟨h1, h2, h3, by rw [h4]; exact ho⟩, fun f v q => ?_⟩
    obtain ⟨u, hu, ru⟩ := RelO.some_of (v := v) (o := mA f) (by rw [← q]; exact r f)
    exact ⟨od, u, rfl, ru, by rw [hl, hu]⟩
theorem getC_ok {b : Bool} {Q : Value → Shared → Prop} (I : Inv X pins σ H s) (e : ExcC H a C fs) (c : XCls X.K C) (n : NoAttr X.K C f) (l : fs.lookup f = some v)
    (h : ∀ u s', Inv X pins σ H s' → RelV v u → Q u s') : wpAny (model X.prog X.w) A (getAttr (.ref a) f b) Q E s := by
  obtain ⟨ox, od, J, hl⟩ := excC_inst I e
  obtain ⟨o, u, rfl, ru, hu⟩ := hl f v l
  exact get_exc I.kIn J c.ga c.gh c.mb (PySem.W.findObj_own c.hd n rfl hu) (handed_of ru) (h u _ (I.tok _) ru)
theorem call_isinstC : CallR X (.builtin "isinstance") (fun xs H Q => ∃ a C fs y c b, xs = [.ref a, y] ∧ clsV y = some c ∧ ExcC H a C fs ∧ XCls X.K C ∧ PySem.W.kitOne X.K (.ref C) c = some b ∧ Q (.bl b) H) := by
  intro pins s σ H xs us Q I r h
  obtain ⟨a, C, fs, y, c, b, rfl, hc, ex, xc, e, q⟩ := h
  obtain ⟨u, w', rfl, rx, ry⟩ := vals2 r
  have ec : w' = c := by
    cases y with
    | ty n => exact Eq.trans ry (Option.some.inj hc)
    | ref a => exact Eq.trans ry (Option.some.inj hc)
    | _ => cases hc
  subst ec
  cases (show u = Value.ref a from rx)
  obtain ⟨ox, od, J, _⟩ := excC_inst I ex
  exact PySem.W.kia_one (kitx_exc xc) I.kIn ⟨ox, od, J⟩ e (fun z => nomatch z) fun tk => ⟨.bl b, H, I.tok tk, rfl, q⟩
end
/-- e.f of a caught exception -/
noncomputable def tFldC (K : PySem.W.Frag) (ta : TE) (f : Str) : TE := fun σ H Q => ta σ H fun x H1 => ∃ a C fs v, x = .ref a ∧ ExcC H1 a C fs ∧ XCls K C ∧ NoAttr K C f ∧ fs.lookup f = some v ∧ Q v H1
theorem pe_fldC {X : Cx} {g : Str} {pos : Pos} {e : Expr} {ta : TE} (he : PE X e ta) (hb : attributeBase e g X.env (eval e X.env) = eval e X.env) : PE X (.Attribute e g pos) (tFldC X.K ta g) := by
  intro pins s σ H Q I h
  refine attr_of hb (thn (he pins s σ H _ I h) fun u s1 hq' => ?_)
  obtain ⟨x, H1, I1, rx, a, C, fs, v, ex, ea, c, n, l, q⟩ := hq'
  subst ex
  obtain rfl : u = Value.ref a := rx
  exact getC_ok I1 ea c n l fun u' s2 I2 ru => ⟨v, H1, I2, ru, q⟩
/-- THE RULE for a def that an own exception may leave: its body in the context with CX1; E is the wish of the contract -/
theorem Fun.ok1 {P : Program} {w : World} {K : PySem.W.Frag} {mg : Str → Option Value} {base : Heap} {x qual : Str} {st : Stmt} {f : Addr} {fd : FuncData} {N ps : List Str} {k : Nat} {sp : Sp} (F : Fun K x qual st f fd) (S : FnScope N ps (defScope st)) (len : ∀ vs H Q E, sp vs H Q E → vs.length = ps.length)
    (hbody : ∀ (cdv : Value) (A : Around) (outer : List Env) (s : Shared) (H : Hp) (vs : List V) (Q : VK) (E : XK), Room k (A.deeper (envOfC qual (defScope st) s.heap.objs.size f cdv)) → sp vs H Q E →
      ∃ t, PSs (cxOf (CX1 P w) P w K mg base N qual (defScope st) f cdv A outer s H E) (defBody st) t ∧ t { nx := fun _ H' => Q .non H', rt := Q } (start N vs) H) : FnOk P w K mg base (CX1 P w) (k + 1) f fd ps sp := by
  obtain ⟨oc, od, kV, doc, pm, an, cdv, ct, osl, rfl, lk, hcd⟩ := F.ex
  exact fn_of lk hcd S len fun A outer s H vs Q E hr hsp => hbody cdv A outer s H vs Q E hr hsp
end L2

set_option Elab.async false
set_option linter.all false
set_option maxRecDepth 100000
set_option maxHeartbeats 4000000
namespace L2
open PySem PySem.Spec PyProof.Rows
/-! ## f".." of texts and ints -/
noncomputable abbrev TJ := St → Hp → Str → (Str → Hp → Prop) → Prop
noncomputable def PJ (X : Cx) (es : List Expr) (t : TJ) : Prop :=
  ∀ (pins : List (Addr × Obj)) (s : Shared) (σ : St) (H : Hp) (acc : Str) (Q : Str → Hp → Prop), Inv X pins σ H s → t σ H acc Q → Joins (model X.prog X.w) X.A X.xe (evalEach es X.env) acc (fun out s1 => ∃ H1, Inv X pins σ H1 s1 ∧ Q out H1) s
noncomputable def tJN : TJ := fun _ H acc Q => Q acc H
noncomputable def tJC (te : TE) (t : TJ) : TJ := fun σ H acc Q => te σ H fun v H1 => ∃ y, v = .str y ∧ (acc ++ y).length ≤ sizeLine ∧ t σ H1 (acc ++ y) Q
noncomputable def tFstr (t : TJ) : TE := fun σ H Q => t σ H Str.empty fun out H1 => out.length ≤ sizeLine ∧ Q (.str out) H1
noncomputable def tFmt (te : TE) : TE := fun σ H Q => te σ H fun v H1 => (∃ y, v = .str y ∧ y.length ≤ sizeLine ∧ Q (.str y) H1) ∨ ∃ i : Int, v = .int i ∧ i.natAbs.log2 < 1920 ∧ Q (.str (toString i)) H1
section
variable {X : Cx} {e v₁ v₂ : Expr} {es rest : List Expr} {te : TE} {t : TJ} {pos : Pos}
end
end L2

set_option Elab.async false
set_option linter.all false
set_option maxRecDepth 100000
set_option maxHeartbeats 4000000
namespace L2
open PySem PySem.Spec PyProof.Rows PySem.SeqAt
/-! ## == and != of two tuples of flat items -/
noncomputable def eqTs (xs ys : List V) : Bool := (List.range (min xs.length ys.length)).all (fun j => eqV (xs.getD j .non) (ys.getD j .non)) && xs.length == ys.length
section
variable {X : Cx}
theorem tup_items {A : Around} {s : Shared} {xs ys : List V} {ia ib : List Value} (ra : Vals xs ia) (rb : Vals ys ib) (fx : xs.all flatV = true) (fy : ys.all flatV = true) (j : Nat) (h1 : j < ia.toArray.size) (h2 : j < ib.toArray.size) : EqAt A s ia.toArray[j] ib.toArray[j] (eqV (xs.getD j .non) (ys.getD j .non)) := by
  have la := ra.length
  have lb := rb.length
  have hj : j < xs.length := by simp at h1; omega
  have hj' : j < ys.length := by simp at h2; omega
  have hx : xs[j]? = some xs[j] := List.getElem?_eq_getElem hj
  have hy : ys[j]? = some ys[j] := List.getElem?_eq_getElem hj'
  obtain ⟨u1, q1, r1⟩ := ra.get hx
  obtain ⟨u2, q2, r2⟩ := rb.get hy
  have f1 := List.all_eq_true.mp fx _ (List.getElem_mem hj)
  have f2 := List.all_eq_true.mp fy _ (List.getElem_mem hj')
  have e1 : ia.toArray[j] = u1 := by
    obtain ⟨_, e⟩ := List.getElem?_eq_some_iff.mp q1
    simpa using e
  have e2 : ib.toArray[j] = u2 := by
    obtain ⟨_, e⟩ := List.getElem?_eq_some_iff.mp q2
    simpa using e
  have g1 : xs.getD j .non = xs[j] := by rw [List.getD_eq_getElem?_getD, hx]; rfl
  have g2 : ys.getD j .non = ys[j] := by rw [List.getD_eq_getElem?_getD, hy]; rfl
  rw [e1, e2, g1, g2]
  exact eqAt_V r1 r2 f1 f2
theorem op_eqT (hu : X.A.units < cLine) : OpR X (compareOp .Eq) (fun x y H Q => ∃ a b xs ys, x = .ref a ∧ y = .ref b ∧ SqT X.K H a xs ∧ SqT X.K H b ys ∧ xs.all flatV = true ∧ ys.all flatV = true ∧ Q (.bl (eqTs xs ys)) H) := by
  intro pins s σ H x y v u Q I rx ry h
  obtain ⟨a, b, xs, ys, rfl, rfl, ha, hb, fx, fy, q⟩ := h
  cases rx
  cases ry
  obtain ⟨ia, ra, pa, _⟩ := I.tuple ha
  obtain ⟨ib, rb, pb, _⟩ := I.tuple hb
  refine eq_tupleAt (e := fun j => eqV (xs.getD j .non) (ys.getD j .non)) (show s.heap.IsTuple a ia.toArray from pa) (show s.heap.IsTuple b ib.toArray from pb) hu (fun j h1 h2 => tup_items ra rb fx fy j h1 h2) ?_
  have e : ((List.range (min ia.toArray.size ib.toArray.size)).all (fun j => eqV (xs.getD j .non) (ys.getD j .non)) && ia.toArray.size == ib.toArray.size) = eqTs xs ys := by
    unfold eqTs
    rw [List.size_toArray, List.size_toArray, ← ra.length, ← rb.length]
  rw [e]
  exact ⟨.bl _, H, I, rfl, q⟩
end
end L2

set_option Elab.async false
set_option linter.all false
set_option maxRecDepth 100000
set_option maxHeartbeats 4000000
namespace L2
open PySem PySem.Spec PyProof.Rows
/-! ## t[lo:hi:step] of a tuple, a step other than 0 and 1 -/
noncomputable def pickIx (lo hi : Option Int) (st : Int) (n : Nat) : List Nat :=
  (List.range (Builtin.Slice.slicePlaces (Builtin.Slice.sliceAdjust lo hi st (n : Int)).1 (Builtin.Slice.sliceAdjust lo hi st (n : Int)).2 st)).map fun (k : Nat) => ((Builtin.Slice.sliceAdjust lo hi st (n : Int)).1 + (k : Int) * st).toNat
noncomputable def pickV (xs : List V) (lo hi : Option Int) (st : Int) : List V := (pickIx lo hi st xs.length).filterMap fun k => xs[k]?
section
variable {prog : Program} {w : World} {A : Around} {E : Value → Shared → Prop} {s : Shared}

end
section
variable {X : Cx} {e es : Expr} {te ts : TE} {lo hi : Option Expr} {tl th : TO} {pos p2 : Pos}
noncomputable def tSlT (K : PySem.W.Frag) (te : TE) (tl th : TO) (ts : TE) : TE := fun σ H Q => te σ H fun x H1 => tl σ H1 fun l H2 => th σ H2 fun u H3 => ts σ H3 fun z H4 => ∃ a xs st, x = .ref a ∧ z = .int st ∧ st ≠ 0 ∧ st ≠ 1 ∧ SqT K H4 a xs ∧ (pickV xs l u st).length ≤ sizeLine ∧ ∀ p, H4 p = none → Q (.ref p) (upd H4 p (.tup (pickV xs l u st)))
end
end L2

set_option Elab.async false
set_option linter.all false
set_option maxRecDepth 100000
namespace L2
open PySem PySem.Spec PyProof.Rows

/-! ### sets of texts: made of a list, walked in whatever order -/
section
variable {prog : Program} {w : World} {A : Around} {E : Value → Shared → Prop} {s : Shared}
end
noncomputable def txOf : Value → Str
  | .str x _ => x
  | _ => ⟨#[]⟩
noncomputable def TxSet (prog : Program) (w : World) (h : Heap) (a : Addr) (L : List Str) : Prop :=
  ∃ o es ep t, h.get? a = some o ∧ o.ExactSet ∧ o.data = .set es ep t ∧ ElemsOf (PySem.strKind prog w) es.toList ∧ (es.toList.map fun e => txOf e.2).Perm L ∧ L.Nodup
    ∧ es.size < scanBound ∧ t.fits es.size = true ∧ t.led = !(w.params.followText "set-order") ∧ (t.plain = false ∨ es.size = 0)
section
variable {prog : Program} {w : World} {A : Around} {E : Value → Shared → Prop} {s : Shared}
end
end L2

set_option Elab.async false
set_option linter.all false
set_option maxRecDepth 100000
namespace L2
open PySem PySem.Spec PyProof.Rows

noncomputable def freshSet (w : World) : Obj := { cls := .type "set", dict := none, data := .set #[] 0 (.fresh 0 0 (!(w.params.followText "set-order"))) }
section
variable {prog : Program} {w : World} {A : Around} {E : Value → Shared → Prop} {s : Shared}
end
section
variable {prog : Program} {w : World} {A : Around} {E : Value → Shared → Prop} {s : Shared}
end
end L2

set_option Elab.async false
set_option linter.all false
set_option maxRecDepth 100000
namespace L2
open PySem PySem.Spec PyProof.Rows


noncomputable def SetIt (h : Heap) (I : Addr) (f : Value) (i : Nat) (S : Addr) (n ep : Nat) : Prop :=
  ∃ o, h.get? I = some o ∧ o.cls = .type "set_iterator" ∧ o.data = .fields #[f, .int i 0, .ref S, .int n 0, .int ep 0]
section
variable {prog : Program} {w : World} {A : Around} {E : Value → Shared → Prop} {s : Shared}
theorem wp_stop {α : Type} {Q : α → Shared → Prop} (hh : A.handled = none)
    (h : ∀ h' e, (∀ b o, s.heap.get? b = some o → h'.get? b = some o) → Shared.TypeIs { s with heap := h' } e "StopIteration" → E e { s with heap := h' }) :
    wpAny (model prog w) A (do raiseNew (← newExc (.type "StopIteration") []) : Sem α) Q E s := by
  refine wpAny_bind ?_
  simp only [newExc, newTuple]
  refine wpAny_bind (wpAny_newObj_type ?_ (by size_fits))
  refine wpAny_bind (m := firstArgMember _ _) (wpAny_of_eq (a := Value.none) ?_ ?_)
  · first | rfl | (simp only [firstArgMember]; rfl)
  refine wpAny_newObj_type ?_ (by size_fits)
  simp only [raiseNew]
  refine wpAny_bind (wpAny_handled ?_)
  rw [hh]
  refine wpAny_bind (wpAny_pure (wpAny_throw (h _ _ (fun b o e => Heap.get?_push_of_some _ (Heap.get?_push_of_some _ e)) ?_)))
  exact ⟨_, Heap.get?_push_size _ rfl, rfl⟩
end
end L2

set_option Elab.async false
set_option linter.all false
set_option maxRecDepth 100000
namespace L2
open PySem PySem.Spec PyProof.Rows
section
variable {prog : Program} {w : World} {A : Around} {E : Value → Shared → Prop} {s : Shared}
end
end L2

set_option Elab.async false
set_option linter.all false
set_option maxRecDepth 100000
namespace L2
open PySem PySem.Spec PyProof.Rows
noncomputable def ItAt (ord : List (Int × Value)) (i : Nat) (v : Value) : Prop := ∃ e, ord[i]? = some e ∧ v = e.2
section
variable {prog : Program} {w : World} {A : Around} {E : Value → Shared → Prop} {s : Shared}
end
end L2

set_option Elab.async false
set_option linter.all false
set_option maxRecDepth 100000
namespace L2
open PySem PySem.Spec PyProof.Rows
/-- what a walk over a set of texts is -/
noncomputable def TxWalk (prog : Program) (w : World) (s s' : Shared) (S I : Addr) (L : List Str) : Prop :=
  ∃ (fp : List Addr) (ss : List Str) (P : Nat → Value → Prop) (St : Nat → Shared → Prop), (∀ b o, s.heap.get? b = some o → s'.heap.get? b = some o) ∧ s'.gens = s.gens ∧ s'.os = s.os ∧ s.toks ≤ s'.toks ∧
    s.heap.objs.size ≤ I ∧ I < s'.heap.objs.size ∧ s'.TypeIs (.ref I) "set_iterator" ∧ (∀ b ∈ fp, b = S ∨ s.heap.objs.size ≤ b) ∧ (∀ A' : Around, A'.handled = none → WalksS prog w A' I fp [I] (fun a b => b = a) ss.length P St) ∧ St 0 s' ∧
    (∀ i v, P i v → ∃ x t, ss[i]? = some x ∧ v = .str x t) ∧ ss.Perm L
section
variable {prog : Program} {w : World} {A : Around} {E : Value → Shared → Prop} {s : Shared}
end
end L2

set_option Elab.async false
set_option linter.all false
set_option maxRecDepth 100000
namespace L2
open PySem PySem.Spec PyProof.Rows
section
variable {prog : Program} {w : World} {A : Around} {E : Value → Shared → Prop} {s : Shared}
end
/-- a set of texts, by its members -/
noncomputable def TsO (P : Program) (w : World) (a : Addr) (L : List Str) : HO := .ext fun h => TxSet P w h a L
section
variable {X : Cx}
end
/-! ### texts in order -/
end L2

set_option Elab.async false
set_option linter.all false
set_option maxRecDepth 100000
namespace L2
open PySem PySem.Spec PyProof.Rows
/-! ### list(reversed(t)), t a tuple -/
theorem mro_rev : mroOf (.type "reversed") = pure [.type "reversed", .type "object"] := by rw [mroOf_type]; kernel_rfl
theorem lookup_rev_new : typeLookup (.type "reversed") "__new__" = pure (some (.builtin "reversed.__new__")) := by rw [typeLookup_type, builtinLookup_eq_fast]; kernel_rfl
theorem slot_rev_init : Slot "reversed" "__init__" "object.__init__" := by
  refine .of (owner := "object") (n := "__init__") ?_ (by decide +kernel) (by decide +kernel) (by decide +kernel) ?_ ?_
  · rw [typeLookup_type, builtinLookup_eq_fast]; kernel_rfl
  · first | exact .inl (by decide +kernel) | exact .inr (by decide +kernel)
  · rw [isSubtype_type]; kernel_rfl
theorem called_rev : TypeCalled "reversed" "reversed.__new__" "object.__init__" := by
  refine ⟨by decide +kernel, by decide +kernel, ⟨_, _, mro_rev⟩, madeBy_type mro_rev lookup_rev_new (by decide +kernel), by decide +kernel, ?_, slot_rev_init⟩
  rw [isSubtype_type]; kernel_rfl
theorem typeCall_rev (a : Value) : checkTypeCall "reversed" ⟨[a], []⟩ = pure () := by kernel_rfl
theorem newCall_rev (a : Value) : checkBuiltinCall "reversed.__new__" ⟨[.type "reversed", a], []⟩ = pure () := by kernel_rfl
theorem entry_rev_new : entryFor table "reversed.__new__" = some Builtin.«reversed.__new__» := entryFor_of_tree (by kernel_rfl)
theorem sub_rev : isSubtype (.type "reversed") (.type "reversed") = pure true := by rw [isSubtype_type]; kernel_rfl
theorem no_tuple_rev : typeLookup (.type "tuple") "__reversed__" = pure none := by rw [typeLookup_type, builtinLookup_eq_fast]; kernel_rfl
theorem sub_tuple_dict : isSubtype (.type "tuple") (.type "dict") = pure false := by rw [isSubtype_type]; kernel_rfl
noncomputable def revObj (t : Addr) (n : Int) : Obj := { cls := .type "reversed", data := .fields #[.ref t, .int (n - 1) 0] }
section
variable {prog : Program} {w : World} {A : Around} {E : Value → Shared → Prop} {s : Shared}
theorem call_rev {t : Addr} {items : Array Value} {Q : Value → Shared → Prop} (ht : IsTup s.heap t items) (hn : (items.size : Int) < 2 ^ 63)
    (h : Q (.ref s.heap.objs.size) { s with heap := s.heap.push (revObj t items.size), toks := s.toks + 1 + 1 }) : wpAny (model prog w) A (call (.type "reversed") [.ref t]) Q E s := by
  refine callType_new (S := fun _ R s' => s' = s ∧ R (.ok (.ret (.ref s.heap.objs.size))) { s with heap := s.heap.push (revObj t items.size), toks := s.toks + 1 + 1 }) called_rev (by decide) (typeCall_rev _) (newCall_rev _) (fun obj => PySem.F.args_object_init_2 obj _) entry_rev_new
    (.of_wp fun prog' w' A' R s' hs => ?_) ⟨rfl, ⟨_, Heap.get?_push_size _ rfl, rfl⟩, h⟩
  obtain ⟨rfl, hr⟩ := hs
  unfold Builtin.«reversed.__new__» Builtin.SmallTypes.newClass
  refine wpAny_bind ?_
  dsimp only
  refine wpAny_bind (wpAny_pure ?_)
  simp only [Bool.not_true, Bool.false_eq_true, if_false]
  refine wpAny_bind (wpAny_of_eq sub_rev ?_)
  simp only [Bool.not_true, Bool.false_eq_true, if_false]
  refine wpAny_pure ?_
  refine wpAny_bind (m := Builtin.SmallTypes.refuseKeywords _ _ _) (wpAny_pure ?_)
  refine wpAny_bind (m := checkCount "reversed" 1 1 _) (wpAny_pure ?_)
  dsimp only
  refine wpAny_bind (wpAny_specialOf ht.typeIs no_tuple_rev ?_)
  dsimp only
  refine wpAny_bind ?_
  show wpAny _ _ (isInstance (.ref t) (.type "dict") >>= _) _ _ _
  refine wpAny_bind (wpAny_isInstance (b := false) ht.typeIs sub_tuple_dict ?_)
  simp only [Bool.false_eq_true, if_false]
  refine wpAny_bind (wpAny_specialOf ht.typeIs PyProof.Rows.slot_tuple_getitem.lookup ?_)
  dsimp only
  rw [if_pos (by decide +kernel)]
  refine wpAny_pure ?_
  simp only [Bool.not_true, Bool.false_eq_true, if_false]
  refine wpAny_bind (len_tuple ht hn ?_)
  refine wpAny_bind (m := asInt? _) (wpAny_pure ?_)
  dsimp only
  show wpAny _ _ (newObj (.type "reversed") (.fields [Value.ref t, rawInt ((items.size : Int) - 1)].toArray) >>= _) _ _ _
  exact wpAny_bind (wpAny_newObj_type (wpAny_pure ⟨_, rfl, hr⟩))
end
end L2

set_option Elab.async false
set_option linter.all false
set_option maxRecDepth 100000
namespace L2
open PySem PySem.Spec PyProof.Rows
theorem slot_rev_next : Slot "reversed" "__next__" "reversed.__next__" := by
  refine .of (owner := "reversed") (n := "__next__") ?_ (by decide +kernel) (by decide +kernel) (by decide +kernel) ?_ ?_
  · rw [typeLookup_type, builtinLookup_eq_fast]; kernel_rfl
  · first | exact .inl (by decide +kernel) | exact .inr (by decide +kernel)
  · rw [isSubtype_type]; kernel_rfl
theorem slot_rev_iter : Slot "reversed" "__iter__" "reversed.__iter__" := by
  refine .of (owner := "reversed") (n := "__iter__") ?_ (by decide +kernel) (by decide +kernel) (by decide +kernel) ?_ ?_
  · rw [typeLookup_type, builtinLookup_eq_fast]; kernel_rfl
  · first | exact .inl (by decide +kernel) | exact .inr (by decide +kernel)
  · rw [isSubtype_type]; kernel_rfl
theorem slot_rev_hint : Slot "reversed" "__length_hint__" "reversed.__length_hint__" := by
  refine .of (owner := "reversed") (n := "__length_hint__") ?_ (by decide +kernel) (by decide +kernel) (by decide +kernel) ?_ ?_
  · rw [typeLookup_type, builtinLookup_eq_fast]; kernel_rfl
  · first | exact .inl (by decide +kernel) | exact .inr (by decide +kernel)
  · rw [isSubtype_type]; kernel_rfl
theorem entry_rev_next : entryFor table "reversed.__next__" = some Builtin.«reversed.__next__» := entryFor_of_tree (by kernel_rfl)
theorem entry_rev_hint : entryFor table "reversed.__length_hint__" = some Builtin.«reversed.__length_hint__» := entryFor_of_tree (by kernel_rfl)
theorem entry_rev_iter : entryFor table "reversed.__iter__" = some Builtin.«dict_keyiterator.__iter__» := by
  refine entryFor_alias (id' := "dict_keyiterator.__iter__") ?_ rfl (by decide +kernel) ?_ <;> kernel_rfl
theorem args_rev_next (a : Value) : argsOk "reversed.__next__" ⟨[a], []⟩ := by unfold argsOk; kernel_rfl
theorem args_rev_iter (a : Value) : argsOk "reversed.__iter__" ⟨[a], []⟩ := by unfold argsOk; kernel_rfl
theorem args_rev_hint (a : Value) : argsOk "reversed.__length_hint__" ⟨[a], []⟩ := by unfold argsOk; kernel_rfl
theorem no_rev_len : typeLookup (.type "reversed") "__len__" = pure none := by rw [typeLookup_type, builtinLookup_eq_fast]; kernel_rfl
noncomputable def RevAt (h : Heap) (I t : Addr) (k : Int) : Prop := ∃ o, h.get? I = some o ∧ o.cls = .type "reversed" ∧ o.data = .fields #[.ref t, .int k 0]
theorem RevAt.at {h h' : Heap} {I t : Addr} {k : Int} (x : RevAt h I t k) (e : ∀ o, h.get? I = some o → h'.get? I = some o) : RevAt h' I t k := let ⟨o, ho, r⟩ := x; ⟨o, e o ho, r⟩
theorem RevAt.is {s : Shared} {I t : Addr} {k : Int} (x : RevAt s.heap I t k) : s.TypeIs (.ref I) "reversed" := let ⟨o, ho, hc, _⟩ := x; ⟨o, ho, hc⟩
section
variable {prog : Program} {w : World} {A : Around} {E : Value → Shared → Prop} {s : Shared}
theorem nextR_of {I t : Addr} {k : Int} {Q : Option Value → Shared → Prop} (hit : RevAt s.heap I t k)
    (h : wpAny (model prog w) A.in1 (Builtin.«reversed.__next__» ⟨[.ref I], []⟩) (fun fin s' => ∃ v, fin = .done (.ret v) ∧ Q (some v) s') (fun e s' => s'.TypeIs e "StopIteration" ∧ Q none s') s) :
    wpAny (model prog w) A (pyNext (.ref I)) Q E s := by
  unfold pyNext
  refine wpAny_bind (wpAny_attempt (wpAny_callSpecial?_slot (name := Str.ofString "__next__") hit.is slot_rev_next (wpAny_call_entry slot_rev_next hit.is entry_rev_next ?_ (args_rev_next _))))
  refine wpAny_mono h (fun fin s' q => ?_) fun e s' q => ?_
  · obtain ⟨v, e, q⟩ := q
    exact ⟨v, e, wpAny_pure q⟩
  · exact wpAny_bind (wpAny_isInstance (T := "StopIteration") (b := true) q.1 isSubtype_stop (wpAny_pure q.2))
theorem nextR {I t : Addr} {k : Nat} {items : Array Value} {x : Value} {Q : Option Value → Shared → Prop} (hit : RevAt s.heap I t k) (ht : IsTup s.heap t items) (hx : items[k]? = some x) (h63 : (items.size : Int) < 2 ^ 63)
    (hQ : ∀ h', RevAt h' I t ((k : Int) - 1) → Heap.SameBut I s.heap h' → Q (some x) { s with heap := h', toks := s.toks + 1 }) : wpAny (model prog w) A (pyNext (.ref I)) Q E s := by
  refine nextR_of hit ?_
  obtain ⟨o, ho, hc, hd⟩ := hit
  have hk : k < items.size := (Array.getElem?_eq_some_iff.mp hx).1
  show wpAny _ _ (field (.ref I) 0 >>= _) _ _ s
  refine wpAny_bind (wpAny_field ho hd (x := .ref t) rfl (wpAny_bind (wpAny_field ho hd (x := .int k 0) rfl ?_)))
  dsimp only
  rw [if_neg (by omega)]
  refine wpAny_bind (wpAny_specialOf ht.typeIs PyProof.Rows.slot_tuple_getitem.lookup ?_)
  simp only [Option.isNone_some, Bool.false_eq_true, if_false]
  refine wpAny_bind (wpAny_mkInt (wpAny_bind (wpAny_attempt ?_)))
  refine getItem_tuple (s := { s with toks := s.toks + 1 }) ht (by omega) (by omega) (j := k) ?_ hx ?_
  · unfold seqIndex?
    simp
    omega
  refine wpAny_bind (wpAny_field (s := { s with toks := s.toks + 1 }) ho hd (x := .int k 0) rfl ?_)
  dsimp only
  refine wpAny_bind (wpAny_setField ho hd (by simp) (wpAny_pure ⟨x, rfl, hQ _ ?_ (Heap.SameBut.update ..)⟩))
  exact ⟨_, Heap.get?_update_self _ ho (Obj.isFreed_of_fields (Obj.data_mapFields hd _)), (Obj.cls_mapFields ..).trans hc, by rw [Obj.data_mapFields hd]; simp [rawInt]⟩
theorem nextR_end (hh : A.handled = none) {I t : Addr} {Q : Option Value → Shared → Prop} (hit : RevAt s.heap I t (-1))
    (hQ : ∀ h', (∀ b o, b ≠ I → s.heap.get? b = some o → h'.get? b = some o) → Q none { s with heap := h' }) : wpAny (model prog w) A (pyNext (.ref I)) Q E s := by
  refine nextR_of hit ?_
  obtain ⟨o, ho, hc, hd⟩ := hit
  show wpAny _ _ (field (.ref I) 0 >>= _) _ _ s
  refine wpAny_bind (wpAny_field ho hd (x := .ref t) rfl (wpAny_bind (wpAny_field ho hd (x := .int (-1) 0) rfl ?_)))
  dsimp only
  rw [if_pos (by decide)]
  refine wpAny_bind (wpAny_rule (wpAny_bind ?_))
  show wpAny _ _ (setField (.ref I) 1 (rawInt (-1)) >>= fun _ => setField (.ref I) 0 .none) _ _ _
  refine wpAny_bind (wpAny_setField ho hd (by simp) ?_)
  refine wpAny_setField (Heap.get?_update_self _ ho (Obj.isFreed_of_fields (Obj.data_mapFields hd _))) (Obj.data_mapFields hd _) (by simp) ?_
  refine wpAny_bind ?_
  refine wp_stop (s := { s with heap := _ }) (by simpa using hh) fun h' e k te => ⟨te, hQ h' fun b o hb eb => k b o ?_⟩
  exact (Heap.get?_update_other _ _ (Ne.symm hb)).trans ((Heap.get?_update_other _ _ (Ne.symm hb)).trans eb)
theorem iterR {I t : Addr} {k : Int} (hit : RevAt s.heap I t k) {Q : Value → Shared → Prop} (h : Q (.ref I) s) : wpAny (model prog w) A (pyIter (.ref I)) Q E s := by
  refine wpAny_pyIter_slot hit.is slot_rev_iter (wpAny_call_entry slot_rev_iter hit.is entry_rev_iter ?_ (args_rev_iter _))
  show wpAny _ _ (ret (.ref I)) _ _ s
  exact wpAny_pure ⟨_, rfl, "reversed", _, hit.is, slot_rev_next.lookup, h⟩
theorem walkR (hh : A.handled = none) (I t : Addr) (hI : t ≠ I) {items : Array Value} (h63 : (items.size : Int) < 2 ^ 63) :
    WalksS prog w A I [I, t] [I] (fun a b => b = a) items.size (fun i v => items.toList.reverse[i]? = some v) (fun i s => RevAt s.heap I t ((items.size : Int) - 1 - i) ∧ IsTup s.heap t items) where
  sub := fun b hb => by simp at hb; simp [hb]
  grefl := fun _ => rfl
  gtrans := fun _ _ _ h1 h2 => h2.trans h1
  frame := fun i s h' tk st _ k => ⟨st.1.at fun o e => k I (by simp) o e, let ⟨o, ho, r⟩ := st.2; ⟨o, k t (by simp) o ho, r⟩⟩
  item := fun i s Q E hi st hQ => by
    have e : ((items.size : Int) - 1 - i) = ((items.size - 1 - i : Nat) : Int) := by omega
    have hl : items.size - 1 - i < items.size := by omega
    rw [e] at st
    refine nextR st.1 st.2 (x := items[items.size - 1 - i]) (by simp [hl]) h63 fun h' q sb => ?_
    refine hQ _ _ ?_ ⟨?_, ?_⟩ ⟨fun b o hb e => ?_, rfl, rfl, rfl, Nat.le_succ _⟩
    · rw [List.getElem?_reverse (by simpa using hi)]
      simp [hl]
    · have e2 : ((items.size : Int) - 1 - ((i + 1 : Nat) : Int)) = ((items.size - 1 - i : Nat) : Int) - 1 := by omega
      rw [e2]; exact q
    · obtain ⟨o, ho, r⟩ := st.2
      exact ⟨o, by rw [sb.2 t hI]; exact ho, r⟩
    · rw [sb.2 b (fun z => hb (by simp [z]))]; exact e
  done := fun s Q E st hQ => by
    have e : ((items.size : Int) - 1 - (items.size : Int)) = -1 := by omega
    rw [e] at st
    exact nextR_end hh st.1 fun h' k => hQ _ ⟨fun b o hb e => k b o (fun z => hb (by simp [z])) e, rfl, rfl, rfl, Nat.le_refl _⟩
  self := fun _ _ _ _ st hQ => iterR st.1 hQ
end
end L2

set_option Elab.async false
set_option linter.all false
set_option maxRecDepth 100000
namespace L2
open PySem PySem.Spec PyProof.Rows
section
variable {prog : Program} {w : World} {A : Around} {E : Value → Shared → Prop} {s : Shared}
theorem hintR {I t : Addr} {items : Array Value} (hit : RevAt s.heap I t ((items.size : Int) - 1)) (ht : IsTup s.heap t items) (hn : items.size ≤ sizeLine) {Q : Bool → Shared → Prop}
    (h : ∀ b tk, s.toks ≤ tk → Q b { s with toks := tk }) : wpAny (model prog w) A (Builtin.List.listLengthHint (.ref I)) Q E s := by
  have h63 := line63
  unfold Builtin.List.listLengthHint
  refine wpAny_bind (wpAny_specialOf hit.is no_rev_len ?_)
  show wpAny _ A (specialOf (Value.ref I) (Str.ofString "__length_hint__") >>= _) _ _ _
  refine wpAny_bind (wpAny_specialOf hit.is slot_rev_hint.lookup ?_)
  have esp : splitId "reversed.__length_hint__" = some ("reversed", "__length_hint__") := by decide +kernel
  dsimp only
  rw [esp]
  dsimp only
  refine wpAny_bind (wpAny_isInstance (b := true) hit.is sub_rev ?_)
  simp only [Bool.not_true, Bool.false_eq_true, if_false]
  rw [if_neg (by decide +kernel)]
  refine wpAny_bind (wpAny_rule ?_)
  refine wpAny_bind (wpAny_of_eq (slot_rev_hint.bind (.ref I)) ?_)
  dsimp only
  refine wpAny_bind (wpAny_attempt (wpAny_call_entry slot_rev_hint hit.is entry_rev_hint ?_ (args_rev_hint _)))
  obtain ⟨o, ho, hc, hd⟩ := hit
  show wpAny _ _ (field (.ref I) 0 >>= _) _ _ s
  refine wpAny_bind (wpAny_field ho hd (x := .ref t) rfl ?_)
  rw [if_neg (show ¬ ((Value.ref t == Value.none) = true) from Bool.false_ne_true)]
  refine wpAny_bind (len_tuple ht (by omega) ?_)
  refine wpAny_bind (m := asInt? _) (wpAny_pure ?_)
  dsimp only
  refine wpAny_bind (wpAny_field (s := { s with toks := s.toks + 1 + 1 }) ho hd (x := .int ((items.size : Int) - 1) 0) rfl ?_)
  dsimp only
  rw [if_neg (by omega)]
  refine wpAny_bind (wpAny_mkInt (wpAny_pure ⟨_, rfl, ?_⟩))
  have e0 : (items.size : Int) - 1 + 1 = (items.size : Int) := by omega
  rw [e0]
  dsimp only
  have ea : ∀ (i : Int) (tk : Tok), asInt? (Value.int i tk) = pure (some i) := fun _ _ => rfl
  rw [ea]
  refine wpAny_bind ?_
  refine wpAny_pure ?_
  dsimp only
  have f1 : Builtin.List.listFitsIndex (items.size : Int) = true := by
    unfold Builtin.List.listFitsIndex
    rw [Bool.and_eq_true, decide_eq_true_eq, decide_eq_true_eq]
    omega
  have f2 : Builtin.List.listTooLong ((items.size : Int).toNat) = false := by
    unfold Builtin.List.listTooLong
    rw [decide_eq_false_iff_not]
    omega
  simp only [f1, f2, Bool.not_true, Bool.false_eq_true, if_false]
  rw [if_neg (by omega)]
  exact wpAny_pure (h _ (s.toks + 1 + 1 + 1) (Nat.le_trans (Nat.le_succ _) (Nat.le_trans (Nat.le_succ _) (Nat.le_succ _))))
theorem call_listR {I t : Addr} {items : Array Value} {Q : Value → Shared → Prop} (hh : A.handled = none) (hit : RevAt s.heap I t ((items.size : Int) - 1)) (ht : IsTup s.heap t items) (hI : t ≠ I) (hn : items.size ≤ sizeLine)
    (hQ : ∀ s' l c, s.heap.objs.size ≤ l → (∀ b o, b ≠ I → s.heap.get? b = some o → s'.heap.get? b = some o) → s'.gens = s.gens → s'.os = s.os → s'.heap.get? l = some { cls := .type "list", data := .seq items.toList.reverse.toArray c } → Q (.ref l) s') :
    wpAny (model prog w) A (call (.type "list") [.ref I]) Q E s := by
  have h63 := line63
  have hIs : I < s.heap.objs.size := by obtain ⟨o, ho, _⟩ := hit; exact Heap.lt_size ho
  have hts : t < s.heap.objs.size := by obtain ⟨o, ho, _⟩ := ht; exact Heap.lt_size ho
  refine callType_codes (Q₁ := fun obj s₁ => obj = .ref s.heap.objs.size ∧ s₁ = { s with heap := s.heap.push { cls := .type "list", data := .seq #[] } }) PySem.F.called_list (PySem.F.typeCall_list_1 _) PySem.F.entry_list_init
    (code_list_new _ ⟨rfl, rfl⟩) fun obj s₁ h₁ => ?_
  obtain ⟨rfl, rfl⟩ := h₁
  generalize hH : s.heap.push { cls := .type "list", data := .seq #[] } = H
  have gl : H.get? s.heap.objs.size = some { cls := .type "list", data := .seq #[] } := by rw [← hH]; exact Heap.get?_push_size _ rfl
  have gk : ∀ b o, s.heap.get? b = some o → H.get? b = some o := fun b o e => by rw [← hH]; exact Heap.get?_push_of_some _ e
  refine ⟨⟨_, gl, rfl⟩, PySem.F.args_list_init_2 _ _, ?_⟩
  show wpAny _ _ (do let old ← Builtin.List.listItems (.ref s.heap.objs.size); Builtin.List.listUpdate (.ref s.heap.objs.size) (fun _ => #[]); letGo old.toList.reverse; Builtin.List.listExtendWith (.ref s.heap.objs.size) (.ref I) .none) _ _ _
  refine wpAny_bind ?_
  unfold Builtin.List.listItems
  refine wpAny_bind (wpAny_seqItems gl rfl (wpAny_pure ?_))
  show wpAny _ _ (updateSeq s.heap.objs.size (fun _ => #[]) >>= fun _ => letGo (#[] : Array Value).toList.reverse >>= fun _ => Builtin.List.listExtendWith (.ref s.heap.objs.size) (.ref I) .none) _ _ _
  refine wpAny_bind (wpAny_updateSeq gl rfl (wpAny_bind (wpAny_letGo ?_)))
  have g2 := Heap.get?_update_self (Obj.mapSeq (fun _ => (#[] : Array Value))) gl rfl
  have gk2 : ∀ b o, b ≠ s.heap.objs.size → s.heap.get? b = some o → (H.update s.heap.objs.size (Obj.mapSeq (fun _ => (#[] : Array Value)))).get? b = some o := fun b o hb e => (Heap.get?_update_other _ _ (Ne.symm hb)).trans (gk b o e)
  generalize hH2 : H.update s.heap.objs.size (Obj.mapSeq (fun _ => (#[] : Array Value))) = H2 at g2 gk2 ⊢
  have nI : I ≠ s.heap.objs.size := Nat.ne_of_lt hIs
  have nt : t ≠ s.heap.objs.size := Nat.ne_of_lt hts
  have hit2 : RevAt H2 I t ((items.size : Int) - 1) := hit.at fun o e => gk2 I o nI e
  have ht2 : IsTup H2 t items := let ⟨o, ho, r⟩ := ht; ⟨o, gk2 t o nt ho, r⟩
  unfold Builtin.List.listExtendWith
  refine wpAny_bind (wpAny_typeOf (s := { s with heap := H2 }) hit2.is ?_)
  have n1 : Builtin.List.listSameRef (.ref s.heap.objs.size) (.ref I) = false := by
    simp only [Builtin.List.listSameRef, beq_eq_false_iff_ne]
    exact Ne.symm nI
  have n2 : (Value.type "reversed" == Value.type "list") = false := by decide
  have n3 : (Value.type "reversed" == Value.type "tuple") = false := by decide
  simp only [n1, n2, n3, Bool.or_false, Bool.false_eq_true, if_false]
  refine wpAny_bind (iterR (s := { s with heap := H2 }) hit2 (wpAny_bind (wpAny_holding (hintR (s := { s with heap := H2 }) hit2 ht2 hn fun b tk htk => ?_))))
  have nfp : ¬ s.heap.objs.size ∈ [I, t] := by simp only [List.mem_cons, List.not_mem_nil, or_false, not_or]; exact ⟨Ne.symm nI, Ne.symm nt⟩
  have fin : ∀ (H3 : Heap) (c : Nat), H3.get? s.heap.objs.size = some { cls := .type "list", dict := none, data := .seq #[] c, slots := #[] } → (∀ b o, b ≠ s.heap.objs.size → H2.get? b = some o → H3.get? b = some o) →
      codeAny (model prog w) A.in1 (.builtin "list.extend.loop" ⟨[.ref s.heap.objs.size, .ref I, .none], []⟩) (fun r s' => r = .ok (.ret .none) ∧ Q (.ref s.heap.objs.size) s') { s with heap := H3, toks := tk } := by
    intro H3 c g3 k3
    have W := walkR (prog := prog) (w := w) (A := A.in1.in1) (by simpa using hh) I t hI (items := items) (by omega)
    refine codeAny_extend_loopS W hn _ nfp _ items.size 0 _ #[] c rfl (Nat.zero_le _) ⟨by simpa using hit2.at fun o e => k3 I o nI e, let ⟨o, ho, r⟩ := ht2; ⟨o, k3 t o nt ho, r⟩⟩ g3 (ItemsOf.nil _) fun s' acc c' m gS hacc => ⟨rfl, hQ s' _ c' (Nat.le_refl _) (fun b o hb e => ?_) m.gens m.os ?_⟩
    · have ne : b ≠ s.heap.objs.size := Nat.ne_of_lt (Heap.lt_size e)
      exact m.heap b o (by simp only [List.mem_cons, List.not_mem_nil, or_false, not_or]; exact ⟨ne, hb⟩) (k3 b o ne (gk2 b o ne e))
    · have ea : acc = items.toList.reverse.toArray := by
        apply Array.ext'
        refine List.ext_getElem? fun i => ?_
        by_cases hi : i < items.size
        · have hi' : i < acc.size := by rw [hacc.1]; exact hi
          have q := hacc.2 i acc[i] (by simp [hi'])
          rw [Array.getElem?_toList, Array.getElem?_eq_getElem hi', ← q]
        · rw [List.getElem?_eq_none (by rw [Array.length_toList, hacc.1]; omega), List.getElem?_eq_none (by simp; omega)]
      rw [← ea]; exact gS
  split
  · refine wpAny_bind (wpAny_rule (wpAny_bind ?_))
    show wpAny _ _ (updateSeq s.heap.objs.size (·.push .none) >>= fun _ => updateSeq s.heap.objs.size (·.pop)) _ _ _
    refine wpAny_bind (wpAny_updateSeq (s := { s with heap := H2, toks := tk }) g2 rfl ?_)
    have g3 := Heap.get?_update_self (Obj.mapSeq (·.push Value.none)) g2 rfl
    refine wpAny_updateSeq g3 rfl ?_
    have g4 := Heap.get?_update_self (Obj.mapSeq (·.pop)) g3 rfl
    refine wpAny_pure ⟨plainId_quiet PySem.F.plain_extend_loop _, codeAny_mono (fin _ _ g4 fun b o hb e => (Heap.get?_update_other _ _ (Ne.symm hb)).trans ((Heap.get?_update_other _ _ (Ne.symm hb)).trans e)) fun r s' q => ?_⟩
    obtain ⟨rfl, q⟩ := q
    exact ⟨rfl, q⟩
  · refine wpAny_pure ⟨plainId_quiet PySem.F.plain_extend_loop _, codeAny_mono (fin _ _ g2 fun b o hb e => e) fun r s' q => ?_⟩
    obtain ⟨rfl, q⟩ := q
    exact ⟨rfl, q⟩
end
end L2

set_option Elab.async false
set_option linter.all false
set_option maxRecDepth 100000
namespace L2
open PySem PySem.Spec PyProof.Rows
section
variable {X : Cx} {e : Expr} {te : TE} {xl xr : Str} {p p2 pos pos2 : Pos}
noncomputable def tListRev (K : PySem.W.Frag) (te : TE) : TE := fun σ H Q => te σ H fun x H1 => ∃ a xs, x = .ref a ∧ SqT K H1 a xs ∧ ∀ l, H1 l = none → Q (.ref l) (upd H1 l (.lst xs.reverse))
/-- list(reversed(e)), e a tuple -/
theorem pe_listrev (hc : X.calm = true) (hgl : Gl X xl) (hml : X.mg xl = none) (hvl : bootBuiltins xl = some (.type "list")) (hgr : Gl X xr) (hmr : X.mg xr = none) (hvr : bootBuiltins xr = some (.type "reversed")) (he : PE X e te)
    (hnl : xl ≠ "__name__" := by decide) (hdl : (xl == ("__debug__" : Str)) = false := by decide) (hnr : xr ≠ "__name__" := by decide) (hdr : (xr == ("__debug__" : Str)) = false := by decide)
    (h1 : starEach [.Call (.Name xr p2) [e] [] pos2] X.env = (false, eval (.Call (.Name xr p2) [e] [] pos2) X.env) :: starEach [] X.env := by rfl) (h2 : (backTo pos (starEach [] X.env)).any (·.1) = false := by rfl)
    (h3 : starEach [e] X.env = (false, eval e X.env) :: starEach [] X.env := by rfl) (h4 : (backTo pos2 (starEach [] X.env)).any (·.1) = false := by rfl) :
    PE X (.Call (.Name xl p) [.Call (.Name xr p2) [e] [] pos2] [] pos) (tListRev X.K te) := by
  intro pins s σ H Q I h
  refine wpAny_Call_Name_kw (ld_blt I hgl hml hvl ?_ hnl hdl)
  refine PyProof.Rows.callWith_type1 ?_ h1 h2
  rw [h1]
  show wpAny _ _ (spliced ((false, eval (.Call (.Name xr p2) [e] [] pos2) X.env) :: backTo pos (starEach [] X.env))) _ _ s
  refine Calls.spliced_cons ?_
  refine wpAny_Call_Name_kw (ld_blt I hgr hmr hvr ?_ hnr hdr)
  refine PyProof.Rows.callWith_type1 ?_ h3 h4
  rw [h3]
  show wpAny _ _ (spliced ((false, eval e X.env) :: backTo pos2 (starEach [] X.env))) _ _ s
  refine Calls.spliced_cons (thn (he pins s σ H _ I h) fun u s1 ⟨x, H1, I1, r1, a, xs, ex, hq, q⟩ => ?_)
  subst ex
  cases (show u = Value.ref a from r1)
  obtain ⟨its, r', pl, hz⟩ := I1.tuple hq
  have hlen := r'.length
  have h63 := line63
  refine Calls.spliced_nil (call_rev pl (by simp only [List.size_toArray]; omega) (Calls.spliced_nil ?_))
  have hlt : a < s1.heap.objs.size := by obtain ⟨o, ho, _⟩ := pl; exact Heap.lt_size ho
  refine call_listR (s := { s1 with heap := s1.heap.push (revObj a its.toArray.size), toks := s1.toks + 1 + 1 }) (items := its.toArray) (I.ok.hd hc) ⟨_, Heap.get?_push_size _ rfl, rfl, rfl⟩ (let ⟨o, ho, r⟩ := pl; ⟨o, Heap.get?_push_of_some _ ho, r⟩) (Nat.ne_of_lt hlt)
    (by simp only [List.size_toArray]; omega) fun s' l c hl k kg ko hg => ?_
  have hsz : s1.heap.objs.size ≤ l := Nat.le_trans (by show _ ≤ (s1.heap.push _).objs.size; rw [Heap.size_push]; exact Nat.le_succ _) hl
  have k' : ∀ b o, s1.heap.get? b = some o → s'.heap.get? b = some o := fun b o e => k b o (Nat.ne_of_lt (Heap.lt_size e)) (Heap.get?_push_of_some _ e)
  have new : ObjOk X.prog X.w (upd H1 l (.lst xs.reverse)) s'.heap l (.lst xs.reverse) := ⟨by rw [List.length_reverse]; exact hz, its.reverse, c, Vals.reverse r', by simpa using hg⟩
  exact ⟨.ref l, _, I1.call' (ch := []) ko (Un.laid k' hsz (I1.hok.fresh hsz)) (I1.hok.laid k' hsz new) (by rw [kg]; exact I1.bare) (fun _ z => nomatch z), rfl, q _ (I1.hok.fresh hsz)⟩
end
end L2

set_option Elab.async false
set_option linter.all false
set_option maxRecDepth 100000
namespace L2
open PySem PySem.Spec PyProof.Rows
/-! ### dict(xs), xs a list of pairs -/
theorem entry_dloop : entryFor table "dict.update.loop" = some Builtin.«dict.update.loop» := entryFor_of_tree (by kernel_rfl)
theorem plain_dloop : plainId "dict.update.loop" = true := by decide +kernel
theorem no_list_keys : typeLookup (.type "list") "keys" = pure none := by rw [typeLookup_type, builtinLookup_eq_fast]; kernel_rfl
section
variable {prog : Program} {w : World} {A : Around} {E : Value → Shared → Prop} {s : Shared}
theorem noKeys {a : Addr} {o : Obj} {xs : Array Value} {k : Nat} {Q : Option Value → Shared → Prop} (hx : s.heap.get? a = some o) (hc : o.cls = .type "list") (hdat : o.data = .seq xs k) (hd : o.dict = none) (hA : A.handled = none)
    (h : ∀ h' tk, (∀ b o, s.heap.get? b = some o → h'.get? b = some o) → Q none { s with heap := h', toks := tk }) : wpAny (model prog w) A (getAttr? (.ref a) "keys") Q E s := by
  obtain ⟨c, dct, dat, sl⟩ := o
  simp only at hc hdat hd
  subst hc hdat hd
  obtain ⟨hp, g, d, tk, os⟩ := s
  have hT : ∀ tk', (⟨hp, g, d, tk', os⟩ : Shared).TypeIs (.ref a) "list" := fun _ => ⟨_, hx, rfl⟩
  have f1 := sub_AttributeError
  have f3 := PySem.F.slot_list_getattribute.lookup
  have f4 := PySem.F.slot_list_getattribute.bind (.ref a)
  have f5 := am_list_getattr_none
  unfold getAttr? getAttrBy? getAttrBy
  repeat (any_goals (first | assumption | exact hT _ | ((with_reducible show wpAny _ _ (call (Value.builtin "list.__getattribute__") _ _) _ _ _); refine call_meets PySem.F.slot_list_getattribute (hT _) am_entry_list_getattribute (PySem.F.args_list_getattribute_2 _ _) (meets_getattribute_miss_list a xs k sl "keys" _ no_list_keys (by decide +kernel) (by size_fits)) ⟨hx, by simpa using hA, fun h' tk' e hx' => ?_⟩) | wp_step))
  obtain ⟨t', u', he⟩ := hx'.there
  show wpAny _ _ (getattributeRaised _ _ _ _ _ _ _) _ _ _
  unfold getattributeRaised
  repeat (any_goals (first | assumption | wp_step))
  exact h _ _ hx'.keeps
theorem codeAny_dloop {K : Type} [DecidableEq K] {knd : KeyKind prog w K} {R : Result → Shared → Prop} {I : Addr} {fp wr : List Addr} {G : Array GenState → Array GenState → Prop} {n : Nat} {P : Nat → Value → Prop} {St : Nat → Shared → Prop}
    (W : WalksS prog w A.in1 I fp wr G n P St) (D : Addr) (hDf : ¬ D ∈ fp) (more : List (K × Value)) (hn : more.length = n) (hsz : n ≤ sizeLine)
    (s0 : Shared) (hP : ∀ i v, P i v → ∃ b ku vu k o m, v = .ref b ∧ ¬ b ∈ wr ∧ b ≠ D ∧ s0.heap.get? b = some o ∧ o.cls = .type "tuple" ∧ o.data = .seq #[ku, vu] m ∧ knd.is k ku = true ∧ more[i]? = some (k, vu)) :
    ∀ (j i : Nat) (s : Shared) (c : Int), n - i = j → i ≤ n → St i s → Moved (D :: wr) G s0 s → s.heap.DictOf knd D (merged [] (more.take i)) →
      (∀ s', Moved (D :: wr) G s0 s' → s'.heap.DictOf knd D (merged [] more) → R (.ok (.ret .none)) s') →
      codeAny (model prog w) A (.builtin "dict.update.loop" ⟨[.ref D, .ref I, .int c 0, .none], []⟩) R s := by
  have hDw : ¬ D ∈ wr := fun z => hDf (W.sub _ z)
  have sub : ∀ b ∈ wr, b ∈ D :: wr := fun b z => List.mem_cons_of_mem _ z
  intro j
  induction j with
  | zero =>
    intro i s c hj hi st m hS hR
    have e : i = n := by omega
    subst e
    refine codeAny_builtin entry_dloop ?_
    rw [Around.under_plainId plain_dloop]
    show wpAny _ A.in1 (pyNext (.ref I) >>= _) _ _ s
    refine wpAny_bind (W.done s _ _ st fun s' m' => ?_)
    show wpAny _ A.in1 (Builtin.Dict.addKeywords D [] >>= fun _ => ret Value.none) _ _ s'
    refine wpAny_bind ?_
    unfold Builtin.Dict.addKeywords
    refine wpAny_pure (wpAny_pure (hR s' (Moved.trans W.gtrans m (m'.mono sub)) ?_))
    rw [← hn, List.take_length] at hS
    obtain ⟨o, es, ep, ho, r⟩ := hS
    exact ⟨o, es, ep, m'.heap D o hDw ho, r⟩
  | succ j ih =>
    intro i s c hj hi st m hS hR
    have lt : i < n := by omega
    refine codeAny_builtin entry_dloop ?_
    rw [Around.under_plainId plain_dloop]
    show wpAny _ A.in1 (pyNext (.ref I) >>= _) _ _ s
    refine wpAny_bind (W.item i s _ _ lt st fun v s' hv st' m' => ?_)
    obtain ⟨b, ku, vu, k, o, z, rfl, hbw, hbD, hb0, hbc, hbd, hk, hm⟩ := hP i v hv
    have hb : s'.heap.get? b = some o := m'.heap b o hbw (m.heap b o (by simp only [List.mem_cons, not_or]; exact ⟨hbD, hbw⟩) hb0)
    have hS' : s'.heap.DictOf knd D (merged [] (more.take i)) := by
      obtain ⟨o, es, ep, ho, r⟩ := hS
      exact ⟨o, es, ep, m'.heap D o hDw ho, r⟩
    dsimp only
    refine wpAny_bind (wpAny_holding ?_)
    refine wpAny_bind (wpAny_tryCatch ?_)
    unfold Builtin.Dict.pairItems
    refine wpAny_bind (wpAny_typeOf ⟨o, hb, hbc⟩ ?_)
    rw [if_pos (by decide)]
    refine wpAny_bind (wpAny_seqItems hb hbd (wpAny_pure ?_))
    show wpAny _ A.in1 (holding [ku, vu] (dictSet D ku vu)) _ _ s'
    unfold dictSet
    refine wpAny_holding (wpAny_holding (wpAny_bind (knd.pyHash hk ?_)))
    have hlen : (merged ([] : List (K × Value)) (more.take i)).length ≤ i := by
      have := merged_length_le ([] : List (K × Value)) (more.take i)
      rw [List.length_take] at this
      simp only [List.length_nil] at this
      omega
    refine wpAny_dictSetHashed_pairs (s := { s' with toks := s'.toks + 1 }) hk hS' (fun h' hd' sb => ?_) (by omega)
    rw [← merged_take_succ [] more i (k, vu) hm] at hd'
    have m2 : Moved (D :: wr) G s0 { s' with heap := h', toks := s'.toks + 1 } := (Moved.trans W.gtrans m (m'.mono sub)).then_heap (Nat.le_succ _) fun b o hb e => by
      rw [sb.2 b (fun z : b = D => hb (by rw [z]; exact List.mem_cons_self))]; exact e
    refine wpAny_pure ⟨plainId_quiet plain_dloop _, ih (i + 1) _ (c + 1) (by omega) lt (W.frame _ s' _ _ st' (Nat.le_succ _) fun b hb o e => ?_) m2 hd' hR⟩
    rw [sb.2 b (fun z : b = D => hDf (by rw [← z]; exact hb))]; exact e
end
end L2

set_option Elab.async false
set_option linter.all false
set_option maxRecDepth 100000
namespace L2
open PySem PySem.Spec PyProof.Rows
section
variable {prog : Program} {w : World} {A : Around} {E : Value → Shared → Prop} {s : Shared}
theorem call_dict_pairs {K : Type} [DecidableEq K] {knd : KeyKind prog w K} {l : Addr} {items : Array Value} {o : Obj} {ne : Nat} {more : List (K × Value)} {Q : Value → Shared → Prop} (hh : A.handled = none)
    (hl : s.heap.get? l = some o) (hlc : o.cls = .type "list") (hld : o.data = .seq items ne) (hln : o.dict = none) (hn : more.length = items.size) (hsz : items.size ≤ sizeLine)
    (hP : ∀ (i : Nat) (v : Value), items[i]? = some v → ∃ b ku vu k o m, v = Value.ref b ∧ s.heap.get? b = some o ∧ o.cls = .type "tuple" ∧ o.data = .seq #[ku, vu] m ∧ knd.is k ku = true ∧ more[i]? = some (k, vu))
    (h : ∀ h' tk, h'.DictOf knd s.heap.objs.size (merged [] more) → (∀ b o, s.heap.get? b = some o → h'.get? b = some o) → Q (.ref s.heap.objs.size) { s with heap := h', toks := tk }) :
    wpAny (model prog w) A (call (.type "dict") [.ref l]) Q E s := by
  refine callType_codes (Q₁ := fun obj s₁ => obj = .ref s.heap.objs.size ∧ s₁ = { s with heap := s.heap.push { cls := .type "dict", data := .dict #[] } }) PySem.F.kt_called_dict (PySem.F.kt_typeCall_dict_1 _) PySem.F.entry_dict_init (kt_code_dict_new _ ⟨rfl, rfl⟩) ?_
  rintro obj s₁ ⟨rfl, rfl⟩
  have hnew : (s.heap.push { cls := .type "dict", data := .dict #[] }).DictOf knd s.heap.objs.size [] := Heap.DictOf.new s.heap
  refine ⟨hnew.typeIs, PySem.F.args_dict_init_2 _ _, ?_⟩
  unfold Builtin.«dict.__init__»
  refine wpAny_bind ?_
  unfold Builtin.Dict.selfAndRest
  refine wpAny_bind (wpAny_notOrdered_dict hnew.typeIs ?_)
  show wpAny _ _ (pure (s.heap.objs.size, [Value.ref l])) _ _ _
  refine wpAny_pure ?_
  show wpAny _ _ (Builtin.Dict.updateFrom "dict.__init__" s.heap.objs.size (.ref l) [] .none) _ _ _
  unfold Builtin.Dict.updateFrom
  generalize hH : s.heap.push { cls := .type "dict", data := .dict #[] } = H at hnew ⊢
  have gk : ∀ b o, s.heap.get? b = some o → H.get? b = some o := fun b o e => by rw [← hH]; exact Heap.get?_push_of_some _ e
  refine wpAny_bind (wpAny_typeOf ⟨o, gk _ _ hl, hlc⟩ ?_)
  rw [if_pos (by decide)]
  refine wpAny_bind (noKeys (s := { s with heap := H }) (gk _ _ hl) hlc hld hln (by simpa using hh) fun h1 tk k1 => ?_)
  simp only [Option.isNone_none, if_true]
  refine wpAny_bind (wpAny_rule ?_)
  have hl1 : h1.IsList l items := ⟨o, k1 _ _ (gk _ _ hl), hlc, ne, hld⟩
  refine wpAny_bind (wpAny_pyIter_list (s := { s with heap := h1, toks := tk }) hl1 ?_)
  have lt1 : ∀ b o, s.heap.get? b = some o → b < h1.objs.size := fun b o e => Heap.lt_size (k1 _ _ (gk _ _ e))
  obtain ⟨oD, eD, epD, hoD, rD⟩ := hnew
  have ltD : s.heap.objs.size < h1.objs.size := Heap.lt_size (k1 _ _ hoD)
  have ltl : l < h1.objs.size := lt1 _ _ hl
  have neD : ∀ b o, s.heap.get? b = some o → b ≠ s.heap.objs.size := fun b o e => Nat.ne_of_lt (Heap.lt_size e)
  generalize hJ : h1.push { cls := .type "list_iterator", data := .fields #[.ref l, .int 0 0] } = J
  have k2 : ∀ b o, h1.get? b = some o → J.get? b = some o := fun b o e => by rw [← hJ]; exact Heap.get?_push_of_some _ e
  have nf : ¬ s.heap.objs.size ∈ [h1.objs.size, l] := by
    simp only [List.mem_cons, List.not_mem_nil, or_false, not_or]
    exact ⟨Nat.ne_of_lt ltD, Ne.symm (neD _ _ hl)⟩
  have W := (Walks.list (prog := prog) (w := w) (A := A.in1.in1) (by simpa using hh) h1.objs.size l (Nat.ne_of_lt ltl) items).toS
  refine wpAny_pure ⟨plainId_quiet plain_dloop _, codeAny_mono (codeAny_dloop (knd := knd) (A := A.in1) (R := fun r s' => r = .ok (.ret .none) ∧ Q (.ref s.heap.objs.size) s') W s.heap.objs.size nf more hn hsz { s with heap := J, toks := tk } (fun i v hv => ?_) items.size 0 { s with heap := J, toks := tk } 0 rfl (Nat.zero_le _)
    ⟨⟨_, by rw [← hJ]; exact Heap.get?_push_size _ rfl, rfl, rfl⟩, by rw [← hJ]; exact hl1.push _⟩ (Moved.refl W.grefl) ⟨oD, eD, epD, k2 _ _ (k1 _ _ hoD), rD⟩ fun s' m hd => ⟨rfl, ?_⟩) fun r s' q => ?_⟩
  · obtain ⟨b, ku, vu, k, o, m, e1, e2, e3, e4, e5, e6⟩ := hP i v hv
    refine ⟨b, ku, vu, k, o, m, e1, ?_, neD _ _ e2, k2 _ _ (k1 _ _ (gk _ _ e2)), e3, e4, e5, e6⟩
    simp only [List.mem_cons, List.not_mem_nil, or_false]
    exact Nat.ne_of_lt (lt1 _ _ e2)
  · obtain ⟨h', g', d', tk', os'⟩ := s'
    have eg : g' = s.gens := m.gens
    have ed : d' = s.drawn := m.drawn
    have eo : os' = s.os := m.os
    subst eg
    subst ed
    subst eo
    refine h h' tk' hd fun b o e => m.heap b o ?_ (k2 _ _ (k1 _ _ (gk _ _ e)))
    simp only [List.mem_cons, List.not_mem_nil, or_false, not_or]
    exact ⟨neD _ _ e, Nat.ne_of_lt (lt1 _ _ e)⟩
  · obtain ⟨rfl, q⟩ := q
    exact ⟨rfl, q⟩
end
/-- pairs that lie at places -/
noncomputable def PairsAt (H : Hp) : List Addr → List (Key × V) → Prop
  | [], [] => True
  | q :: qs, kv :: kvs => H q = some (.tup [kV kv.1, kv.2]) ∧ PairsAt H qs kvs
  | _, _ => False
theorem PairsAt.len {H : Hp} : ∀ {qs : List Addr} {kvs : List (Key × V)}, PairsAt H qs kvs → qs.length = kvs.length
  | [], [], _ => rfl
  | _ :: _, _ :: _, h => by rw [List.length_cons, List.length_cons, PairsAt.len h.2]
  | [], _ :: _, h => h.elim
  | _ :: _, [], h => h.elim
theorem PairsAt.mono {H H' : Hp} (k : ∀ b xs, H b = some (.tup xs) → H' b = some (.tup xs)) : ∀ {qs : List Addr} {kvs : List (Key × V)}, PairsAt H qs kvs → PairsAt H' qs kvs
  | [], [], _ => trivial
  | _ :: _, _ :: _, h => ⟨k _ _ h.1, PairsAt.mono k h.2⟩
  | [], _ :: _, h => h.elim
  | _ :: _, [], h => h.elim
theorem PairsAt.snoc {H : Hp} : ∀ {qs : List Addr} {kvs : List (Key × V)} {q : Addr} {k : Key} {v : V}, PairsAt H qs kvs → H q = some (.tup [kV k, v]) → PairsAt H (qs ++ [q]) (kvs ++ [(k, v)])
  | [], [], _, _, _, _, e => ⟨e, trivial⟩
  | _ :: _, _ :: _, _, _, _, h, e => ⟨h.1, PairsAt.snoc h.2 e⟩
  | [], _ :: _, _, _, _, h, _ => h.elim
  | _ :: _, [], _, _, _, h, _ => h.elim
theorem PairsAt.more {P : Program} {w : World} {H : Hp} {h : Heap} (ok : HOk P w H h) : ∀ {qs : List Addr} {kvs : List (Key × V)}, PairsAt H qs kvs →
    ∃ more : List (Key × Value), KV kvs more ∧ ∀ (i : Nat) (q : Addr), qs[i]? = some q → ∃ ku vu k o m, h.get? q = some o ∧ o.cls = .type "tuple" ∧ o.data = .seq #[ku, vu] m ∧ (mixKind P w).is k ku = true ∧ more[i]? = some (k, vu)
  | [], [], _ => ⟨[], .nil, fun i q z => by simp at z⟩
  | q :: qs, kv :: kvs, hh => by
    obtain ⟨more, r, g⟩ := PairsAt.more ok hh.2
    obtain ⟨z, its, rv, ⟨o, ho, hc, m, hd⟩⟩ := ok q _ hh.1
    obtain ⟨ku, vu, rfl, r1, r2⟩ : ∃ ku vu, its = [ku, vu] ∧ RelV (kV kv.1) ku ∧ RelV kv.2 vu := by
      cases rv with
      | cons a t => cases t with
        | cons b t => cases t with
          | nil => exact ⟨_, _, rfl, a, b⟩
    refine ⟨(kv.1, vu) :: more, .cons ⟨rfl, r2⟩ r, fun i q' e => ?_⟩
    cases i with
    | zero =>
      simp at e
      subst e
      exact ⟨ku, vu, kv.1, o, m, ho, hc, hd, kV_is r1, rfl⟩
    | succ i =>
      simp only [List.getElem?_cons_succ] at e ⊢
      exact g i q' e
  | [], _ :: _, hh => hh.elim
  | _ :: _, [], hh => hh.elim
theorem refs_of : ∀ {qs : List Addr} {us : List Value}, Vals (qs.map V.ref) us → us = qs.map Value.ref
  | [], _, .nil => rfl
  | q :: qs, _, .cons (b := u) h t => by
    have e : u = Value.ref q := h
    rw [e, refs_of t]; rfl
section
variable {X : Cx}
/-- dict(xs), xs a list of pairs -/
theorem call_dictP (hc : X.calm = true) : CallR X (.type "dict") (fun xs H Q => ∃ (p : Addr) (qs : List Addr) (kvs : List (Key × V)), xs = [.ref p] ∧ H p = some (.lst (qs.map V.ref)) ∧ PairsAt H qs kvs ∧ ∀ l, H l = none → Q (.ref l) (upd H l (.dK (mergeK [] kvs)))) := by
  intro pins s σ H xs us Q I r h
  obtain ⟨p, qs, kvs, rfl, hp, hq, q⟩ := h
  obtain ⟨u, rfl, rx⟩ := vals1 r
  cases rx
  obtain ⟨z, its, n, r', e⟩ := I.hok p _ hp
  have eits := refs_of r'
  subst eits
  obtain ⟨more, rm, g⟩ := hq.more I.hok
  have hlen := hq.len
  rw [List.length_map] at z
  have lm : more.length = qs.length := by rw [← rm.length, ← hlen]
  refine call_dict_pairs (knd := mixKind X.prog X.w) (items := (qs.map Value.ref).toArray) (more := more) (I.ok.hd hc) e rfl rfl rfl (by simp [lm]) (by simpa using z) (fun i v hv => ?_) fun h' tk dd k => ?_
  · simp only [List.getElem?_toArray, List.getElem?_map, Option.map_eq_some_iff] at hv
    obtain ⟨b, hb, rfl⟩ := hv
    obtain ⟨ku, vu, k, o, m, e1, e2, e3, e4, e5⟩ := g i b hb
    exact ⟨b, ku, vu, k, o, m, rfl, e1, e2, e3, e4, e5⟩
  · have rel : KV (mergeK [] kvs) (merged [] more) := KV.merge rm .nil
    have zl : (mergeK [] kvs).length ≤ sizeLine := by
      rw [rel.length]
      have := merged_length_le ([] : List (Key × Value)) more
      simp only [List.length_nil] at this
      omega
    exact ⟨.ref s.heap.objs.size, _, I.laid k (Nat.le_refl _) (dk_new zl (beq_eq_false_iff_ne.mpr (Ne.symm (Nat.ne_of_lt I.big))) rel dd), rfl, q _ (I.hok.fresh (Nat.le_refl _))⟩
end
end L2

set_option Elab.async false
set_option linter.all false
set_option maxRecDepth 100000
namespace L2
open PySem PySem.Spec PyProof.Rows
section
variable {X : Cx}
/-- t + u, both tuples -/
noncomputable def rCatA (K : PySem.W.Frag) : R2 := fun x y H Q => ∃ a b xs ys, x = .ref a ∧ y = .ref b ∧ SqT K H a xs ∧ SqT K H b ys ∧ xs.length + ys.length ≤ sizeLine ∧ ∀ r H', SqT K H' r (xs ++ ys) → Same H H' → Q (.ref r) H'
theorem op_catA : OpR X (binaryOp .Add) (rCatA X.K) := by
  intro pins s σ H x y v u Q I rx ry h
  obtain ⟨a, b, xs, ys, rfl, rfl, ha, hb, hz, q⟩ := h
  by_cases hx : xs = []
  · subst hx
    cases rx
    cases ry
    obtain ⟨its, r1, p1, _⟩ := I.tuple ha
    obtain ⟨its2, r2, p2, _⟩ := I.tuple hb
    have e0 : its = [] := r1.nil_iff.mpr rfl
    subst e0
    obtain ⟨⟨cls, dd, data, sl⟩, ho, hc, n, hd⟩ := id p1
    obtain ⟨⟨cls2, dd2, data2, sl2⟩, ho2, hc2, n2, hd2⟩ := id p2
    simp only at hc hd hc2 hd2
    subst hc hd hc2 hd2
    exact concat_meets ⟨_, ho, rfl⟩ ⟨_, ho2, rfl⟩ noFill_tuple_add seq_tuple_add PySem.F.slot_tuple_add PySem.F.entry_tuple_add (PySem.F.args_tuple_add_2 _ _)
      (tuple_addW0 a b ([] : List Value).toArray its2.toArray n n2 dd dd2 sl sl2 rfl) ⟨ho, ho2, .ref b, H, I, rfl, q b H hb (Same.refl H)⟩
  · refine op_catT pins s σ H _ _ v u Q I rx ry ⟨a, b, xs, ys, rfl, rfl, ha, hb, hx, hz, fun e => ?_, fun _ p np => ?_⟩
    · subst e
      exact q a H (by rw [List.append_nil]; exact ha) (Same.refl H)
    · exact q p _ (SqT.of upd_same) fun c o e => by rw [upd_ne (ne_of_none e np)]; exact e
theorem bools_of : ∀ {bs : List Bool} {us : List Value}, Vals (bs.map V.bl) us → us = bs.map Value.bool
  | [], _, .nil => rfl
  | b :: bs, _, .cons (b := u) h t => by
    have e : u = Value.bool b := h
    rw [e, bools_of t]; rfl
noncomputable def isT : Value → Bool
  | .bool b => b
  | _ => false
/-- xs.count(True), xs of truths -/
theorem mt_countB : MtM X "list.count" (fun x vs H Q => ∃ (l : Addr) (bs : List Bool), x = .ref l ∧ vs = [.bl true] ∧ H l = some (.lst (bs.map V.bl)) ∧ Q (.int (bs.countP id : Nat)) H) := by
  intro pins s σ H x vs v us Q I rx rv h
  obtain ⟨l, bs, rfl, rfl, hH, q⟩ := h
  cases rx
  obtain ⟨u, rfl, ru⟩ := vals1 rv
  have eu : u = Value.bool true := ru
  subst eu
  obtain ⟨z, its, n, r, hl, e⟩ := I.lstM hH
  have ei := bools_of r
  subst ei
  refine call_meets PySem.F.slot_list_count ⟨_, e, rfl⟩ PySem.F.entry_list_count (PySem.F.args_list_count_2 _ _) (SeqAt.list_countAt l _ n _ _ _ isT) ⟨e, fun y hy => ?_, ?_⟩
  · obtain ⟨b, hb, rfl⟩ := List.mem_map.mp (List.mem_toArray.mp hy)
    have q := eqAt_V (A := X.A.in1) (s := s) (y := .bl b) (x := .bl true) (u := .bool b) (v := .bool true) rfl rfl rfl rfl
    have e2 : eqV (.bl b) (.bl true) = isT (.bool b) := by cases b <;> rfl
    rw [e2] at q
    exact q
  · have e3 : ((bs.map Value.bool).toArray.toList.countP isT) = bs.countP id := by
      rw [List.countP_map]; rfl
    rw [e3]
    exact ⟨.int (bs.countP id : Nat), H, I.tok _, ⟨_, rfl⟩, q⟩
/-- xs.index(True), xs of truths -/
theorem mt_indexB : MtM X "list.index" (fun x vs H Q => ∃ (l : Addr) (bs : List Bool) (j : Nat), x = .ref l ∧ vs = [.bl true] ∧ H l = some (.lst (bs.map V.bl)) ∧ bs[j]? = some true ∧ (∀ m : Nat, m < j → bs[m]? = some false) ∧ Q (.int (j : Nat)) H) := by
  intro pins s σ H x vs v us Q I rx rv h
  obtain ⟨l, bs, j, rfl, rfl, hH, hj, hm, q⟩ := h
  cases rx
  obtain ⟨u, rfl, ru⟩ := vals1 rv
  have eu : u = Value.bool true := ru
  subst eu
  obtain ⟨z, its, n, r, hl, e⟩ := I.lstM hH
  have ei := bools_of r
  subst ei
  have h63 := line63
  rw [List.length_map] at z
  have hjl : j < bs.length := (List.getElem?_eq_some_iff.mp hj).1
  refine call_meets PySem.F.slot_list_index ⟨_, e, rfl⟩ PySem.F.entry_list_index (PySem.F.args_list_index_2 _ _) (SeqAt.list_indexAt l _ n _ _ _ isT j (by simpa using hjl) (by omega) ?_ (fun m hm1 hm2 => ?_)) ⟨e, fun y hy => ?_, ⟨.int (j : Nat), H, I.tok _, ⟨_, rfl⟩, q⟩⟩
  · have := (List.getElem?_eq_some_iff.mp hj).2
    simp [isT, this]
  · have := (List.getElem?_eq_some_iff.mp (hm m hm2)).2
    simp [isT, this]
  · obtain ⟨b, hb, rfl⟩ := List.mem_map.mp (List.mem_toArray.mp hy)
    have q := eqAt_V (A := X.A.in1) (s := s) (y := .bl b) (x := .bl true) (u := .bool b) (v := .bool true) rfl rfl rfl rfl
    have e2 : eqV (.bl b) (.bl true) = isT (.bool b) := by cases b <;> rfl
    rw [e2] at q
    exact q
noncomputable def isX (z : Str) : Value → Bool
  | .str y _ => decide (y = z)
  | _ => false
end
end L2

set_option Elab.async false
set_option linter.all false
set_option maxRecDepth 100000
namespace L2
open PySem PySem.Spec PyProof.Rows
section
variable {X : Cx} {o lo hi : Expr} {to tl th : TE} {pos p2 : Pos}
noncomputable def gSl (to tl th : TE) : TG := fun v σ H Q => to σ H fun ov H1 => tl σ H1 fun a H2 => th σ H2 fun c H3 => ∃ l b xs ys i j, ov = .ref l ∧ v = .ref b ∧ a = .int i ∧ c = .int j ∧ H3 l = some (.lst xs) ∧ H3 b = some (.lst ys) ∧ l ≠ b ∧ 0 ≤ i ∧ i ≤ j ∧ j ≤ (xs.length : Int) ∧
  xs.length + ys.length ≤ sizeLine ∧ Q σ (upd H3 l (.lst (xs.take i.toNat ++ ys ++ xs.drop j.toNat)))
end
end L2

set_option Elab.async false
set_option linter.all false
set_option maxRecDepth 100000
namespace L2
open PySem PySem.Spec PyProof.Rows Builtin Builtin.Str
section
variable {prog : Program} {w : World} {A : Around} {E : Value → Shared → Prop} {s : Shared}
theorem getItem_tuple_all {t sl : Addr} {items : Array Value} {vl vu : Value} {lo hi : Option Int} {Q : Value → Shared → Prop} (ht : IsTup s.heap t items) (hs : s.heap.IsSliceOf sl vl vu .none) (pl : IsPart vl lo) (pu : IsPart vu hi)
    (hw : HT.sIx items.size 0 lo = 0 ∧ HT.sIx items.size items.size hi = items.size) (h : Q (.ref t) s) : wpAny (model prog w) A (getItem (.ref t) (.ref sl)) Q E s := by
  obtain ⟨os, hos, hcs, hds⟩ := id hs
  have hTs : s.TypeIs (.ref sl) "slice" := ⟨os, hos, hcs⟩
  unfold getItem
  try with_reducible refine wpAny_holding ?_
  first | refine wpAny_bind (wpAny_pure ?_) | skip
  refine wpAny_bind (wpAny_sequenceKey ht.typeIs (by decide) ?_)
  refine wpAny_bind (wpAny_callSpecial?_slot (name := Str.ofString "__getitem__") ht.typeIs PyProof.Rows.slot_tuple_getitem
    (wpAny_call_entry PyProof.Rows.slot_tuple_getitem ht.typeIs PyProof.Rows.entry_tuple_getitem ?_ (PyProof.Rows.args_tuple_getitem _ _)))
  show wpAny _ _ (Builtin.Tuple.tupleItemsOf (.ref t) >>= _) _ _ s
  refine wpAny_bind (PyProof.Rows.tupleItemsOf_ ht ?_)
  refine wpAny_bind (wpAny_typeOf hTs ?_)
  rw [if_pos (by decide)]
  refine wpAny_bind (HT.sliceApplied_gen hs pl pu ?_)
  show wpAny _ _ (if (((HT.sIx items.size 0 lo : Nat) : Int) == 0 && (1 : Int) == 1 && (HT.sIx items.size items.size hi - HT.sIx items.size 0 lo) == items.size) = true then _ else _) _ _ s
  rw [hw.1, hw.2, if_pos (by simp)]
  unfold Builtin.Tuple.tupleIsExact
  refine wpAny_bind (wpAny_bind (wpAny_typeOf ht.typeIs (wpAny_pure ?_)))
  rw [if_pos (by decide)]
  first
    | exact wpAny_rule (wpAny_pure ⟨_, rfl, wpAny_pure h⟩)
    | exact wpAny_bind (wpAny_rule (wpAny_pure ⟨_, rfl, wpAny_pure h⟩))
    | exact wpAny_bind (wpAny_pure (wpAny_pure ⟨_, rfl, wpAny_pure h⟩))
end
section
variable {X : Cx}
noncomputable def rCatH : R2 := fun x y H Q => ∃ a b xs ys, x = .ref a ∧ y = .ref b ∧ H a = some (.tup xs) ∧ H b = some (.tup ys) ∧ xs.length + ys.length ≤ sizeLine ∧ ∀ r H', H' r = some (.tup (xs ++ ys)) → Same H H' → Q (.ref r) H'
/-- t + u, both followed, and so what comes of it -/
theorem op_catH : OpR X (binaryOp .Add) rCatH := by
  intro pins s σ H x y v u Q I rx ry h
  obtain ⟨a, b, xs, ys, rfl, rfl, ha', hb', hz, q⟩ := h
  have ha := SqT.of (K := X.K) ha'
  have hb := SqT.of (K := X.K) hb'
  by_cases hx : xs = []
  · subst hx
    cases rx
    cases ry
    obtain ⟨its, r1, p1, _⟩ := I.tuple ha
    obtain ⟨its2, r2, p2, _⟩ := I.tuple hb
    have e0 : its = [] := r1.nil_iff.mpr rfl
    subst e0
    obtain ⟨⟨cls, dd, data, sl⟩, ho, hc, n, hd⟩ := id p1
    obtain ⟨⟨cls2, dd2, data2, sl2⟩, ho2, hc2, n2, hd2⟩ := id p2
    simp only at hc hd hc2 hd2
    subst hc hd hc2 hd2
    exact concat_meets ⟨_, ho, rfl⟩ ⟨_, ho2, rfl⟩ noFill_tuple_add seq_tuple_add PySem.F.slot_tuple_add PySem.F.entry_tuple_add (PySem.F.args_tuple_add_2 _ _)
      (tuple_addW0 a b ([] : List Value).toArray its2.toArray n n2 dd dd2 sl sl2 rfl) ⟨ho, ho2, .ref b, H, I, rfl, q b H hb' (Same.refl H)⟩
  · refine op_catT pins s σ H _ _ v u Q I rx ry ⟨a, b, xs, ys, rfl, rfl, ha, hb, hx, hz, fun e => ?_, fun _ p np => ?_⟩
    · subst e
      exact q a H (by rw [List.append_nil]; exact ha') (Same.refl H)
    · exact q p _ upd_same fun c o e => by rw [upd_ne (ne_of_none e np)]; exact e
noncomputable def rSlA : V → Option Int → Option Int → Hp → VK → Prop := fun x lo hi H Q => ∃ a xs, x = .ref a ∧ H a = some (.tup xs) ∧ ∀ r H', H' r = some (.tup (cutV xs lo hi)) → Same H H' → Q (.ref r) H'
/-- t[lo:hi], be it the whole or not -/
theorem sl_tupA : SlR X rSlA := by
  intro pins s σ H x v vl vu lo hi sl Q I rx hs pl pu h
  obtain ⟨a, xs, rfl, hx', q⟩ := h
  have hx := SqT.of (K := X.K) hx'
  by_cases hw : HT.sIx xs.length 0 lo = 0 ∧ HT.sIx xs.length xs.length hi = xs.length
  · cases rx
    obtain ⟨its, r, ht, hz⟩ := I.tuple hx
    have hlen : its.toArray.size = xs.length := by rw [List.size_toArray]; exact r.length.symm
    refine ⟨"tuple", _, PyProof.Rows.slot_tuple_getitem.lookup, ht.typeIs, ?_⟩
    refine getItem_tuple_all ht hs pl pu (by rw [hlen]; exact hw) ⟨.ref a, H, I, rfl, q a H ?_ (Same.refl H)⟩
    rw [hx']
    unfold cutV
    rw [hw.1, hw.2, List.drop_zero, Nat.sub_zero, List.take_length]
  · exact sl_tup pins s σ H _ v vl vu lo hi sl Q I rx hs pl pu ⟨a, xs, rfl, hx, hw, fun p np => q p _ upd_same fun c o e => by rw [upd_ne (ne_of_none e np)]; exact e⟩
noncomputable def rSlS : V → Option Int → Option Int → Hp → VK → Prop := fun x lo hi H Q => ∃ y, x = .str y ∧ y.length ≤ sizeLine ∧ ∀ z : Str, z.length ≤ y.length → Q (.str z) H
/-- s[lo:hi] of a text: a text no longer than it -/
theorem sl_str : SlR X rSlS := by
  intro pins s σ H x v vl vu lo hi sl Q I rx hs pl pu h
  obtain ⟨y, rfl, hz, q⟩ := h
  obtain ⟨tk, rfl⟩ := (show ∃ t, v = Value.str y t from rx)
  obtain ⟨os, hos, hcs, hds⟩ := id hs
  have part : ∀ {v : Value} {o : Option Int}, IsPart v o → ∃ l : Option (Int × Tok), v = partValue l ∧ l.map (·.1) = o := by
    intro v o h
    cases h with
    | none => exact ⟨none, rfl, rfl⟩
    | int i t => exact ⟨some (i, t), rfl, rfl⟩
  obtain ⟨l, rfl, el⟩ := part pl
  obtain ⟨u, rfl, eu⟩ := part pu
  refine ⟨"str", _, F.slot_str_getitem.lookup, typeIs_str _ _ _, wpAny_getItem_str_slice (l := l) (u := u) (st := none) ⟨os, hos, hcs, hds⟩ rfl ?_⟩
  have le := Txt.slice_le y (l.map (·.1)) (u.map (·.1))
  show (if ((1 : Int) == 1 && (strSliceIndices (l.map (·.1)) (u.map (·.1)) 1 y.length).length == y.length) = true then Made.val (.str y tk) else Made.str ⟨((strSliceIndices (l.map (·.1)) (u.map (·.1)) 1 y.length).filterMap (y.cps[·]?)).toArray⟩).post _ s
  unfold Txt.slice at le
  refine post_val_or_str ?_
  revert le
  generalize (if ((1 : Int) == 1 && (strSliceIndices (l.map (·.1)) (u.map (·.1)) 1 y.length).length == y.length) = true then y else (⟨((strSliceIndices (l.map (·.1)) (u.map (·.1)) 1 y.length).filterMap (y.cps[·]?)).toArray⟩ : Str)) = zz
  intro le
  exact ⟨Nat.le_trans le hz, fun t' k => ⟨.str zz, H, I.tok k, ⟨t', rfl⟩, q zz le⟩⟩
end
end L2

set_option Elab.async false
set_option linter.all false
set_option maxRecDepth 100000
namespace L2
open PySem PySem.Spec PyProof.Rows

/-! ### what comes behind is not looked at -/
noncomputable def S6 (xa xb xc xd xe xf : Option V) : St := [xa, xb, xc, xd, xe, xf]
noncomputable def S7 (xa xb xc xd xe xf xg : Option V) : St := [xa, xb, xc, xd, xe, xf, xg]
noncomputable def S9 (xa xb xc xd xe xf xg xh xi : Option V) : St := [xa, xb, xc, xd, xe, xf, xg, xh, xi]
noncomputable def S10 (xa xb xc xd xe xf xg xh xi xj : Option V) : St := [xa, xb, xc, xd, xe, xf, xg, xh, xi, xj]
noncomputable def S14 (xa xb xc xd xe xf xg xh xi xj xk xl xm xn : Option V) : St := [xa, xb, xc, xd, xe, xf, xg, xh, xi, xj, xk, xl, xm, xn]
noncomputable def S16 (xa xb xc xd xe xf xg xh xi xj xk xl xm xn xo xp : Option V) : St := [xa, xb, xc, xd, xe, xf, xg, xh, xi, xj, xk, xl, xm, xn, xo, xp]
theorem opq {A : Prop} (h : ∀ G : Prop, (A → G) → G) : A := h A fun z => z
section
variable {t u : TS} {D : Ends} {σ : St} {H : Hp}
theorem seqE (h : ∀ E : Ends, (∀ σ' H', u D σ' H' → E.nx σ' H') → t E σ H) : tSeq t u D σ H := h { D with nx := u D } fun _ _ h => h
theorem seqF (h : ∀ F : St → Hp → Prop, (∀ σ' H', u D σ' H' → F σ' H') → t { D with nx := F } σ H) : tSeq t u D σ H := h _ fun _ _ h => h
theorem ifG {c : TT} (h : ∀ F : Bool → Hp → Prop, (∀ b H', (if b = true then t D σ H' else u D σ H') → F b H') → c σ H F) : tIfS c t u D σ H := h _ fun _ _ x => x
theorem ifE {c : TT} (h : ∀ F : Bool → Hp → Prop, (∀ H', t D σ H' → F true H') → (∀ H', u D σ H' → F false H') → c σ H F) : tIfS c t u D σ H := by
  refine h _ (fun H' x => ?_) fun H' x => ?_
  · show if true = true then _ else _
    rw [if_pos rfl]; exact x
  · show if false = true then _ else _
    rw [if_neg (by decide)]; exact x
theorem midE (R : St → Hp → Prop) (h1 : ∀ E : Ends, E.rt = D.rt → (∀ σ' H', R σ' H' → E.nx σ' H') → t E σ H) (h2 : ∀ σ' H', R σ' H' → D.nx σ' H') : tMid t D σ H := ⟨R, h1 { D with nx := R } rfl fun _ _ h => h, h2⟩
theorem whileE {c : TT} {tb : TS} (W : Nat → St → Hp → Prop) (m0 : Nat) (h0 : W m0 σ H)
    (hs : ∀ m σ H, ∀ E : Ends, E.rt = D.rt → (∀ m' σ' H', m' < m → W m' σ' H' → E.nx σ' H') → ∀ F : Bool → Hp → Prop, (∀ H', tb E σ H' → F true H') → (∀ H', D.nx σ H' → F false H') → ∀ G : Prop, (c σ H F → G) → W m σ H → G) : tWhile c tb D σ H := by
  refine ⟨W, ⟨m0, h0⟩, fun m σ H w => ?_⟩
  refine hs m σ H { D with nx := fun σ' H' => ∃ m', m' < m ∧ W m' σ' H', ct := fun σ' H' => ∃ m', m' < m ∧ W m' σ' H', bk := D.nx } rfl (fun m' σ' H' l w' => ⟨m', l, w'⟩) _ (fun H' x => ?_) (fun H' x => ?_) _ (fun z => z) w
  · show if true = true then _ else _
    rw [if_pos rfl]
    exact ⟨_, fun _ _ h => h, x⟩
  · show if false = true then _ else _
    rw [if_neg (by decide)]; exact x
noncomputable def ForW (J : It) (g : TG) (tb : TS) (D : Ends) (σ : St) (H : Hp) : Prop := ∃ W : Nat → Nat → St → Hp → Prop, (∃ m, W 0 m σ H) ∧ ∀ i m σ H, W i m σ H →
  (J.stop i H ∧ D.nx σ H) ∨ (J.go i H ∧ ∃ N : St → Hp → Prop, (∀ σ' H', N σ' H' → ∃ m', m' < m ∧ W (i + 1) m' σ' H') ∧ ∀ x H', J.yld i H x H' → g x σ H' fun σ2 H2 => tb { D with nx := N, ct := N, bk := D.nx } σ2 H2)
theorem forE {wi : TI} {g : TG} {tb : TS} (h : ∀ F : It → Hp → Prop, (∀ J H', ForW J g tb D σ H' → F J H') → wi σ H F) : tFor wi g tb D σ H := h _ fun _ _ z => z
theorem tgE {g : TG} {x : V} {Q : St → Hp → Prop} (h : ∀ F : St → Hp → Prop, (∀ σ' H', Q σ' H' → F σ' H') → g x σ H F) : g x σ H Q := h _ fun _ _ z => z
theorem for_rangeE {lo : Int} {n : Nat} {g : TG} {tb : TS} {D : Ends} {σ : St} {H : Hp} (Pv : Nat → St → Hp → Prop) (h0 : Pv 0 σ H) 
    (hs : ∀ E : Ends, E.rt = D.rt → ∀ i σ H, i < n → (∀ σ' H', Pv (i + 1) σ' H' → E.nx σ' H') → ∀ G : Prop, ((g (.int (lo + i)) σ H fun σ2 H2 => tb E σ2 H2) → G) → Pv i σ H → G) (hd : ∀ σ H, Pv n σ H → D.nx σ H) : ForW (Itr lo n) g tb D σ H :=
  for_range Pv h0 (fun i σ H hi p => hs { D with nx := Pv (i + 1), ct := Pv (i + 1), bk := D.nx } rfl i σ H hi (fun _ _ h => h) _ (fun z => z) p) hd
theorem for_listE {K : PySem.W.Frag} {a : Addr} {xs : List V} {g : TG} {tb : TS} {D : Ends} {σ : St} {H : Hp} (Pv : Nat → St → Hp → Prop) (h0 : Pv 0 σ H) (hl : ∀ i σ H, i ≤ xs.length → Pv i σ H → SqL K H a xs)
    (hs : ∀ E : Ends, E.rt = D.rt → ∀ i x σ H, xs[i]? = some x → (∀ σ' H', Pv (i + 1) σ' H' → E.nx σ' H') → ∀ G : Prop, ((g x σ H fun σ2 H2 => tb E σ2 H2) → G) → Pv i σ H → G) (hd : ∀ σ H, Pv xs.length σ H → D.nx σ H) : ForW (Itl K a) g tb D σ H :=
  for_list Pv h0 hl (fun i x σ H hi p => hs { D with nx := Pv (i + 1), ct := Pv (i + 1), bk := D.nx } rfl i x σ H hi (fun _ _ h => h) _ (fun z => z) p) hd
theorem for_tupE {K : PySem.W.Frag} {a : Addr} {xs : List V} {g : TG} {tb : TS} {D : Ends} {σ : St} {H : Hp} (Pv : Nat → St → Hp → Prop) (h0 : Pv 0 σ H) (hl : ∀ i σ H, i ≤ xs.length → Pv i σ H → SqT K H a xs)
    (hs : ∀ E : Ends, E.rt = D.rt → ∀ i x σ H, xs[i]? = some x → (∀ σ' H', Pv (i + 1) σ' H' → E.nx σ' H') → ∀ G : Prop, ((g x σ H fun σ2 H2 => tb E σ2 H2) → G) → Pv i σ H → G) (hd : ∀ σ H, Pv xs.length σ H → D.nx σ H) : ForW (Itt K a) g tb D σ H :=
  for_tup Pv h0 hl (fun i x σ H hi p => hs { D with nx := Pv (i + 1), ct := Pv (i + 1), bk := D.nx } rfl i x σ H hi (fun _ _ h => h) _ (fun z => z) p) hd
end
end L2

set_option Elab.async false
set_option linter.all false
set_option maxRecDepth 100000
set_option maxHeartbeats 4000000
namespace L2
open PySem PySem.Spec PyProof.Rows PySem.SeqAt
/-! ## [k, j] not in a list of lists of ints -/
section
variable {X : Cx}
noncomputable def IntL (K : PySem.W.Frag) (H : Hp) : List Addr → List (List Int) → Prop
  | [], ll => ll = []
  | q :: qs, ll => ∃ l r, ll = l :: r ∧ SqL K H q (l.map V.int) ∧ IntL K H qs r
theorem eqAt_ints {A : Around} {s : Shared} {i j : Int} {u v : Value} (r1 : RelV (.int i) u) (r2 : RelV (.int j) v) : EqAt A s u v (decide (i = j)) := by
  have h := eqAt_V (A := A) (s := s) r1 r2 rfl rfl
  have e : eqV (.int i) (.int j) = decide (i = j) := by
    simp only [eqV]
    by_cases h : i = j
    · subst h; simp
    · rw [decide_eq_false h]; simpa using h
  rw [← e]; exact h
theorem eqAt_intL {A : Around} {pins : List (Addr × Obj)} {σ : St} {H : Hp} {s : Shared} (I : Inv X pins σ H s) {a b : Addr} {xs ys : List Int} (hne : a ≠ b) (ha : SqL X.K H a (xs.map V.int)) (hb : SqL X.K H b (ys.map V.int)) (hu : A.units < cLine) :
    EqAt A s (.ref a) (.ref b) (decide (xs = ys)) := by
  obtain ⟨ia, ra, pa, _⟩ := I.list ha
  obtain ⟨ib, rb, pb, _⟩ := I.list hb
  have la := ra.length
  have lb := rb.length
  rw [List.length_map] at la lb
  refine .of_refs hne ?_
  by_cases hl : xs.length = ys.length
  · have h := RcAt.lists (A := A) (s := s) (e := fun j => decide (xs[j]? = ys[j]?)) pa.isList pb.isList (by simp; omega) hu (fun j h1 h2 => ?_)
    · have e : ((List.range ia.toArray.size).all fun j => decide (xs[j]? = ys[j]?)) = decide (xs = ys) := by
        have sz : ia.toArray.size = xs.length := by simp; omega
        rw [sz]
        by_cases he : xs = ys
        · subst he; simp
        · rw [decide_eq_false he, Bool.eq_false_iff]
          intro z
          rw [List.all_eq_true] at z
          apply he
          apply List.ext_getElem? 
          intro k
          by_cases hk : k < xs.length
          · exact of_decide_eq_true (z k (List.mem_range.mpr hk))
          · rw [List.getElem?_eq_none (by omega), List.getElem?_eq_none (by omega)]
      rw [← e]; exact h
    · have hj : j < xs.length := by simp at h1; omega
      have hj2 : j < ys.length := by omega
      obtain ⟨u1, q1, r1⟩ := ra.get (i := j) (x := .int xs[j]) (by rw [List.getElem?_map, List.getElem?_eq_getElem hj]; rfl)
      obtain ⟨u2, q2, r2⟩ := rb.get (i := j) (x := .int ys[j]) (by rw [List.getElem?_map, List.getElem?_eq_getElem hj2]; rfl)
      have e1 : ia.toArray[j] = u1 := by
        obtain ⟨_, e⟩ := List.getElem?_eq_some_iff.mp q1
        simpa using e
      have e2 : ib.toArray[j] = u2 := by
        obtain ⟨_, e⟩ := List.getElem?_eq_some_iff.mp q2
        simpa using e
      have e3 : decide (xs[j]? = ys[j]?) = decide (xs[j] = ys[j]) := by
        rw [List.getElem?_eq_getElem hj, List.getElem?_eq_getElem hj2]; simp
      show EqAt A.in1 s ia.toArray[j] ib.toArray[j] (decide (xs[j]? = ys[j]?))
      rw [e1, e2, e3]
      exact eqAt_ints r1 r2
  · rw [decide_eq_false (fun e => hl (by rw [e]))]
    exact RcAt.lists_lengths pa.isList pb.isList (by simp; omega) hu
theorem op_notIn1 (hu : X.A.in1.units < cLine) : OpR X (compareOp .NotIn) (fun x y H Q => ∃ (a p : Addr) (zs : List Int), x = .ref a ∧ y = .ref p ∧ SqL X.K H a (zs.map V.int) ∧ ((SqL X.K H p [] ∧ Q (.bl true) H) ∨ ∃ (q : Addr) (l : List Int), q ≠ a ∧ SqL X.K H p [.ref q] ∧ SqL X.K H q (l.map V.int) ∧ Q (.bl (!decide (l = zs))) H)) := by
  intro pins s σ H x y v u Q I rx ry h
  obtain ⟨a, p, zs, rfl, rfl, ha, h⟩ := h
  cases rx
  cases ry
  rcases h with ⟨hp, q⟩ | ⟨b, l, hne, hp, hb, q⟩
  · obtain ⟨its, r, pl, hz⟩ := I.list hp
    have e0 : its = [] := r.nil_iff.mpr rfl
    subst e0
    refine SeqAt.notIn_listAt (fun _ => false) pl.isList (fun w hw => absurd hw (by simp)) ⟨.bl _, H, I, rfl, ?_⟩
    have e : (!([] : List Value).toArray.any fun _ => false) = true := by simp
    rw [show (V.bl !([] : List Value).toArray.any fun _ => false) = V.bl true from congrArg V.bl e]
    exact q
  · obtain ⟨its, r, pl, hz⟩ := I.list hp
    have hl := r.length
    obtain ⟨w0, e0⟩ : ∃ w0, its = [w0] := by
      match its, hl with
      | [w0], _ => exact ⟨w0, rfl⟩
    subst e0
    obtain ⟨u1, q1, r1⟩ := r.get (i := 0) (x := .ref b) rfl
    have e1 : w0 = u1 := by simpa using q1
    cases (show u1 = Value.ref b from r1)
    subst e1
    refine SeqAt.notIn_listAt (fun _ => decide (l = zs)) pl.isList (fun w hw => ?_) ⟨.bl _, H, I, rfl, ?_⟩
    · have ew : w = Value.ref b := by simpa using hw
      rw [ew]
      exact eqAt_intL I hne hb ha hu
    · have e : ([Value.ref b].toArray.any fun _ => decide (l = zs)) = decide (l = zs) := by simp
      rw [e]
      exact q
end
end L2

set_option Elab.async false
set_option linter.all false
set_option maxRecDepth 100000
set_option maxHeartbeats 4000000
namespace L2
open PySem PySem.Spec PyProof.Rows PySem.SeqAt
/-! ## two things sorted, whose order is known just here -/
section
variable {prog : Program} {w : World} {A : Around} {E : Value → Shared → Prop} {s : Shared}
theorem ltAt_here {st : SortSt} {i j : Nat} {x y p q : Value} {b : Bool} {Q : Option Bool → SortSt → Prop} (hk : kindOf st = oneType') (hi : (arrOf st)[i]? = some (x, p)) (hj : (arrOf st)[j]? = some (y, q))
    (lt : ∀ (E' : Value → Shared → Prop) (Q' : Bool → Shared → Prop), Q' b s → wpAny (model prog w) A (oneLt' true x y) Q' E' s) (h : Q (some b) st) : wpS (model prog w) A E s (ltAt' i j) Q st := by
  rw [ltAt'_eq]
  refine wpS_bind (wpS_get ?_)
  show wpS _ _ _ _ (elem' (arrOf st) i >>= fun x => elem' (arrOf st) j >>= fun y => lt' x y) Q st
  rw [elem'_eq, hi]
  refine wpS_bind (wpS_pure ?_)
  rw [elem'_eq, hj]
  refine wpS_bind (wpS_pure ?_)
  rw [lt'_eq]
  refine wpS_bind (wpS_get ?_)
  rw [hk, keyLt'_oneType]
  refine wpS_bind (wpS_lift (wpAny_attempt (lt _ _ ⟨rfl, ?_⟩)))
  exact wpS_pure h
theorem count2 {st : SortSt} {x y : Value} {b : Bool} {Q : Option Nat → SortSt → Prop} (hk : kindOf st = oneType') (ha : arrOf st = #[(x, x), (y, y)])
    (lt : ∀ (E' : Value → Shared → Prop) (Q' : Bool → Shared → Prop), Q' b s → wpAny (model prog w) A (oneLt' true y x) Q' E' s)
    (h : Q (some 2) (if b then setArr st #[(y, y), (x, x)] else st)) : wpS (model prog w) A E s (countRun' 0 2) Q st := by
  rw [countRun'_eq]
  dsimp only
  refine wpS_bind (wpS_mono (wpS_forRange (I := fun i c st' => st' = st ∧ ((i = 1 ∧ c = (none, 1)) ∨ (i = 2 ∧ b = false ∧ c = (none, 2)))) (Q := fun c st' => st' = st ∧ c = (none, if b then 1 else 2)) ?step ?fin ⟨rfl, .inl ⟨rfl, rfl⟩⟩) ?post)
  case fin =>
    rintro c st' ⟨rfl, ⟨hi, _⟩ | ⟨_, hb, hc⟩⟩
    · exact absurd hi (by decide)
    · exact ⟨rfl, by rw [hc, hb]; rfl⟩
  case step =>
    rintro i c st' h1 h2 ⟨rfl, ⟨rfl, rfl⟩ | ⟨hi, _⟩⟩
    · dsimp only
      refine wpS_bind (ltAt_here (b := b) (x := y) (y := x) (p := y) (q := x) hk (by rw [ha]; rfl) (by rw [ha]; rfl) lt ?_)
      cases b
      · exact wpS_pure ⟨rfl, .inr ⟨rfl, rfl, rfl⟩⟩
      · exact wpS_pure ⟨rfl, rfl⟩
    · omega
  case post =>
    rintro c st' ⟨rfl, rfl⟩
    cases b
    · exact wpS_pure h
    · dsimp only
      rw [if_neg (by decide), if_neg (by decide)]
      refine wpS_bind (wpS_lift (wpAny_rule ⟨rfl, ?_⟩))
      refine wpS_bind (wpS_mono (wpS_forRange (I := fun _ c st1 => st1 = st' ∧ c = (none, 2, 0)) (Q := fun c st1 => st1 = st' ∧ c = (none, 2, 0)) (fun i c st' h1 h2 _ => absurd h1 (by show ¬ 2 ≤ i; omega)) (fun _ _ z => z) ⟨rfl, rfl⟩) ?_)
      rintro c st1 ⟨e1, rfl⟩
      rw [e1]
      dsimp only
      rw [if_neg (by decide)]
      refine wpS_bind (wpS_reverse ?_)
      have hm : mirror (arrOf st') 0 (0 + 2) ((0 + 2 - 0) / 2) = #[(y, y), (x, x)] := by rw [ha]; rfl
      rw [hm]
      refine wpS_bind (wpS_mono (wpS_forRange (I := fun _ c st2 => st2 = setArr st' #[(y, y), (x, x)] ∧ c = (none, 2)) (Q := fun c st2 => st2 = setArr st' #[(y, y), (x, x)] ∧ c = (none, 2)) (fun i c st' h1 h2 _ => absurd h1 (by show ¬ 2 ≤ i; omega)) (fun _ _ z => z) ⟨rfl, rfl⟩) ?_)
      rintro c st2 ⟨rfl, rfl⟩
      exact wpS_pure h
theorem runs2 {st : SortSt} {x y : Value} {b : Bool} {Q : Unit → SortSt → Prop} (hk : kindOf st = oneType') (ha : arrOf st = #[(x, x), (y, y)]) (hp : pendingOf st = #[]) (hf : failedOf st = none)
    (lt : ∀ (E' : Value → Shared → Prop) (Q' : Bool → Shared → Prop), Q' b s → wpAny (model prog w) A (oneLt' true y x) Q' E' s)
    (h : ∀ st', arrOf st' = (if b then #[(y, y), (x, x)] else #[(x, x), (y, y)]) → failedOf st' = none → Q () st') : wpS (model prog w) A E s sortRuns' Q st := by
  rw [sortRuns'_eq]
  refine wpS_bind (wpS_get ?_)
  dsimp only
  have hs : (arrOf st).size = 2 := by rw [ha]; rfl
  have hmr : minRun' 2 2 0 = 2 := by rw [minRun'_succ, if_pos (by decide)]
  rw [hs, hmr]
  refine wpS_bind (wpS_mono (wpS_forRange
    (I := fun i c st' => (i = 0 ∧ c = (none, 0) ∧ st' = st) ∨ (1 ≤ i ∧ c = (none, 2) ∧ arrOf st' = (if b then #[(y, y), (x, x)] else #[(x, x), (y, y)]) ∧ failedOf st' = none ∧ pendingOf st' = #[(0, 2, 0)]))
    (Q := fun c st' => c = (none, 2) ∧ arrOf st' = (if b then #[(y, y), (x, x)] else #[(x, x), (y, y)]) ∧ failedOf st' = none ∧ pendingOf st' = #[(0, 2, 0)]) ?step ?fin (.inl ⟨rfl, rfl, rfl⟩)) ?post)
  case fin =>
    rintro c st' (⟨hi, _⟩ | ⟨_, z⟩)
    · exact absurd hi (by decide)
    · exact z
  case step =>
    rintro i c st' h1 h2 (⟨rfl, rfl, rfl⟩ | ⟨hi, rfl, e1, e2, e3⟩)
    · dsimp only
      rw [if_neg (by decide)]
      refine wpS_bind (count2 (b := b) hk ha lt ?_)
      dsimp only
      rw [if_neg (by decide)]
      refine wpS_bind (wpS_get ?_)
      have hpe : pendingOf (if b = true then setArr st' #[(y, y), (x, x)] else st') = #[] := by cases b <;> exact hp
      have hfe : failedOf (if b = true then setArr st' #[(y, y), (x, x)] else st') = none := by cases b <;> exact hf
      have hae : arrOf (if b = true then setArr st' #[(y, y), (x, x)] else st') = (if b then #[(y, y), (x, x)] else #[(x, x), (y, y)]) := by
        cases b
        · exact ha
        · rfl
      generalize (if b = true then setArr st' #[(y, y), (x, x)] else st') = st2 at hpe hfe hae
      rw [show (pendingOf st2).back? = none by rw [hpe]; rfl]
      dsimp only
      refine wpS_bind (wpS_modify (wpS_pure (.inr ⟨by omega, rfl, hae, hfe, ?_⟩)))
      show (pendingOf st2).push _ = _
      rw [hpe]; rfl
    · dsimp only
      rw [if_pos (by decide)]
      exact wpS_pure ⟨rfl, e1, e2, e3⟩
  case post =>
    rintro c st' ⟨rfl, e1, e2, e3⟩
    dsimp only
    refine wpS_bind (wpS_mono (wpS_forRange (I := fun _ c st'' => st'' = st' ∧ c = (none, ())) (Q := fun c st'' => st'' = st' ∧ c = (none, ())) ?_ (fun _ _ z => z) ⟨rfl, rfl⟩) ?_)
    · rintro i c st'' _ _ ⟨rfl, rfl⟩
      refine wpS_bind (wpS_get ?_)
      rw [if_pos (by rw [e3]; decide)]
      exact wpS_pure ⟨rfl, rfl⟩
    · rintro c st'' ⟨rfl, rfl⟩
      exact wpS_pure (h _ e1 e2)
theorem first_list {x : Addr} {o : Obj} {Q : Option Value → Shared → Prop} (ho : s.heap.get? x = some o) (hc : o.cls = .type "list") (h : Q none s) : wpAny (model prog w) A (firstOfTuple' (.ref x)) Q E s := by
  show wpAny (model prog w) A (typeOf (.ref x) >>= fun T => if (T != .type "tuple") = true then pure none else (Builtin.List.listItems (.ref x) >>= fun l => pure l[0]?)) Q E s
  refine wpAny_bind (wpAny_typeOf (T := "list") (v := .ref x) ⟨o, ho, hc⟩ ?_)
  rw [if_pos (by decide)]
  exact wpAny_pure h
theorem kind2 {x y : Addr} {o u : Obj} {Q : SortKind → Shared → Prop} (hx : s.heap.get? x = some o) (cx : o.cls = .type "list") (hy : s.heap.get? y = some u) (cy : u.cls = .type "list") (h : Q oneType' s) :
    wpAny (model prog w) A (keyKind' [Value.ref x, Value.ref y].toArray) Q E s := by
  rw [keyKind'_eq, List.mapM_toArray]
  simp only [List.mapM_cons, List.mapM_nil]
  refine wpAny_bind (wpAny_bind (wpAny_bind (first_list hx cx ?_)))
  refine wpAny_bind (wpAny_bind (first_list hy cy ?_))
  refine wpAny_bind (wpAny_pure (wpAny_pure (wpAny_pure ?_)))
  show wpAny (model prog w) A (pure ([none, none] : List (Option Value)).toArray) _ E s
  refine wpAny_pure ?_
  rw [if_neg (by simp), if_neg (by simp)]
  refine wpAny_bind ?_
  rw [oneTypeOnly'_eq, List.mapM_toArray]
  simp only [List.mapM_cons, List.mapM_nil]
  refine wpAny_bind (wpAny_bind (wpAny_bind (wpAny_typeOf (T := "list") (v := .ref x) ⟨o, hx, cx⟩ ?_)))
  refine wpAny_bind (wpAny_bind (wpAny_typeOf (T := "list") (v := .ref y) ⟨u, hy, cy⟩ ?_))
  refine wpAny_bind (wpAny_pure (wpAny_pure (wpAny_pure ?_)))
  show wpAny (model prog w) A (pure ([Value.type "list", Value.type "list"] : List Value).toArray) _ E s
  refine wpAny_pure ?_
  have e0 : ([Value.type "list", Value.type "list"] : List Value).toArray[0]? = some (Value.type "list") := rfl
  have e1 : (([Value.type "list", Value.type "list"] : List Value).toArray.all fun x => x == Value.type "list") = true := by simp
  rw [e0]
  dsimp only
  rw [e1, if_pos rfl]
  exact wpAny_pure (wpAny_pure h)
/-- sort of two lists -/
theorem list_sort2 {a x y : Addr} {n : Nat} {o u : Obj} {b : Bool} {P : Fin → Shared → Prop} (ho : s.heap.get? a = some (seqObj "list" [Value.ref x, Value.ref y].toArray n))
    (hx : s.heap.get? x = some o) (cx : o.cls = .type "list") (hy : s.heap.get? y = some u) (cy : u.cls = .type "list") (nx : x ≠ a) (ny : y ≠ a)
    (lt : ∀ (s1 : Shared) (A' : Around) (E' : Value → Shared → Prop) (Q' : Bool → Shared → Prop), (∀ c v, c ≠ a → s.heap.get? c = some v → s1.heap.get? c = some v) → A'.units ≤ A.units + 2 → Q' b s1 → wpAny (model prog w) A' (oneLt' true (.ref y) (.ref x)) Q' E' s1)
    (h : P (.done (.ret .none)) { s with heap := sortedHeap s.heap a [Value.ref x, Value.ref y] (if b then #[Value.ref y, Value.ref x] else #[Value.ref x, Value.ref y]) }) :
    wpAny (model prog w) A (Builtin.«list.sort» ⟨[.ref a], []⟩) P E s := by
  rw [list_sort_plain]
  have la : a < s.heap.objs.size := Heap.lt_size ho
  refine wpAny_bind (listItems_at ho rfl ?_)
  refine wpAny_bind (listUpdate_at ho rfl ?_)
  obtain ⟨e1, h1⟩ : ∃ e1, (s.heap.update a (Obj.mapSeq fun _ => #[])).get? a = some (seqObj "list" #[] e1) := ⟨_, get?_update_seq ho (fun _ => #[])⟩
  refine wpAny_bind (seqEpoch_at h1 rfl ?_)
  refine wpAny_bind (wpAny_newTuple ?_)
  refine wpAny_bind (wpAny_newList ?_)
  refine wpAny_holding ?_
  have g6 : (((s.heap.update a (Obj.mapSeq fun _ => #[])).push (seqObj "tuple" [Value.ref x, Value.ref y].toArray 0)).push (seqObj "list" #[] 0)).get? a = some (seqObj "list" #[] e1) := Heap.get?_push_of_some _ (Heap.get?_push_of_some _ h1)
  have keep : ∀ c v, c ≠ a → s.heap.get? c = some v → (((s.heap.update a (Obj.mapSeq fun _ => #[])).push (seqObj "tuple" [Value.ref x, Value.ref y].toArray 0)).push (seqObj "list" #[] 0)).get? c = some v := fun c v nc e =>
    Heap.get?_push_of_some _ (Heap.get?_push_of_some _ (by rw [Heap.get?_update_ne _ _ _ _ nc]; exact e))
  show wpAny (model prog w) A _ P E { s with heap := ((s.heap.update a (Obj.mapSeq fun _ => #[])).push (seqObj "tuple" [Value.ref x, Value.ref y].toArray 0)).push (seqObj "list" #[] 0) }
  dsimp only
  have sz2 : ¬ [Value.ref x, Value.ref y].toArray.size < 2 := fun z => absurd z (by show ¬ 2 < 2; decide)
  rw [if_neg sz2, if_neg sz2]
  refine wpAny_bind (kind2 (keep _ _ nx hx) cx (keep _ _ ny hy) cy ?_)
  refine wpAny_bind (wpAny_mono (runs2 (b := b) (x := .ref x) (y := .ref y) (Q := fun _ st' => arrOf st' = (if b then #[(Value.ref y, Value.ref y), (Value.ref x, Value.ref x)] else #[(Value.ref x, Value.ref x), (Value.ref y, Value.ref y)]) ∧ failedOf st' = none) rfl (by show ([Value.ref x, Value.ref y].toArray.zip [Value.ref x, Value.ref y].toArray) = _; simp) rfl rfl (fun E' Q' q => lt _ _ E' Q' keep (by omega) q) fun st' q1 q2 => ⟨q1, q2⟩) ?_ fun _ _ e => e)
  rintro ⟨⟨⟩, st'⟩ s' ⟨rfl, q1, q2⟩
  dsimp only
  refine wpAny_bind (seqEpoch_at g6 rfl ?_)
  refine wpAny_bind (listUpdate_at g6 rfl ?_ (hsz2 := by rw [Array.size_map, q1]; cases b <;> (show 2 ≤ sizeLine + 1; rw [sizeLine_eq]; decide)))
  rw [q2]
  simp only [bne_self_eq_false, Bool.false_eq_true, if_false]
  refine wpAny_pure ?_
  have e2 : (arrOf st').map (·.2) = (if b then #[Value.ref y, Value.ref x] else #[Value.ref x, Value.ref y]) := by
    rw [q1]
    cases b <;> simp
  rw [e2]
  exact h
end
end L2

set_option Elab.async false
set_option linter.all false
set_option maxRecDepth 100000
set_option maxHeartbeats 4000000
namespace L2
open PySem PySem.Spec PyProof.Rows PySem.SeqAt
open PySem.AutoSeq1 (wpAny_loadPart')
open PySem.MeetsSeq PySem.MeetsSeq2 PySem.MeetsSeq3 PySem.SeqRoads2
/-! ## < of two lists that differ at a known place -/
theorem lt_loopAt (l b : Addr) (items items2 : Array Value) (n n2 : Nat) (dd dd2 : Option Addr) (sl sl2 : Array (Option Value)) (m : Nat) (z1 : m < items.size) (z2 : m < items2.size) (r : Bool) (k : Nat) :
    ∀ i : Nat, m - i = k → i ≤ m → Meets (Builtin.«list.__eq__.loop» ⟨[.ref l, .ref b, rawInt i, rawInt 0], []⟩)
      (fun A R s => (s.heap.get? l = some { cls := .type "list", dict := dd, data := .seq items n, slots := sl } ∧ s.heap.get? b = some { cls := .type "list", dict := dd2, data := .seq items2 n2, slots := sl2 }) ∧
        (∀ j (hj : j < m), EqAt A.in1 s (items[j]'(Nat.lt_trans hj z1)) (items2[j]'(Nat.lt_trans hj z2)) true) ∧ EqAt A.in1 s items[m] items2[m] false ∧
        (∀ (prog : Program) (w : World) (E : Value → Shared → Prop) (Q : Value → Shared → Prop), Q (.bool r) s → wpAny (model prog w) A.in1 (richCompare .Lt items[m] items2[m]) Q E s) ∧ R (.ok (.ret (.bool r))) s) := by
  induction k with
  | zero =>
    intro i hk hi prog w A R s h
    obtain ⟨hp, g, d, tk, os⟩ := s
    obtain ⟨⟨hl, hb⟩, _, he, hr, h⟩ := h
    have em : i = m := by omega
    subst em
    wp_walk using wpAny_loadPart' hl, wpAny_loadPart' hb
    have i1 : items[((i : Nat) : Int).toNat]? = some items[i] := by simp [z1]
    have i2 : items2[((i : Nat) : Int).toNat]? = some items2[i] := by simp [z2]
    rw [i1, i2]
    refine wpAny_bind (he prog w _ _ ?_)
    wp_walk using wpAny_loadPart' hl, wpAny_loadPart' hb
    rw [i1, i2]
    have hri := hr prog w
    wp_walk using hri
    exact h
  | succ k ih =>
    intro i hk hi prog w A R s h
    obtain ⟨hp, g, d, tk, os⟩ := s
    obtain ⟨⟨hl, hb⟩, hj, he, hr, h⟩ := h
    have lt : i < m := by omega
    wp_walk using wpAny_loadPart' hl, wpAny_loadPart' hb
    have i1 : items[((i : Nat) : Int).toNat]? = some (items[i]'(Nat.lt_trans lt z1)) := by simp [Nat.lt_trans lt z1]
    have i2 : items2[((i : Nat) : Int).toNat]? = some (items2[i]'(Nat.lt_trans lt z2)) := by simp [Nat.lt_trans lt z2]
    have hc : ((i : Int) + 1) = ((i + 1 : Nat) : Int) := by push_cast; rfl
    rw [i1, i2]
    refine wpAny_bind (hj i lt prog w _ _ ?_)
    wp_walk
    rw [hc]
    exact ⟨plainId_quiet plain_eq_loop _, codeAny_builtin entry_eq_loop (by
      rw [Around.under_plainId plain_eq_loop _]
      exact ih (i + 1) (by omega) (by omega) prog w A R _ ⟨⟨hl, hb⟩, hj, he, hr, h⟩)⟩
theorem list_ltAt (l b : Addr) (items items2 : Array Value) (n n2 : Nat) (dd dd2 : Option Addr) (sl sl2 : Array (Option Value)) (m : Nat) (z1 : m < items.size) (z2 : m < items2.size) (r : Bool) :
    Meets (Builtin.«list.__lt__» ⟨[.ref l, .ref b], []⟩)
      (fun A R s => (s.heap.get? l = some { cls := .type "list", dict := dd, data := .seq items n, slots := sl } ∧ s.heap.get? b = some { cls := .type "list", dict := dd2, data := .seq items2 n2, slots := sl2 }) ∧
        (∀ j (hj : j < m), EqAt A.in1 s (items[j]'(Nat.lt_trans hj z1)) (items2[j]'(Nat.lt_trans hj z2)) true) ∧ EqAt A.in1 s items[m] items2[m] false ∧
        (∀ (prog : Program) (w : World) (E : Value → Shared → Prop) (Q : Value → Shared → Prop), Q (.bool r) s → wpAny (model prog w) A.in1 (richCompare .Lt items[m] items2[m]) Q E s) ∧ R (.ok (.ret (.bool r))) s) := by
  intro prog w A R s h
  obtain ⟨hp, g, d, tk, os⟩ := s
  obtain ⟨⟨hl, hb⟩, hj, he, hr, h⟩ := h
  have f3 := AutoSeq1.sub_list_list
  wp_walk using wpAny_loadPart' hl, wpAny_loadPart' hb
  exact ⟨plainId_quiet plain_eq_loop _, codeAny_builtin entry_eq_loop (by
    rw [Around.under_plainId plain_eq_loop _]
    exact lt_loopAt l b items items2 n n2 dd dd2 sl sl2 m z1 z2 r _ 0 rfl (Nat.zero_le _) prog w A R _ ⟨⟨hl, hb⟩, hj, he, hr, h⟩)⟩
section
variable {prog : Program} {w : World} {A : Around} {E : Value → Shared → Prop} {s : Shared}
theorem lt_lists {l b : Addr} {items items2 : Array Value} {m : Nat} {r : Bool} {Q : Value → Shared → Prop} (hl : s.heap.IsList l items) (hb : s.heap.IsList b items2) (z1 : m < items.size) (z2 : m < items2.size) (hu : A.units < cLine)
    (hj : ∀ j (h : j < m), EqAt A.in1 s (items[j]'(Nat.lt_trans h z1)) (items2[j]'(Nat.lt_trans h z2)) true) (he : EqAt A.in1 s items[m] items2[m] false)
    (hr : ∀ (prog : Program) (w : World) (E' : Value → Shared → Prop) (Q' : Value → Shared → Prop), Q' (.bool r) s → wpAny (model prog w) A.in1 (richCompare .Lt items[m] items2[m]) Q' E' s)
    (h : Q (.bool r) s) : wpAny (model prog w) A (richCompare .Lt (.ref l) (.ref b)) Q E s := by
  obtain ⟨⟨cls, dd, data, sl⟩, ho, hc, n, hd⟩ := id hl
  obtain ⟨⟨cls2, dd2, data2, sl2⟩, ho2, hc2, n2, hd2⟩ := id hb
  simp only at hc hd hc2 hd2
  subst hc hd hc2 hd2
  exact richCompare_meets_room (op := .Lt) ⟨_, ho, rfl⟩ ⟨_, ho2, rfl⟩ PySem.F.slot_list_lt PySem.F.entry_list_lt (PySem.F.args_list_lt_2 _ _) (list_ltAt l b items items2 n n2 dd dd2 sl sl2 m z1 z2 r) ⟨⟨ho, ho2⟩, hj, he, hr, show Value.bool r ≠ Value.notImplemented ∧ Q (.bool r) s from ⟨(fun x => nomatch x), h⟩⟩ hu
/-- the order of pairs -/
noncomputable def lt2 (p q : Int × Int) : Bool := if p.1 = q.1 then decide (p.2 < q.2) else decide (p.1 < q.1)
theorem lt_pairs {l b : Addr} {i j i' j' : Int} {t u t' u' : Tok} {Q : Value → Shared → Prop} (hl : s.heap.IsList l #[.int i t, .int j u]) (hb : s.heap.IsList b #[.int i' t', .int j' u']) (hne : (i, j) ≠ (i', j')) (hu : A.units < cLine)
    (h : Q (.bool (lt2 (i, j) (i', j'))) s) : wpAny (model prog w) A (richCompare .Lt (.ref l) (.ref b)) Q E s := by
  by_cases e : i = i'
  · subst e
    have nj : j ≠ j' := fun z => hne (by rw [z])
    refine lt_lists (m := 1) (r := lt2 (i, j) (i, j')) hl hb (by show 1 < 2; decide) (by show 1 < 2; decide) hu (fun k hk => ?_) ?_ (fun prog w E' Q' q => ?_) h
    · have ek : k = 0 := by omega
      subst ek
      have := eqAt_ints (A := A.in1) (s := s) (i := i) (j := i) (u := .int i t) (v := .int i t') ⟨t, rfl⟩ ⟨t', rfl⟩
      simpa using this
    · have := eqAt_ints (A := A.in1) (s := s) (i := j) (j := j') (u := .int j u) (v := .int j' u') ⟨u, rfl⟩ ⟨u', rfl⟩
      rw [decide_eq_false nj] at this
      exact this
    · have e2 : lt2 (i, j) (i, j') = decide (j < j') := if_pos rfl
      rw [e2] at q
      exact (PyProof.Rows.lt_int q : wpAny (model prog w) A.in1 (compareOp .Lt (.int j u) (.int j' u')) Q' E' s)
  · refine lt_lists (m := 0) (r := lt2 (i, j) (i', j')) hl hb (by show 0 < 2; decide) (by show 0 < 2; decide) hu (fun k hk => absurd hk (by omega)) ?_ (fun prog w E' Q' q => ?_) h
    · have := eqAt_ints (A := A.in1) (s := s) (i := i) (j := i') (u := .int i t) (v := .int i' t') ⟨t, rfl⟩ ⟨t', rfl⟩
      rw [decide_eq_false e] at this
      exact this
    · have e2 : lt2 (i, j) (i', j') = decide (i < i') := if_neg e
      rw [e2] at q
      exact (PyProof.Rows.lt_int q : wpAny (model prog w) A.in1 (compareOp .Lt (.int i t) (.int i' t')) Q' E' s)
/-- two things told, each with its place ahead: which is ahead -/
theorem oneLt_dues {x y p q : Addr} {f f' : Value} {i j i' j' : Int} {t u t' u' : Tok} {Q : Bool → Shared → Prop} (hx : s.heap.IsList x #[.ref p, f]) (hy : s.heap.IsList y #[.ref q, f']) (hp : s.heap.IsList p #[.int i t, .int j u]) (hq : s.heap.IsList q #[.int i' t', .int j' u'])
    (hne : (i', j') ≠ (i, j)) (npq : q ≠ p) (hu : A.in1.in1.units < cLine) (hu1 : A.in1.units < cLine) (hu0 : A.units < cLine) (h : Q (lt2 (i', j') (i, j)) s) : wpAny (model prog w) A (oneLt' true (.ref y) (.ref x)) Q E s := by
  rw [oneLt'_eq]
  simp only [if_true]
  refine wpAny_bind (wpAny_cRoomFor hu0 ?_)
  obtain ⟨⟨cls, dd, data, sl⟩, ho, hc, n, hd⟩ := id hy
  obtain ⟨⟨cls2, dd2, data2, sl2⟩, ho2, hc2, n2, hd2⟩ := id hx
  simp only at hc hd hc2 hd2
  subst hc hd hc2 hd2
  have eqp : EqAt A.in1 s (.ref q) (.ref p) false := by
    refine .of_refs npq ?_
    have hl := RcAt.lists (A := A.in1) (s := s) (e := fun k => if k = 0 then decide (i' = i) else decide (j' = j)) hq hp rfl hu1 (fun k h1 h2 => ?_)
    · have e : ((List.range (#[Value.int i' t', Value.int j' u'] : Array Value).size).all fun k => if k = 0 then decide (i' = i) else decide (j' = j)) = false := by
        show ((List.range 2).all fun k => if k = 0 then decide (i' = i) else decide (j' = j)) = false
        rw [show List.range 2 = [0, 1] from rfl]
        simp only [List.all_cons, List.all_nil, if_true, Nat.one_ne_zero, if_false, Bool.and_true]
        by_cases e1 : i' = i
        · by_cases e2 : j' = j
          · exact absurd (by rw [e1, e2]) hne
          · rw [decide_eq_false e2, Bool.and_false]
        · rw [decide_eq_false e1, Bool.false_and]
      rw [e] at hl
      exact hl
    · have hk : k = 0 ∨ k = 1 := by
        have : k < 2 := h1
        omega
      rcases hk with rfl | rfl
      · exact eqAt_ints (i := i') (j := i) (u := .int i' t') (v := .int i t) ⟨t', rfl⟩ ⟨t, rfl⟩
      · exact eqAt_ints (i := j') (j := j) (u := .int j' u') (v := .int j u) ⟨u', rfl⟩ ⟨u, rfl⟩
  refine wpAny_bind (wpAny_callSpecialIfBound?_slot ⟨_, ho, rfl⟩ PySem.F.slot_list_lt (call_meets PySem.F.slot_list_lt ⟨_, ho, rfl⟩ PySem.F.entry_list_lt (PySem.F.args_list_lt_2 _ _)
    (list_ltAt y x #[.ref q, f'] #[.ref p, f] n n2 dd dd2 sl sl2 0 (by show 0 < 2; decide) (by show 0 < 2; decide) (lt2 (i', j') (i, j)))
    ⟨⟨ho, ho2⟩, fun k hk => absurd hk (by omega), eqp, fun prog w E' Q' z => lt_pairs hq hp hne hu1 z, ?_⟩))
  exact wpAny_truthy_bool h
end
end L2

set_option Elab.async false
set_option linter.all false
set_option maxRecDepth 100000
set_option maxHeartbeats 4000000
namespace L2
open PySem PySem.Spec PyProof.Rows PySem.SeqAt
/-! ## sorted(xs), xs one or two lists, each with its own place ahead -/
section
variable {prog : Program} {w : World} {A : Around} {E : Value → Shared → Prop} {s : Shared}
theorem sorted2 {l x y p q : Addr} {f f' : Value} {i j i' j' : Int} {t u t' u' : Tok} {Q : Value → Shared → Prop} (hl : s.heap.IsList l [Value.ref x, Value.ref y].toArray) (hx : s.heap.IsList x #[.ref p, f]) (hy : s.heap.IsList y #[.ref q, f']) (hp : s.heap.IsList p #[.int i t, .int j u]) (hq : s.heap.IsList q #[.int i' t', .int j' u'])
    (hne : (i', j') ≠ (i, j)) (npq : q ≠ p) (hu : A.units + 64 < cLine)
    (h : Q (.ref (s.heap.objs.size + 1)) { s with heap := sortedAll s.heap [Value.ref x, Value.ref y] (if lt2 (i', j') (i, j) then #[Value.ref y, Value.ref x] else #[Value.ref x, Value.ref y]) }) :
    wpAny (model prog w) A (call (.builtin "sorted") [.ref l]) Q E s := by
  refine Calls.call_function_entry kind_sorted plain_sorted entry_sorted (args_sorted1 _) ?_
  unfold Builtin.«sorted»
  refine wpAny_bind (m := checkCount "sorted" 1 1 _) (wpAny_pure ?_)
  refine wpAny_bind (collect_list hl ?_)
  refine wpAny_bind (wpAny_newList ?_)
  have z1 : ((s.heap.push (seqObj "list" #[] 0)).update s.heap.objs.size (Obj.mapSeq (· ++ [Value.ref x, Value.ref y].toArray))).objs.size = s.heap.objs.size + 1 := by rw [Heap.size_update, size_push']
  have g1 : (((s.heap.push (seqObj "list" #[] 0)).update s.heap.objs.size (Obj.mapSeq (· ++ [Value.ref x, Value.ref y].toArray))).push (seqObj "list" [Value.ref x, Value.ref y].toArray 0)).get? (s.heap.objs.size + 1) = some (seqObj "list" [Value.ref x, Value.ref y].toArray 0) := by
    rw [← z1]; exact Heap.get?_push_size _ rfl
  have keep : ∀ c v, s.heap.get? c = some v → (((s.heap.push (seqObj "list" #[] 0)).update s.heap.objs.size (Obj.mapSeq (· ++ [Value.ref x, Value.ref y].toArray))).push (seqObj "list" [Value.ref x, Value.ref y].toArray 0)).get? c = some v := fun c v e =>
    Heap.get?_push_of_some _ (by rw [Heap.get?_update_ne _ _ _ _ (Nat.ne_of_lt (Heap.lt_size e))]; exact Heap.get?_push_of_some _ e)
  show wpAny _ _ _ _ _ { s with heap := ((s.heap.push (seqObj "list" #[] 0)).update s.heap.objs.size (Obj.mapSeq (· ++ [Value.ref x, Value.ref y].toArray))).push (seqObj "list" [Value.ref x, Value.ref y].toArray 0) }
  rw [z1]
  obtain ⟨ox, ex, cx, nx, dx⟩ := id hx
  obtain ⟨oy, ey, cy, ny, dy⟩ := id hy
  obtain ⟨op, ep, cp, np, dp⟩ := id hp
  obtain ⟨oq, eq, cq, nq, dq⟩ := id hq
  refine wpAny_bind (wpAny_holding (wpAny_call_entry slot_list_sort ⟨_, g1, rfl⟩ entry_list_sort (list_sort2 (b := lt2 (i', j') (i, j)) g1 (keep _ _ ex) cx (keep _ _ ey) cy (Nat.ne_of_lt (Nat.lt_succ_of_lt (Heap.lt_size ex))) (Nat.ne_of_lt (Nat.lt_succ_of_lt (Heap.lt_size ey))) (fun s1 A' E' Q' k hA z => ?_) ⟨_, rfl, ?_⟩) (args_list_sort _)))
  · have kk : ∀ c v, s.heap.get? c = some v → s1.heap.get? c = some v := fun c v e => k c v (Nat.ne_of_lt (Nat.lt_succ_of_lt (Heap.lt_size e))) (keep c v e)
    have hA2 : A'.units ≤ A.units + 8 := by
      refine Nat.le_trans hA ?_
      show A.units + 1 + 1 + 2 ≤ A.units + 8
      omega
    refine oneLt_dues (x := x) (y := y) (p := p) (q := q) (f := f) (f' := f') (i := i) (j := j) (i' := i') (j' := j') (t := t) (u := u) (t' := t') (u' := u') ⟨ox, kk _ _ ex, cx, nx, dx⟩ ⟨oy, kk _ _ ey, cy, ny, dy⟩ ⟨op, kk _ _ ep, cp, np, dp⟩ ⟨oq, kk _ _ eq, cq, nq, dq⟩ hne npq ?_ ?_ ?_ z
    · show A'.units + 1 + 1 < cLine; omega
    · show A'.units + 1 < cLine; omega
    · omega
  · exact wpAny_pure ⟨_, rfl, h⟩
end
section
variable {X : Cx}
theorem Inv.list2 {pins : List (Addr × Obj)} {σ : St} {H : Hp} {s : Shared} (I : Inv X pins σ H s) {l : Addr} {a b : V} (h : SqL X.K H l [a, b]) : ∃ u v, RelV a u ∧ RelV b v ∧ s.heap.IsList l #[u, v] := by
  obtain ⟨its, r, pl, _⟩ := I.list h
  cases r with
  | cons ra r2 =>
    cases r2 with
    | cons rb r3 =>
      cases r3 with
      | nil => exact ⟨_, _, ra, rb, pl.isList⟩
/-- sorted(xs), two of them -/
theorem call_sorted2 (hu : X.A.units + 64 < cLine) : CallR X (.builtin "sorted") (fun xs H Q => ∃ (l x y p q : Addr) (f f' : V) (i j i' j' : Int), xs = [.ref l] ∧ SqL X.K H l [.ref x, .ref y] ∧ SqL X.K H x [.ref p, f] ∧ SqL X.K H y [.ref q, f'] ∧ SqL X.K H p [.int i, .int j] ∧ SqL X.K H q [.int i', .int j'] ∧
    (i', j') ≠ (i, j) ∧ q ≠ p ∧ ∀ r, H r = none → Q (.ref r) (upd H r (.lst (if lt2 (i', j') (i, j) then [.ref y, .ref x] else [.ref x, .ref y])))) := by
  intro pins s σ H xs us Q I r h
  obtain ⟨l, x, y, p, q, f, f', i, j, i', j', rfl, hl, hx, hy, hp, hq, hne, npq, k⟩ := h
  obtain ⟨u, rfl, rx⟩ := vals1 r
  cases rx
  obtain ⟨u1, u2, r1, r2, L⟩ := I.list2 hl
  cases (show u1 = Value.ref x from r1)
  cases (show u2 = Value.ref y from r2)
  obtain ⟨u3, u4, r3, r4, Lx⟩ := I.list2 hx
  cases (show u3 = Value.ref p from r3)
  obtain ⟨u5, u6, r5, r6, Ly⟩ := I.list2 hy
  cases (show u5 = Value.ref q from r5)
  obtain ⟨u7, u8, ⟨t7, rfl⟩, ⟨t8, rfl⟩, Lp⟩ := I.list2 hp
  obtain ⟨u9, u10, ⟨t9, rfl⟩, ⟨t10, rfl⟩, Lq⟩ := I.list2 hq
  refine sorted2 (by simpa using L) Lx Ly Lp Lq hne npq hu ?_
  generalize hb : lt2 (i', j') (i, j) = b at k ⊢
  obtain ⟨c, hc⟩ := sortedAll_at s.heap [Value.ref x, Value.ref y] (if b then #[Value.ref y, Value.ref x] else #[Value.ref x, Value.ref y])
  refine ⟨.ref (s.heap.objs.size + 1), _, I.laid (t' := s.toks) (fun _ _ e => sortedAll_old e) (Nat.le_succ _) (show ObjOk X.prog X.w _ _ _ (.lst (if b then [.ref y, .ref x] else [.ref x, .ref y])) from ⟨?_, (if b then [Value.ref y, Value.ref x] else [Value.ref x, Value.ref y]), c, ?_, ?_⟩), rfl, k _ (I.hok.fresh (Nat.le_succ _))⟩
  · cases b <;> (show 2 ≤ sizeLine; decide)
  · cases b
    · exact .cons rfl (.cons rfl .nil)
    · exact .cons rfl (.cons rfl .nil)
  · rw [hc]
    cases b <;> rfl
end
end L2

set_option Elab.async false
set_option linter.all false
set_option maxRecDepth 100000
set_option maxHeartbeats 4000000
namespace L2
open PySem PySem.Spec PyProof.Rows PySem.SeqAt
section
variable {prog : Program} {w : World} {A : Around} {E : Value → Shared → Prop} {s : Shared}
theorem list_sort1 {a : Addr} {v : Value} {n : Nat} {P : Fin → Shared → Prop} (ho : s.heap.get? a = some (seqObj "list" [v].toArray n))
    (h : P (.done (.ret .none)) { s with heap := sortedHeap s.heap a [v] #[v] }) : wpAny (model prog w) A (Builtin.«list.sort» ⟨[.ref a], []⟩) P E s := by
  rw [list_sort_plain]
  refine wpAny_bind (listItems_at ho rfl ?_)
  refine wpAny_bind (listUpdate_at ho rfl ?_)
  obtain ⟨e1, h1⟩ : ∃ e1, (s.heap.update a (Obj.mapSeq fun _ => #[])).get? a = some (seqObj "list" #[] e1) := ⟨_, get?_update_seq ho (fun _ => #[])⟩
  refine wpAny_bind (seqEpoch_at h1 rfl ?_)
  refine wpAny_bind (wpAny_newTuple ?_)
  refine wpAny_bind (wpAny_newList ?_)
  refine wpAny_holding ?_
  have g6 : (((s.heap.update a (Obj.mapSeq fun _ => #[])).push (seqObj "tuple" [v].toArray 0)).push (seqObj "list" #[] 0)).get? a = some (seqObj "list" #[] e1) := Heap.get?_push_of_some _ (Heap.get?_push_of_some _ h1)
  show wpAny (model prog w) A _ P E { s with heap := ((s.heap.update a (Obj.mapSeq fun _ => #[])).push (seqObj "tuple" [v].toArray 0)).push (seqObj "list" #[] 0) }
  dsimp only
  have sz : [v].toArray.size < 2 := by show 1 < 2; decide
  rw [if_pos sz, if_pos sz]
  refine wpAny_bind (wpAny_pure ?_)
  rw [StateT.run_pure]
  refine wpAny_bind (wpAny_pure ?_)
  dsimp only
  refine wpAny_bind (seqEpoch_at g6 rfl ?_)
  have e2 : (arrOf (SortSt.mk' general' ([v].toArray.zip [v].toArray) #[] 7 none)).map (·.2) = #[v] := by
    show ([v].toArray.zip [v].toArray).map (·.2) = #[v]
    simp
  rw [e2]
  refine wpAny_bind (listUpdate_at g6 rfl ?_ (hsz2 := by show 1 ≤ sizeLine + 1; omega))
  simp only [bne_self_eq_false, Bool.false_eq_true, if_false]
  exact wpAny_pure h
theorem sorted1 {l : Addr} {v : Value} {Q : Value → Shared → Prop} (hl : s.heap.IsList l [v].toArray)
    (h : Q (.ref (s.heap.objs.size + 1)) { s with heap := sortedAll s.heap [v] #[v] }) : wpAny (model prog w) A (call (.builtin "sorted") [.ref l]) Q E s := by
  refine Calls.call_function_entry kind_sorted plain_sorted entry_sorted (args_sorted1 _) ?_
  unfold Builtin.«sorted»
  refine wpAny_bind (m := checkCount "sorted" 1 1 _) (wpAny_pure ?_)
  refine wpAny_bind (collect_list hl ?_)
  refine wpAny_bind (wpAny_newList ?_)
  have z1 : ((s.heap.push (seqObj "list" #[] 0)).update s.heap.objs.size (Obj.mapSeq (· ++ [v].toArray))).objs.size = s.heap.objs.size + 1 := by rw [Heap.size_update, size_push']
  have g1 : (((s.heap.push (seqObj "list" #[] 0)).update s.heap.objs.size (Obj.mapSeq (· ++ [v].toArray))).push (seqObj "list" [v].toArray 0)).get? (s.heap.objs.size + 1) = some (seqObj "list" [v].toArray 0) := by
    rw [← z1]; exact Heap.get?_push_size _ rfl
  show wpAny _ _ _ _ _ { s with heap := ((s.heap.push (seqObj "list" #[] 0)).update s.heap.objs.size (Obj.mapSeq (· ++ [v].toArray))).push (seqObj "list" [v].toArray 0) }
  rw [z1]
  refine wpAny_bind (wpAny_holding (wpAny_call_entry slot_list_sort ⟨_, g1, rfl⟩ entry_list_sort (list_sort1 g1 ⟨_, rfl, ?_⟩) (args_list_sort _)))
  exact wpAny_pure ⟨_, rfl, h⟩
end
section
variable {X : Cx}
/-- sorted(xs), one of them, or two -/
noncomputable def rSort (K : PySem.W.Frag) : List V → Hp → VK → Prop := fun xs H Q => ∃ l : Addr, xs = [.ref l] ∧ ((∃ x : Addr, SqL K H l [.ref x] ∧ ∀ r, H r = none → Q (.ref r) (upd H r (.lst [.ref x]))) ∨
  ∃ (x y p q : Addr) (f f' : V) (i j i' j' : Int), SqL K H l [.ref x, .ref y] ∧ SqL K H x [.ref p, f] ∧ SqL K H y [.ref q, f'] ∧ SqL K H p [.int i, .int j] ∧ SqL K H q [.int i', .int j'] ∧
    (i', j') ≠ (i, j) ∧ q ≠ p ∧ ∀ r, H r = none → Q (.ref r) (upd H r (.lst (if lt2 (i', j') (i, j) then [.ref y, .ref x] else [.ref x, .ref y]))))
theorem call_sortedD (hu : X.A.units + 64 < cLine) : CallR X (.builtin "sorted") (rSort X.K) := by
  intro pins s σ H xs us Q I r h
  obtain ⟨l, rfl, h⟩ := h
  rcases h with ⟨x, hl, k⟩ | ⟨x, y, p, q, f, f', i, j, i', j', hl, hx, hy, hp, hq, hne, npq, k⟩
  · obtain ⟨u, rfl, rx⟩ := vals1 r
    cases rx
    obtain ⟨its, r', pl, _⟩ := I.list hl
    cases r' with
    | cons ra r2 =>
      cases r2 with
      | nil =>
        rename_i u1
        cases (show u1 = Value.ref x from ra)
        refine sorted1 (by simpa using pl.isList) ?_
        obtain ⟨c, hc⟩ := sortedAll_at s.heap [Value.ref x] #[Value.ref x]
        exact ⟨.ref (s.heap.objs.size + 1), _, I.laid (t' := s.toks) (fun _ _ e => sortedAll_old e) (Nat.le_succ _) (show ObjOk X.prog X.w _ _ _ (.lst [.ref x]) from ⟨by show 1 ≤ sizeLine; decide, [Value.ref x], c, .cons rfl .nil, hc⟩), rfl, k _ (I.hok.fresh (Nat.le_succ _))⟩
  · exact call_sorted2 hu pins s σ H _ us Q I r ⟨l, x, y, p, q, f, f', i, j, i', j', rfl, hl, hx, hy, hp, hq, hne, npq, k⟩
end
end L2

set_option Elab.async false
set_option linter.all false
set_option maxRecDepth 100000
set_option maxHeartbeats 4000000
namespace L2
open PySem PySem.Spec PyProof.Rows
/-! ## a, b = a list of two -/
section
variable {prog : Program} {w : World} {A : Around} {E : Value → Shared → Prop} {s : Shared}
theorem unpack2 {l : Addr} {x y : Value} {Q : List Value → Shared → Prop} (hh : A.handled = none) (hl : s.heap.IsList l #[x, y])
    (hQ : ∀ h', Heap.ExtBut s.heap.objs.size s.heap h' → Q [x, y] { s with heap := h' }) : wpAny (model prog w) A (unpackItems (.ref l) 2 none) Q E s := by
  have hne : l ≠ s.heap.objs.size := by obtain ⟨o, ho, _⟩ := hl; exact Nat.ne_of_lt (Heap.lt_size ho)
  unfold unpackItems
  refine wpAny_bind ?_
  unfold notIterableAtAll
  refine wpAny_bind (wpAny_specialOf hl.typeIs slot_list_iter.lookup ?_)
  refine wpAny_pure ?_
  simp only [Bool.false_eq_true, if_false]
  refine wpAny_bind (wpAny_holding (wpAny_pyIter_list hl ?_))
  have i0 : (s.heap.push { cls := .type "list_iterator", data := .fields #[.ref l, .int 0 0] }).IsListIter s.heap.objs.size l 0 := ⟨_, Heap.get?_push_size _ rfl, rfl, rfl⟩
  refine wpAny_bind (wpAny_holding ?_)
  show wpAny _ _ (pyNext _ >>= _) _ _ _
  refine wpAny_bind (wpAny_pyNext_list_item i0 (hl.push _) (x := x) rfl fun h1 i1 s1 => ?_)
  have l1 : h1.IsList l #[x, y] := (hl.push _).extBut s1.extBut hne
  refine wpAny_bind (wpAny_holding ?_)
  show wpAny _ _ (pyNext _ >>= _) _ _ _
  refine wpAny_bind (wpAny_pyNext_list_item i1 l1 (x := y) rfl fun h2 i2 s2 => ?_)
  have l2 : h2.IsList l #[x, y] := l1.extBut s2.extBut hne
  refine wpAny_bind (wpAny_holding ?_)
  show wpAny _ _ (pure []) _ _ _
  refine wpAny_pure (wpAny_pure (wpAny_pure ?_))
  rw [if_neg (by show ¬ 2 < 2; decide)]
  refine wpAny_bind (wpAny_holding (wpAny_pyNext_list_end hh i2 l2 rfl fun h3 e3 => ?_))
  simp only [Option.isSome_none, Bool.false_eq_true, if_false]
  refine wpAny_pure (hQ h3 fun b o hb e => e3 b o hb (s2.extBut b o hb (s1.extBut b o hb (Heap.get?_push_of_some _ e))))
end
section
variable {X : Cx} {pos : Pos}
noncomputable def gL2 (K : PySem.W.Frag) (t : TGs) : TG := fun v σ H Q => ∃ a x y, v = .ref a ∧ SqL K H a [x, y] ∧ t [x, y] σ H Q
theorem pg_lst2 {es : List Expr} {k : Nat} {t : TGs} (hc : X.calm = true) (h : PGs X es t)
    (hn : (assignEach es X.env).length = 2 := by rfl) (hst : (assignEach es X.env).findIdx? (·.1) = none := by rfl) : PG X (.Tuple es k pos) (gL2 X.K t) := by
  intro pins s σ H v u Q I r hw
  obtain ⟨a, x, y, e1, hq, hw⟩ := hw
  subst e1
  cases r
  obtain ⟨u1, u2, r1, r2, L⟩ := I.list2 hq
  rw [assign_Tuple]
  refine wpAny_bind (wpAny_standAt ?_)
  unfold unpack
  rw [hn, hst]
  refine wpAny_bind (wpAny_holding (unpack2 (I.ok.hd hc) L fun h' hx => ?_))
  have I1 : Inv X pins σ H { s with heap := h' } := I.kept (t' := s.toks) fun b o e => hx b o (Nat.ne_of_lt (Heap.lt_size e)) e
  exact h pins _ σ H [x, y] _ Q I1 (.cons r1 (.cons r2 .nil)) hw
end
end L2

set_option Elab.async false
set_option linter.all false
set_option maxRecDepth 100000
set_option maxHeartbeats 4000000
namespace K9
open PySem PySem.Spec PyProof.Rows L2
noncomputable def top (i : Nat) : Stmt := PySem.Challenge.pw_againbook_k09_calls_at_any_place.main.body.getD i (.Pass ⟨0, 0, 0, 0⟩)
noncomputable abbrev sBox : Stmt := top 17
noncomputable abbrev sTake : Stmt := top 18
noncomputable abbrev sNames : Stmt := top 19

/-! ### what a box is; what a call leaves -/
noncomputable def But (p : Addr) (H H' : Hp) : Prop := ∀ b o, b ≠ p → H b = some o → H' b = some o
theorem But.refl {p : Addr} {H : Hp} : But p H H := fun _ _ _ h => h
theorem But.trans {p : Addr} {H H1 H2 : Hp} (a : But p H H1) (b : But p H1 H2) : But p H H2 := fun c o n h => b c o n (a c o n h)
theorem But.of_eq {p : Addr} {H H' : Hp} (h : ∀ b, b ≠ p → H' b = H b) : But p H H' := fun b o n e => by rw [h b n]; exact e
theorem But.upd_new {p r : Addr} {H H' : Hp} {o : HO} (a : But p H H') (n : H' r = none) : But p H (upd H' r o) := fun b u nb e => by
  have q := a b u nb e
  rw [upd_ne (ne_of_none q n)]; exact q
theorem But.upd_own {p r : Addr} {H H' : Hp} {o : HO} (a : But p H H') (n : H r = none) : But p H (upd H' r o) := fun b u nb e => by
  rw [upd_ne (ne_of_none e n)]; exact a b u nb e
structure BoxAt (H : Hp) (p : Addr) : Prop where
  ob : ∃ a b : Int, 0 ≤ a ∧ 1 ≤ b ∧ b ≤ 2147483646 ∧ H p = some (.lst [.int a, .int b])
theorem BoxAt.eq {H H' : Hp} {p : Addr} (B : BoxAt H p) (e : H' p = H p) : BoxAt H' p := by
  refine opq fun Gq kq => ?_
  obtain ⟨a, b, h1, h2, h3, h⟩ := B.ob
  refine kq ?_
  clear kq
  exact ⟨a, b, h1, h2, h3, by rw [e]; exact h⟩
theorem BoxAt.upd_new {H : Hp} {p r : Addr} {o : HO} (B : BoxAt H p) (n : H r = none) : BoxAt (upd H r o) p := by
  refine opq fun Gq kq => ?_
  obtain ⟨a, b, h1, h2, h3, h⟩ := B.ob
  refine kq ?_
  clear kq
  exact B.eq (by rw [upd_ne (ne_of_none h n)])
theorem BoxAt.ne {H : Hp} {p r : Addr} (B : BoxAt H p) (n : H r = none) : r ≠ p := by
  refine opq fun Gq kq => ?_
  obtain ⟨a, b, h1, h2, h3, h⟩ := B.ob
  refine kq ?_
  clear kq
  exact Ne.symm (ne_of_none h n)

/-! ### promises -/
noncomputable def spTake : Sp := fun vs H Q _ => ∃ (p : Addr) (w : Int), vs = [.ref p, .int w] ∧ BoxAt H p ∧ 0 < w ∧ w ≤ 1000000000000000000 ∧
  ∀ (d : Int) (H' : Hp), 0 ≤ d → d < w → BoxAt H' p → (∀ b, b ≠ p → H' b = H b) → Q (.int d) H'
noncomputable def spBox (K : PySem.W.Frag) : Sp := fun vs H Q _ => ∃ (a : Addr) (ns : List Int) (k : Int), vs = [.ref a, .int k] ∧ SqL K H a (ns.map V.int) ∧ 0 ≤ k ∧ k < 1000 ∧
  ∀ (r : Addr) (H' : Hp), H r = none → BoxAt H' r → (∀ b, b ≠ r → H' b = H b) → Q (.ref r) H'
theorem ten18 : (10 : Int) ^ (18 : Int).toNat = 1000000000000000000 := by decide
theorem int_at {ns : List Int} {k : Int} (h0 : 0 ≤ k) (h1 : k < (ns.length : Int)) : ∃ v : Int, atI (ns.map V.int) k = some (.int v) := by
  have hk : k.toNat < ns.length := by omega
  have ek : k = ((k.toNat : Nat) : Int) := by omega
  have q : atI (ns.map V.int) ((k.toNat : Nat) : Int) = some (.int ns[k.toNat]) := atI_nat (by rw [List.getElem?_map, List.getElem?_eq_getElem hk]; rfl)
  rw [← ek] at q
  exact ⟨_, q⟩
section
variable {P : Program} {w : World} {K : PySem.W.Frag} {mg : Str → Option Value} {base : Heap}
theorem scTake : FnScope ["_law_box_here", "_law_wide", "_law_digit", "_law_one", "_law_mixed"] ["_law_box_here", "_law_wide"] (defScope sTake) := ⟨rfl, rfl, rfl, by decide +kernel, rfl, by decide +kernel, by decide +kernel⟩
theorem ok_take {f : Addr} {fd : FuncData} (F : Fun K "_law_take" "_law_take" sTake f fd) : FnOk P w K mg base CX0 1 f fd ["_law_box_here", "_law_wide"] spTake := by
  refine F.ok scTake (fun vs H Q E h => ?_) (fun cdv A outer s H vs Q E hr h => ?_)
  · refine opq fun Gq kq => ?_
    obtain ⟨p, w, rfl, _⟩ := h
    refine kq ?_
    clear kq
    rfl
  refine opq fun Gq kq => ?_
  obtain ⟨p, wd, rfl, B, hw0, hw1, q⟩ := h
  refine kq ?_
  clear kq
  refine opq fun Gq kq => ?_
  obtain ⟨a, b, ha, hb1, hb2, hp⟩ := B.ob
  refine kq ?_
  clear kq
  refine ⟨_, pss_cons (ps_if (pt_cmpR op_gt (pe_ix ix_list (pv 0) pe_int (fun _ _ => rfl)) pe_int (nomark _))
      (pss_cons (ps_set (i := 2) scTake.nd rfl (Or.inl rfl) (pe_op op_mod (pe_ix ix_list (pv 0) pe_int (fun _ _ => rfl)) (pv 1)))
      (pss_cons (ps_asg (pe_op op_fdivB (pe_ix ix_list (pv 0) pe_int (fun _ _ => rfl)) (pv 1)) (pg_sub (pv 0) pe_int set_list))
      (pss_one (ps_ret (pv 2))))) pss_nil)
    (pss_cons (ps_set (i := 3) scTake.nd rfl (Or.inl rfl) (pe_op op_mod (pe_op op_mul (pe_ix ix_list (pv 0) pe_int (fun _ _ => rfl)) pe_int) pe_int))
    (pss_cons (ps_asg (pe_op op_add (pe_op op_mod (pe_op op_add (pe_op op_mul (pv 3) pe_int) pe_int) pe_int) pe_int) (pg_sub (pv 0) pe_int set_list))
    (pss_cons (ps_set (i := 4) scTake.nd rfl (Or.inl rfl) (pe_op op_fdivB (pe_op op_add (pe_op op_mul (pv 3) pe_int) (pe_ix ix_list (pv 0) pe_int (fun _ _ => rfl))) pe_int))
    (pss_cons (ps_if (pt_cmpR op_gt (pv 1) (pe_op op_pow pe_int pe_int) (nomark _)) (pss_one (ps_set (i := 4) scTake.nd rfl (Or.inl rfl) (pe_op op_mul (pv 4) (pv 4)))) pss_nil)
    (pss_one (ps_ret (pe_op op_mod (pv 4) (pv 1)))))))), ?_⟩
  refine ⟨_, rfl, p, _, _, _, rfl, rfl, SqL.of hp, rfl, _, _, rfl, rfl, _, rfl, ?_⟩
  refine ite2 (fun c => ?_) (fun c => ?_)
  · have c' : (0 : Int) < a := of_decide_eq_true c
    refine ⟨_, rfl, p, _, _, _, rfl, rfl, SqL.of hp, rfl, _, rfl, _, _, rfl, rfl, hw0, ?_⟩
    refine ⟨_, rfl, p, _, _, _, rfl, rfl, SqL.of hp, rfl, _, rfl, _, _, rfl, rfl, ⟨hw0, hw1⟩, _, rfl, p, _, _, 0, rfl, rfl, hp, rfl, _, rfl, ?_⟩
    refine q (a % wd) _ (Int.emod_nonneg _ (by omega)) (Int.emod_lt_of_pos _ hw0) ⟨a / wd, b, Int.ediv_nonneg ha (by omega), hb1, hb2, upd_same⟩ fun b n => upd_ne n
  · have m0 : 0 ≤ b * 69621 % 2147483647 := Int.emod_nonneg _ (by decide)
    have m1 : b * 69621 % 2147483647 < 2147483647 := Int.emod_lt_of_pos _ (by decide)
    refine ⟨_, rfl, p, _, _, _, rfl, rfl, SqL.of hp, rfl, _, _, rfl, rfl, .inr ⟨by decide, by decide⟩, _, _, rfl, rfl, (by show (0 : Int) < 2147483647; decide), ?_⟩
    refine ⟨_, rfl, _, _, rfl, rfl, .inr ⟨by decide, by decide⟩, _, _, rfl, rfl, _, _, rfl, rfl, (by show (0 : Int) < 2147483646; decide), _, _, rfl, rfl, _, rfl, p, _, _, 1, rfl, rfl, hp, rfl, ?_⟩
    generalize hone : b * 69621 % 2147483647 = one at *
    have n0 : 0 ≤ (one * 48271 + 30103) % 2147483646 := Int.emod_nonneg _ (by decide)
    have n1 : (one * 48271 + 30103) % 2147483646 < 2147483646 := Int.emod_lt_of_pos _ (by decide)
    generalize htwo : (one * 48271 + 30103) % 2147483646 = two at *
    refine ⟨_, rfl, _, _, rfl, rfl, .inr ⟨by decide, by decide⟩, _, rfl, p, _, _, _, rfl, rfl, SqL.of upd_same, rfl, _, _, rfl, rfl, _, _, rfl, rfl, ⟨by decide, by decide⟩, ?_⟩
    have x0 : 0 ≤ (one * 2147483647 + (two + 1)) / 8191 := by omega
    have x1 : (one * 2147483647 + (two + 1)) / 8191 < 18446744073709551616 := by omega
    generalize hmix : (one * 2147483647 + (two + 1)) / 8191 = mix at *
    refine ⟨_, rfl, _, _, rfl, rfl, ⟨by decide, by decide, by decide⟩, _, _, rfl, rfl, _, rfl, ?_⟩
    have B2 : BoxAt (upd H p (.lst [.int a, .int (two + 1)])) p := ⟨a, two + 1, ha, by omega, by omega, upd_same⟩
    refine ite2 (fun c2 => ?_) (fun c2 => ?_)
    · refine ⟨_, rfl, _, rfl, _, _, rfl, rfl, .inl ⟨by omega, by omega⟩, ?_⟩
      refine ⟨_, rfl, _, rfl, _, _, rfl, rfl, hw0, ?_⟩
      exact q _ _ (Int.emod_nonneg _ (by omega)) (Int.emod_lt_of_pos _ hw0) B2 fun b n => upd_ne n
    · refine ⟨_, rfl, _, rfl, _, _, rfl, rfl, hw0, ?_⟩
      exact q _ _ (Int.emod_nonneg _ (by omega)) (Int.emod_lt_of_pos _ hw0) B2 fun b n => upd_ne n
theorem scBox : FnScope ["_law_script", "_law_k", "_law_cell", "_law_seed"] ["_law_script", "_law_k"] (defScope sBox) := ⟨rfl, rfl, rfl, by decide +kernel, rfl, by decide +kernel, by decide +kernel⟩
theorem ok_box {f : Addr} {fd : FuncData} (F : Fun K "_law_box" "_law_box" sBox f fd) (ml : mg "len" = none) (mi : mg "int" = none) : FnOk P w K mg base CX0 1 f fd ["_law_script", "_law_k"] (spBox K) := by
  refine F.ok scBox (fun vs H Q E h => ?_) (fun cdv A outer s H vs Q E hr h => ?_)
  · refine opq fun Gq kq => ?_
    obtain ⟨a, ns, k, rfl, _⟩ := h
    refine kq ?_
    clear kq
    rfl
  refine opq fun Gq kq => ?_
  obtain ⟨a, ns, k, rfl, hS, hk0, hk1, q⟩ := h
  refine kq ?_
  clear kq
  refine ⟨_, pss_cons (ps_set (i := 2) scBox.nd rfl (Or.inl rfl) (pe_op op_add (pe_op op_mul pe_int (pv 1)) pe_int))
    (pss_cons (ps_if (pt_cmpR op_lt (pv 1) (pe_callB call_len_seq rfl ml PySem.boot_len (pa_cons (pv 0) pa_nil)) (nomark _))
      (pss_one (ps_set (i := 2) scBox.nd rfl (Or.inl rfl) (pe_ix ix_list (pv 0) (pv 1) (fun _ _ => rfl))))
      (pss_one (ps_if (pt_cmpR op_gt (pe_callB call_len_seq rfl ml PySem.boot_len (pa_cons (pv 0) pa_nil)) pe_int (nomark _))
        (pss_one (ps_set (i := 2) scBox.nd rfl (Or.inl rfl) (pe_op op_add (pv 2) (pe_op op_mul (pe_op op_mod (pe_ix ix_list (pv 0) (pe_op op_mod (pv 1) (pe_callB call_len_seq rfl ml PySem.boot_len (pa_cons (pv 0) pa_nil))) (fun _ _ => rfl)) pe_int) pe_int)))) pss_nil)))
    (pss_cons (ps_set (i := 3) scBox.nd rfl (Or.inl rfl) (pe_op op_add (pe_op op_mod (pe_op op_add (pe_op op_mul (pe_op op_mod (pv 2) pe_int) pe_int) (pe_op op_mul pe_int (pv 1))) pe_int) pe_int))
    (pss_one (ps_ret (pe_lst (pa_cons (pe_op op_mul (pv 2) (pe_callTy call_int1 rfl mi PyProof.Rows.boot_int (pa_cons (pe_cmpR op_ge (pv 2) (pe_op op_pow pe_int pe_int) (nomark _)) pa_nil))) (pa_cons (pv 3) pa_nil))))))), ?_⟩
  have hl : (ns.map V.int).length = ns.length := List.length_map _
  have tail : ∀ c : Int, ∃ v : V, ∃ x : Int, v = .int x ∧ 1 ≤ x ∧ x ≤ 2147483646 ∧ v = .int ((c % 2147483629 * 48271 + 40692 * k) % 2147483646 + 1) := fun c => by
    have n0 : 0 ≤ (c % 2147483629 * 48271 + 40692 * k) % 2147483646 := Int.emod_nonneg _ (by decide)
    have n1 : (c % 2147483629 * 48271 + 40692 * k) % 2147483646 < 2147483646 := Int.emod_lt_of_pos _ (by decide)
    exact ⟨_, _, rfl, by omega, by omega, rfl⟩
  have fin : ∀ (c : Int) (r : Addr), H r = none → Q (.ref r) (upd H r (.lst [.int (c * (if decide ((10 : Int) ^ (18 : Int).toNat ≤ c) = true then 1 else 0)), .int ((c % 2147483629 * 48271 + 40692 * k) % 2147483646 + 1)])) := fun c r hn => by
    refine q r _ hn ⟨_, _, ?_, ?_, ?_, upd_same⟩ fun b n => upd_ne n
    · rw [ten18]
      by_cases h : (1000000000000000000 : Int) ≤ c
      · rw [decide_eq_true h, if_pos rfl]; omega
      · rw [decide_eq_false h, if_neg Bool.false_ne_true]; omega
    · have n0 : 0 ≤ (c % 2147483629 * 48271 + 40692 * k) % 2147483646 := Int.emod_nonneg _ (by decide)
      omega
    · have n1 : (c % 2147483629 * 48271 + 40692 * k) % 2147483646 < 2147483646 := Int.emod_lt_of_pos _ (by decide)
      omega
  have bnd : ∀ c : Int, CMul c (if decide ((10 : Int) ^ (18 : Int).toNat ≤ c) = true then 1 else 0) := fun c => .inr (by split <;> decide)
  refine ⟨_, rfl, _, _, rfl, rfl, .inl ⟨by decide, by decide⟩, _, _, rfl, rfl, ?_⟩
  refine ⟨_, rfl, _, rfl, a, _, rfl, .inl hS, _, _, rfl, rfl, _, rfl, ?_⟩
  refine ite2 (fun c => ?_) (fun c => ?_)
  · have c' : k < (((ns.map V.int).length : Nat) : Int) := of_decide_eq_true c
    rw [hl] at c'
    obtain ⟨v, hv⟩ := int_at (ns := ns) hk0 c'
    refine ⟨_, rfl, _, rfl, a, _, _, _, rfl, rfl, hS, hv, ?_⟩
    refine ⟨_, rfl, _, _, rfl, rfl, (by show (0 : Int) < 2147483629; decide), _, _, rfl, rfl, .inr ⟨by decide, by decide⟩, _, rfl, _, _, rfl, rfl, .inl ⟨by decide, by decide⟩, _, _, rfl, rfl, _, _, rfl, rfl, (by show (0 : Int) < 2147483646; decide), _, _, rfl, rfl, ?_⟩
    exact ⟨_, rfl, _, rfl, _, _, rfl, rfl, ⟨by decide, by decide, by decide⟩, _, _, rfl, rfl, .inr ⟨_, rfl, _, _, rfl, rfl, bnd v, _, rfl, (by show 2 ≤ sizeLine; decide), fin v⟩⟩
  · have c' : ¬ k < (((ns.map V.int).length : Nat) : Int) := of_decide_eq_false (Bool.eq_false_iff.mpr c)
    rw [hl] at c'
    refine ⟨_, rfl, a, _, rfl, .inl hS, _, _, rfl, rfl, _, rfl, ?_⟩
    refine ite2 (fun c2 => ?_) (fun c2 => ?_)
    · have c3 : (0 : Int) < (((ns.map V.int).length : Nat) : Int) := of_decide_eq_true c2
      obtain ⟨v, hv⟩ := int_at (ns := ns) (k := k % (((ns.map V.int).length : Nat) : Int)) (Int.emod_nonneg _ (by omega)) (by have := Int.emod_lt_of_pos k c3; rw [hl] at this; rw [hl]; exact this)
      refine ⟨_, rfl, _, rfl, _, rfl, _, rfl, a, _, rfl, .inl hS, _, _, rfl, rfl, c3, a, _, _, _, rfl, rfl, hS, hv, _, _, rfl, rfl, (by show (0 : Int) < 2147483629; decide), _, _, rfl, rfl, .inr ⟨by decide, by decide⟩, _, _, rfl, rfl, ?_⟩
      refine ⟨_, rfl, _, _, rfl, rfl, (by show (0 : Int) < 2147483629; decide), _, _, rfl, rfl, .inr ⟨by decide, by decide⟩, _, rfl, _, _, rfl, rfl, .inl ⟨by decide, by decide⟩, _, _, rfl, rfl, _, _, rfl, rfl, (by show (0 : Int) < 2147483646; decide), _, _, rfl, rfl, ?_⟩
      exact ⟨_, rfl, _, rfl, _, _, rfl, rfl, ⟨by decide, by decide, by decide⟩, _, _, rfl, rfl, .inr ⟨_, rfl, _, _, rfl, rfl, bnd _, _, rfl, (by show 2 ≤ sizeLine; decide), fin _⟩⟩
    · refine ⟨_, rfl, _, _, rfl, rfl, (by show (0 : Int) < 2147483629; decide), _, _, rfl, rfl, .inr ⟨by decide, by decide⟩, _, rfl, _, _, rfl, rfl, .inl ⟨by decide, by decide⟩, _, _, rfl, rfl, _, _, rfl, rfl, (by show (0 : Int) < 2147483646; decide), _, _, rfl, rfl, ?_⟩
      exact ⟨_, rfl, _, rfl, _, _, rfl, rfl, ⟨by decide, by decide, by decide⟩, _, _, rfl, rfl, .inr ⟨_, rfl, _, _, rfl, rfl, bnd _, _, rfl, (by show 2 ≤ sizeLine; decide), fin _⟩⟩
noncomputable def NdP (ys : List Str) : Prop := ys.Nodup ∧ ∀ y ∈ ys, 1 ≤ y.length

/-! ### names -/
theorem slen (i j : Str) : (i ++ j).length = i.length + j.length := by
  show (i.cps ++ j.cps).size = i.cps.size + j.cps.size
  exact Array.size_append
theorem line_big : 1000000 ≤ sizeLine := by rw [sizeLine_eq]; decide
theorem keepN {H : Hp} {r b : Addr} {o u : HO} (h : H b = some u) (n : H r = none) : upd H r o b = some u := by rw [upd_ne (ne_of_none h n)]; exact h
theorem str_at {z : Str} {k : Int} (h0 : 0 ≤ k) (h1 : k < (z.length : Int)) : ∃ c : Nat, atI z.cps.toList k = some c := by
  have hl : z.cps.toList.length = z.length := Array.length_toList
  have hk : k.toNat < z.cps.toList.length := by omega
  have ek : k = ((k.toNat : Nat) : Int) := by omega
  have q : atI z.cps.toList ((k.toNat : Nat) : Int) = some z.cps.toList[k.toNat] := atI_nat (List.getElem?_eq_getElem hk)
  rw [← ek] at q
  exact ⟨_, q⟩
theorem txt_at {ys : List Str} {k : Int} (h0 : 0 ≤ k) (h1 : k < (ys.length : Int)) : ∃ y ∈ ys, atI (ys.map V.str) k = some (.str y) := by
  have hk : k.toNat < ys.length := by omega
  have ek : k = ((k.toNat : Nat) : Int) := by omega
  have q : atI (ys.map V.str) ((k.toNat : Nat) : Int) = some (.str ys[k.toNat]) := atI_nat (by rw [List.getElem?_map, List.getElem?_eq_getElem hk]; rfl)
  rw [← ek] at q
  exact ⟨_, List.getElem_mem hk, q⟩
noncomputable def cutS (ss : List Str) (lo hi : Option Int) : List Str := (ss.drop (HT.sIx ss.length 0 lo)).take (HT.sIx ss.length ss.length hi - HT.sIx ss.length 0 lo)
theorem cut_strs (ss : List Str) (lo hi : Option Int) : cutV (ss.map V.str) lo hi = (cutS ss lo hi).map V.str := by
  unfold cutV cutS
  rw [List.length_map, List.map_take, List.map_drop]
theorem cutS_mem {ss : List Str} {lo hi : Option Int} {y : Str} (h : y ∈ cutS ss lo hi) : y ∈ ss := List.mem_of_mem_drop (List.mem_of_mem_take h)
theorem cutS_len (ss : List Str) (lo hi : Option Int) : (cutS ss lo hi).length ≤ ss.length := by
  unfold cutS
  rw [List.length_take, List.length_drop]
  omega
theorem sum_le1 : ∀ {ys : List Str}, (∀ y ∈ ys, y.length ≤ 1) → (ys.map (·.length)).sum ≤ ys.length
  | [], _ => Nat.le_refl _
  | y :: r, h => by
    have h1 := h y List.mem_cons_self
    have h2 := sum_le1 (ys := r) fun z hz => h z (List.mem_cons_of_mem _ hz)
    rw [List.map_cons, List.sum_cons, List.length_cons]
    omega
theorem join_le {z : Str} {ys : List Str} (hz : z.length = 0) (h : ∀ y ∈ ys, y.length ≤ 1) : (Txt.join z ys).length ≤ ys.length := by
  show (Builtin.Str.glued z ys).length ≤ _
  rw [size_glued, hz, Nat.mul_zero, Nat.add_zero]
  exact sum_le1 h
noncomputable def letters : Str := "abcdefghijklmnopqrstuvwxyz"
theorem letters_len : letters.length = 26 := by decide +kernel
noncomputable def spNames : Sp := fun vs H Q _ => ∃ (p : Addr) (n : Int), vs = [.ref p, .int n] ∧ BoxAt H p ∧ 1 ≤ n ∧ n ≤ 20 ∧
  ∀ (r : Addr) (ys : List Str) (H' : Hp), H r = none → H' r = some (.lst (ys.map V.str)) → (ys.length : Int) = n → (∀ y ∈ ys, y.length ≤ 20) → NdP ys → BoxAt H' p → But p H H' → Q (.ref r) H'
theorem scNames : FnScope ["_law_box_here", "_law_total", "_law_letters", "_law_wide", "_law_spot", "_law_signs", "_law_first", "_law_form", "_law_found", "_law_k", "_law_one", "_law_word", "_law_some", "_law_odd"] ["_law_box_here", "_law_total"] (defScope sNames) := ⟨rfl, rfl, rfl, by decide +kernel, rfl, by decide +kernel, by decide +kernel⟩
noncomputable def scopeN__law_k : Scope := { kind := .function, names := [(".0", .local), ("_law_k", .local), ("_law_take", .globalImplicit), ("_law_box_here", .free), ("_law_letters", .free)], isGenerator := false, isCoroutine := false }
theorem ndN__law_k : (["_law_k", "_law_box_here", "_law_letters"] : List Str).Nodup := by decide +kernel
theorem csN__law_k : CompSc ["_law_box_here", "_law_total", "_law_letters", "_law_wide", "_law_spot", "_law_signs", "_law_first", "_law_form", "_law_found", "_law_k", "_law_one", "_law_word", "_law_some", "_law_odd"] (defScope sNames) scopeN__law_k ["_law_k", "_law_box_here", "_law_letters"] 1 [0, 2] := ⟨by decide +kernel, rfl, by decide +kernel, by decide +kernel, by decide +kernel, rfl, by decide +kernel⟩
noncomputable def scopeN__law_j : Scope := { kind := .function, names := [(".0", .local), ("_law_j", .local), ("_law_take", .globalImplicit), ("_law_box_here", .free), ("_law_letters", .free)], isGenerator := false, isCoroutine := false }
theorem ndN__law_j : (["_law_j", "_law_box_here", "_law_letters"] : List Str).Nodup := by decide +kernel
theorem csN__law_j : CompSc ["_law_box_here", "_law_total", "_law_letters", "_law_wide", "_law_spot", "_law_signs", "_law_first", "_law_form", "_law_found", "_law_k", "_law_one", "_law_word", "_law_some", "_law_odd"] (defScope sNames) scopeN__law_j ["_law_j", "_law_box_here", "_law_letters"] 1 [0, 2] := ⟨by decide +kernel, rfl, by decide +kernel, by decide +kernel, by decide +kernel, rfl, by decide +kernel⟩
/-- some letters, drawn one by one -/
theorem draw_letters {p : Addr} {n : Nat} {H0 : Hp} {Qf : List V → Hp → Prop} (hn : n ≤ 20) (B : BoxAt H0 p)
    (hd : ∀ (ss : List Str) (H' : Hp), ss.length = n → (∀ s ∈ ss, s.length ≤ 1) → BoxAt H' p → (∀ b, b ≠ p → H' b = H0 b) → Qf (ss.map V.str) H') :
    CompR (Itr 0 n) 1 [some (.ref p), some (.str letters)] (gName 0) tAll (tOp rIxS (tVar 2) (tCall spTake [] E0 (tCons (tVar 1) (tCons (tC (.int 26)) tNil)))) Qf H0 := by
  refine compR_range (fun i ys H' => ∃ ss : List Str, ys = ss.map V.str ∧ ss.length = i ∧ (∀ s ∈ ss, s.length ≤ 1) ∧ BoxAt H' p ∧ ∀ b, b ≠ p → H' b = H0 b)
    ⟨[], rfl, rfl, (fun _ h => nomatch h), B, fun _ _ => rfl⟩ (Nat.le_trans hn (by decide)) (fun i ys H' ⟨ss, e, l, _⟩ => by rw [e, List.length_map, l]; exact Nat.le_refl _) ?_ ?_
  · intro i ys H' hi hq'
    refine opq fun Gq kq => ?_
    obtain ⟨ss, rfl, hl, h1, B', e'⟩ := hq'
    refine kq ?_
    clear kq
    refine ⟨_, rfl, _, rfl, p, 26, rfl, B', by decide, by decide, fun d H2 d0 d1 B2 e2 => ?_⟩
    obtain ⟨c, hc⟩ := str_at (z := letters) d0 (by rw [letters_len]; exact d1)
    refine ⟨_, _, c, rfl, rfl, by decide, hc, ss ++ [⟨#[c]⟩], by rw [List.map_append]; rfl, by rw [List.length_append, hl]; rfl, fun s hs => ?_, B2, fun b nb => (e2 b nb).trans (e' b nb)⟩
    rcases List.mem_append.mp hs with hs | hs
    · exact h1 s hs
    · rw [List.mem_singleton.mp hs]; exact Nat.le_refl 1
  · intro ys H' hq'
    refine opq fun Gq kq => ?_
    obtain ⟨ss, rfl, hl, h1, B', e'⟩ := hq'
    refine kq ?_
    clear kq
    exact hd ss H' hl h1 B' e'

/-! ### names that differ -/
noncomputable def toL (x : Str) : List Nat := x.cps.toList
theorem toL_app (x y : Str) : toL (x ++ y) = toL x ++ toL y := by
  show (x.cps ++ y.cps).toList = x.cps.toList ++ y.cps.toList
  exact Array.toList_append
theorem toL_len (x : Str) : (toL x).length = x.length := Array.length_toList
theorem toL_one (c : Nat) : toL ⟨#[c]⟩ = [c] := rfl
/-- the i-th letter -/
noncomputable def Let (d4 : Int) (i c : Nat) : Prop := atI letters.cps.toList ((d4 + 5 * (0 + (i : Int))) % 26) = some c
theorem let_nd : letters.cps.toList.Nodup := by decide +kernel
theorem let_ne {d4 : Int} {i j c c' : Nat} (hi : i < 20) (hj : j < 20) (ne : i ≠ j) (h : Let d4 i c) (h' : Let d4 j c') : c ≠ c' := by
  have l26 : letters.cps.toList.length = 26 := by decide +kernel
  have at_ : ∀ {k : Int} {c : Nat}, 0 ≤ k → k < 26 → atI letters.cps.toList k = some c → letters.cps.toList[k.toNat]? = some c := fun {k c} k0 k1 e => by
    unfold atI ixN at e
    rw [if_pos k0, l26, if_pos (by omega)] at e
    exact e
  have m : ∀ k : Nat, 0 ≤ (d4 + 5 * (0 + (k : Int))) % 26 ∧ (d4 + 5 * (0 + (k : Int))) % 26 < 26 := fun k => ⟨Int.emod_nonneg _ (by decide), Int.emod_lt_of_pos _ (by decide)⟩
  have a1 := at_ (m i).1 (m i).2 h
  have a2 := at_ (m j).1 (m j).2 h'
  intro e
  subst e
  obtain ⟨q1, e1⟩ := List.getElem?_eq_some_iff.mp a1
  obtain ⟨q2, e2⟩ := List.getElem?_eq_some_iff.mp a2
  have z := (List.getElem_inj let_nd).mp (e1.trans e2.symm)
  have mi := m i
  have mj := m j
  omega
noncomputable def qq : Str := "qqqqqqq"
/-- what the i-th word is -/
noncomputable def Wd (d5 : Int) (A B : List Nat) (c : Nat) (w : Str) : Prop := (d5 = 2 → ∃ pre, toL w = pre ++ [c]) ∧ (d5 ≠ 2 → (∃ t, toL w = A ++ c :: (B ++ t) ∧ t.length ≤ 1) ∨ toL w = toL qq ++ [c])
theorem wd_ne {d5 : Int} {A B : List Nat} {c c' : Nat} {w w' : Str} (hl : A.length + B.length ≤ 5) (ne : c ≠ c') (h : Wd d5 A B c w) (h' : Wd d5 A B c' w') : w ≠ w' := by
  intro e
  subst e
  have l7 : (toL qq).length = 7 := by decide +kernel
  by_cases h2 : d5 = 2
  · obtain ⟨p, e1⟩ := h.1 h2
    obtain ⟨p', e2⟩ := h'.1 h2
    have := List.append_inj' (e1.symm.trans e2) rfl
    exact ne (by simpa using this.2)
  · rcases h.2 h2 with ⟨t, e1, t1⟩ | e1
    · rcases h'.2 h2 with ⟨t', e2, t2⟩ | e2
      · have := List.append_cancel_left (e1.symm.trans e2)
        exact ne (List.cons.inj this).1
      · have := congrArg List.length (e1.symm.trans e2)
        simp only [List.length_append, List.length_cons, List.length_nil, l7] at this
        omega
    · rcases h'.2 h2 with ⟨t', e2, t2⟩ | e2
      · have := congrArg List.length (e1.symm.trans e2)
        simp only [List.length_append, List.length_cons, List.length_nil, l7] at this
        omega
      · have := List.append_inj' (e1.symm.trans e2) rfl
        exact ne (by simpa using this.2)
noncomputable def Wds (d4 d5 : Int) (A B : List Nat) (ys : List Str) : Prop := ∀ k y, ys[k]? = some y → ∃ c, Let d4 k c ∧ Wd d5 A B c y
theorem wds_nd {d4 d5 : Int} {A B : List Nat} {ys : List Str} (hl : A.length + B.length ≤ 5) (hn : ys.length ≤ 20) (h : Wds d4 d5 A B ys) : ys.Nodup := by
  refine List.pairwise_iff_getElem.mpr fun i j hi hj hij => ?_
  obtain ⟨c, l1, w1⟩ := h i _ (List.getElem?_eq_getElem hi)
  obtain ⟨c', l2, w2⟩ := h j _ (List.getElem?_eq_getElem hj)
  exact wd_ne hl (let_ne (by omega) (by omega) (Nat.ne_of_lt hij) l1 l2) w1 w2
theorem wds_snoc {d4 d5 : Int} {A B : List Nat} {ys : List Str} {w : Str} {c : Nat} (h : Wds d4 d5 A B ys) (hc : Let d4 ys.length c) (hw : Wd d5 A B c w) : Wds d4 d5 A B (ys ++ [w]) := by
  intro k y e
  by_cases hk : k < ys.length
  · rw [List.getElem?_append_left hk] at e
    exact h k y e
  · have : k = ys.length := by
      have := (List.getElem?_eq_some_iff.mp e).1
      rw [List.length_append, List.length_singleton] at this
      omega
    subst this
    rw [List.getElem?_append_right (Nat.le_refl _), Nat.sub_self] at e
    cases e
    exact ⟨c, hc, hw⟩
theorem nd_set {ys : List Str} {j : Nat} {o : Str} (nd : ys.Nodup) (no : o ∉ ys) : (ys.set j o).Nodup := by
  refine List.pairwise_iff_getElem.mpr fun a b ha hb hab => ?_
  rw [List.length_set] at ha hb
  rw [List.getElem_set, List.getElem_set]
  have n1 : ∀ (k : Nat) (hk : k < ys.length), o ≠ ys[k] := fun k hk e => no (by rw [e]; exact List.getElem_mem hk)
  by_cases h1 : j = a
  · rw [if_pos h1, if_neg (by omega)]
    exact n1 b hb
  · rw [if_neg h1]
    by_cases h2 : j = b
    · rw [if_pos h2]
      exact fun e => n1 a ha e.symm
    · rw [if_neg h2]
      exact fun e => absurd ((List.getElem_inj nd).mp e) (by omega)
theorem not_inV {o : Str} {ys : List Str} (h : inV (.str o) (ys.map V.str) = false) : o ∉ ys := by
  intro m
  have : inV (.str o) (ys.map V.str) = true := by
    unfold inV
    rw [List.any_eq_true]
    exact ⟨.str o, List.mem_map.mpr ⟨o, m, rfl⟩, by simp [eqV]⟩
  rw [h] at this
  cases this
theorem cut_len {ss : List Str} {d : Int} (h0 : 0 ≤ d) (h1 : d < (ss.length : Int)) : (cutS ss none (some d)).length + (cutS ss (some (d + 1)) none).length + 1 ≤ ss.length := by
  obtain ⟨k, rfl⟩ : ∃ k : Nat, d = (k : Int) := ⟨d.toNat, by omega⟩
  have e : ((k : Int) + 1) = ((k + 1 : Nat) : Int) := by omega
  unfold cutS
  rw [e, HT.sIx_nat, HT.sIx_nat, HT.sIx_none, HT.sIx_none]
  simp only [List.length_take, List.length_drop]
  omega
theorem wds_pos {d4 d5 : Int} {A B : List Nat} {ys : List Str} (h : Wds d4 d5 A B ys) : ∀ y ∈ ys, 1 ≤ y.length := fun y hy => by
  obtain ⟨k, hk, e⟩ := List.getElem_of_mem hy
  obtain ⟨c, _, w⟩ := h k y (by rw [List.getElem?_eq_getElem hk, e])
  rw [← toL_len]
  by_cases h2 : d5 = 2
  · obtain ⟨pre, e⟩ := w.1 h2
    rw [e, List.length_append]
    show 1 ≤ pre.length + 1
    omega
  · rcases w.2 h2 with ⟨t, e, _⟩ | e
    · rw [e, List.length_append, List.length_cons]
      omega
    · rw [e, List.length_append]
      show 1 ≤ (toL qq).length + 1
      omega
theorem ndp_set {ys : List Str} {j : Nat} {o : Str} (nd : NdP ys) (no : o ∉ ys) (ho : 1 ≤ o.length) : NdP (ys.set j o) := ⟨nd_set nd.1 no, fun y hy => by
  rcases List.mem_or_eq_of_mem_set hy with h | h
  · exact nd.2 y h
  · rw [h]; exact ho⟩
noncomputable def Rw (p g r : Addr) (n d1 d2 d4 d5 : Int) (i c : Nat) (ss ys : List Str) (H : Hp) (L : Nat) (Pw : Str → Prop) : L2.St → Hp → Prop := fun σ' H' => ∃ w1 : Str, w1.length ≤ L ∧ Pw w1 ∧
  σ' = [some (.ref p), some (.int n), some (.str letters), some (.int (1 + d1)), some (.int d2), some (.ref g), some (.int d4), some (.int d5), some (.ref r), some (.int (0 + (i : Int))), some (.str ⟨#[c]⟩), some (.str w1), none, none] ∧
  H' g = some (.lst (ss.map V.str)) ∧ H' r = some (.lst (ys.map V.str)) ∧ BoxAt H' p ∧ But p H H'
noncomputable def Rf (p r : Addr) (n : Int) (H : Hp) : L2.St → Hp → Prop := fun σ' H' => σ'[8]? = some (some (.ref r)) ∧ ∃ ys : List Str, H' r = some (.lst (ys.map V.str)) ∧ (ys.length : Int) = n ∧ (∀ y ∈ ys, y.length ≤ 20) ∧ NdP ys ∧ BoxAt H' p ∧ But p H H'
theorem flat_strs (ys : List Str) : (ys.map V.str).all flatV = true := by
  rw [List.all_eq_true]
  intro v hv
  obtain ⟨y, _, rfl⟩ := List.mem_map.mp hv
  rfl
theorem set_strs (ys : List Str) (j : Nat) (y : Str) : (ys.map V.str).set j (V.str y) = (ys.set j y).map V.str := (List.map_set ..).symm
theorem ok_names {f fT : Addr} {fd fdT : FuncData} (F : Fun K "_law_names" "_law_names" sNames f fd) (GT : FnOk P w K mg base CX0 1 fT fdT ["_law_box_here", "_law_wide"] spTake) (bT : Binds K fdT ["_law_box_here", "_law_wide"] []) (kT : PySem.W.keepIn K (.ref fT) = true)
    (mT : mg "_law_take" = some (.ref fT)) (mr : mg "range" = none) : FnOk P w K mg base CX0 2 f fd ["_law_box_here", "_law_total"] spNames := by
  refine F.ok scNames (fun vs H Q E h => ?_) (fun cdv A outer s H vs Q E hr h => ?_)
  · refine opq fun Gq kq => ?_
    obtain ⟨p, n, rfl, _⟩ := h
    refine kq ?_
    clear kq
    rfl
  refine opq fun Gq kq => ?_
  obtain ⟨p, n, rfl, B, hn0, hn1, q⟩ := h
  refine kq ?_
  clear kq
  refine ⟨_, (@pss_cons _ _ _ _ _ (@ps_set _ _ (2) _ _ _ _ scNames.nd rfl (Or.inr rfl) (@pe_str _ _ _ _) (by rfl) (by first | exact .inl rfl | exact .inr rfl)) (@pss_cons _ _ _ _ _ (@ps_set _ _ (3) _ _ _ _ scNames.nd rfl (Or.inl rfl) (@pe_op _ _ _ _ _ _ _ _ op_add (@pe_int _ _ _ _) (@pe_call _ _ _ _ _ _ _ _ _ _ _ _ _ _ _ _ GT hr rfl mT kT bT .nil pass0 (@pa_cons _ _ _ _ _ (@pv _ 0 _ _ (by rfl) (by first | exact Or.inl rfl | exact Or.inr (Or.inl rfl) | exact Or.inr (Or.inr rfl)) (by decide) (by decide)) (@pa_cons _ _ _ _ _ (@pe_int _ _ _ _) (@pa_nil _) (by rfl)) (by rfl)) (by decide) (by rfl) (by rfl))) (by rfl) (by first | exact .inl rfl | exact .inr rfl)) (@pss_cons _ _ _ _ _ (@ps_set _ _ (4) _ _ _ _ scNames.nd rfl (Or.inl rfl) (@pe_call _ _ _ _ _ _ _ _ _ _ _ _ _ _ _ _ GT hr rfl mT kT bT .nil pass0 (@pa_cons _ _ _ _ _ (@pv _ 0 _ _ (by rfl) (by first | exact Or.inl rfl | exact Or.inr (Or.inl rfl) | exact Or.inr (Or.inr rfl)) (by decide) (by decide)) (@pa_cons _ _ _ _ _ (@pv _ 3 _ _ (by rfl) (by first | exact Or.inl rfl | exact Or.inr (Or.inl rfl) | exact Or.inr (Or.inr rfl)) (by decide) (by decide)) (@pa_nil _) (by rfl)) (by rfl)) (by decide) (by rfl) (by rfl)) (by rfl) (by first | exact .inl rfl | exact .inr rfl)) (@pss_cons _ _ _ _ _ (@ps_setC _ _ _ _ _ _ _ _ _ _ (5) (["_law_k", "_law_box_here", "_law_letters"]) (1) ([0, 2]) _ _ _ _ scNames.nd rfl (Or.inl rfl) rfl (@pi_range1 _ _ _ _ _ _ rfl mr (@pa_cons _ _ _ _ _ (@pv _ 3 _ _ (by rfl) (by first | exact Or.inl rfl | exact Or.inr (Or.inl rfl) | exact Or.inr (Or.inr rfl)) (by decide) (by decide)) (@pa_nil _) (by rfl)) (by rfl)) csN__law_k (fun _ _ _ _ _ => (@pg_name _ _ (0) _ ndN__law_k rfl (Or.inl rfl) (by first | exact .inl rfl | exact .inr rfl))) (fun _ _ _ _ _ => (@pf_nil _)) (fun _ _ _ _ _ => (@pe_ix _ _ _ _ _ _ _ ix_str (@pv _ 2 _ _ (by rfl) (by first | exact Or.inl rfl | exact Or.inr (Or.inl rfl) | exact Or.inr (Or.inr rfl)) (by decide) (by decide)) (@pe_call _ _ _ _ _ _ _ _ _ _ _ _ _ _ _ _ GT hr rfl mT kT bT .nil pass0 (@pa_cons _ _ _ _ _ (@pv _ 1 _ _ (by rfl) (by first | exact Or.inl rfl | exact Or.inr (Or.inl rfl) | exact Or.inr (Or.inr rfl)) (by decide) (by decide)) (@pa_cons _ _ _ _ _ (@pe_int _ _ _ _) (@pa_nil _) (by rfl)) (by rfl)) (by decide) (by rfl) (by rfl)) (fun _ _ => rfl))) (by rfl) (by first | exact .inl rfl | exact .inr rfl) (by intro _; rfl)) (@pss_cons _ _ _ _ _ (@ps_set _ _ (6) _ _ _ _ scNames.nd rfl (Or.inl rfl) (@pe_call _ _ _ _ _ _ _ _ _ _ _ _ _ _ _ _ GT hr rfl mT kT bT .nil pass0 (@pa_cons _ _ _ _ _ (@pv _ 0 _ _ (by rfl) (by first | exact Or.inl rfl | exact Or.inr (Or.inl rfl) | exact Or.inr (Or.inr rfl)) (by decide) (by decide)) (@pa_cons _ _ _ _ _ (@pe_int _ _ _ _) (@pa_nil _) (by rfl)) (by rfl)) (by decide) (by rfl) (by rfl)) (by rfl) (by first | exact .inl rfl | exact .inr rfl)) (@pss_cons _ _ _ _ _ (@ps_set _ _ (7) _ _ _ _ scNames.nd rfl (Or.inl rfl) (@pe_call _ _ _ _ _ _ _ _ _ _ _ _ _ _ _ _ GT hr rfl mT kT bT .nil pass0 (@pa_cons _ _ _ _ _ (@pv _ 0 _ _ (by rfl) (by first | exact Or.inl rfl | exact Or.inr (Or.inl rfl) | exact Or.inr (Or.inr rfl)) (by decide) (by decide)) (@pa_cons _ _ _ _ _ (@pe_int _ _ _ _) (@pa_nil _) (by rfl)) (by rfl)) (by decide) (by rfl) (by rfl)) (by rfl) (by first | exact .inl rfl | exact .inr rfl)) (@pss_cons _ _ _ _ _ (@ps_set _ _ (8) _ _ _ _ scNames.nd rfl (Or.inl rfl) (@pe_lst _ _ _ _ (@pa_nil _)) (by rfl) (by first | exact .inl rfl | exact .inr rfl)) (@pss_cons _ _ _ _ _ (@ps_for _ _ _ _ _ _ _ _ PassesOwn.never rfl (@pi_range1 _ _ _ _ _ _ rfl mr (@pa_cons _ _ _ _ _ (@pv _ 1 _ _ (by rfl) (by first | exact Or.inl rfl | exact Or.inr (Or.inl rfl) | exact Or.inr (Or.inr rfl)) (by decide) (by decide)) (@pa_nil _) (by rfl)) (by rfl)) (@pg_name _ _ (9) _ scNames.nd rfl (Or.inl rfl) (by first | exact .inl rfl | exact .inr rfl)) (@pss_cons _ _ _ _ _ (@ps_set _ _ (10) _ _ _ _ scNames.nd rfl (Or.inl rfl) (@pe_ix _ _ _ _ _ _ _ ix_str (@pv _ 2 _ _ (by rfl) (by first | exact Or.inl rfl | exact Or.inr (Or.inl rfl) | exact Or.inr (Or.inr rfl)) (by decide) (by decide)) (@pe_op _ _ _ _ _ _ _ _ op_mod (@pe_op _ _ _ _ _ _ _ _ op_add (@pv _ 6 _ _ (by rfl) (by first | exact Or.inl rfl | exact Or.inr (Or.inl rfl) | exact Or.inr (Or.inr rfl)) (by decide) (by decide)) (@pe_op _ _ _ _ _ _ _ _ op_mul (@pe_int _ _ _ _) (@pv _ 9 _ _ (by rfl) (by first | exact Or.inl rfl | exact Or.inr (Or.inl rfl) | exact Or.inr (Or.inr rfl)) (by decide) (by decide)))) (@pe_int _ _ _ _)) (fun _ _ => rfl)) (by rfl) (by first | exact .inl rfl | exact .inr rfl)) (@pss_cons _ _ _ _ _ (@ps_mid _ _ _ (@ps_set _ _ (11) _ _ _ _ scNames.nd rfl (Or.inl rfl) (@pe_op _ _ _ _ _ _ _ _ op_add_str (@pe_op _ _ _ _ _ _ _ _ op_add_str (@pe_bm _ _ _ _ _ _ _ _ _ _ _ _ PySem.F.plainAttrs_str PySem.F.slot_str_join PySem.F.type_str_join mt_join (@pe_str _ _ _ _) (@pa_cons _ _ _ _ _ (@pe_slice _ _ _ _ _ _ _ _ _ _ sl_list (@pv _ 5 _ _ (by rfl) (by first | exact Or.inl rfl | exact Or.inr (Or.inl rfl) | exact Or.inr (Or.inr rfl)) (by decide) (by decide)) (@po_none _) (@po_some _ _ _ (@pv _ 4 _ _ (by rfl) (by first | exact Or.inl rfl | exact Or.inr (Or.inl rfl) | exact Or.inr (Or.inr rfl)) (by decide) (by decide)))) (@pa_nil _) (by rfl)) (by rfl) (by rfl) (by rfl) (by rfl) (by rfl)) (@pv _ 10 _ _ (by rfl) (by first | exact Or.inl rfl | exact Or.inr (Or.inl rfl) | exact Or.inr (Or.inr rfl)) (by decide) (by decide))) (@pe_bm _ _ _ _ _ _ _ _ _ _ _ _ PySem.F.plainAttrs_str PySem.F.slot_str_join PySem.F.type_str_join mt_join (@pe_str _ _ _ _) (@pa_cons _ _ _ _ _ (@pe_slice _ _ _ _ _ _ _ _ _ _ sl_list (@pv _ 5 _ _ (by rfl) (by first | exact Or.inl rfl | exact Or.inr (Or.inl rfl) | exact Or.inr (Or.inr rfl)) (by decide) (by decide)) (@po_some _ _ _ (@pe_op _ _ _ _ _ _ _ _ op_add (@pv _ 4 _ _ (by rfl) (by first | exact Or.inl rfl | exact Or.inr (Or.inl rfl) | exact Or.inr (Or.inr rfl)) (by decide) (by decide)) (@pe_int _ _ _ _))) (@po_none _)) (@pa_nil _) (by rfl)) (by rfl) (by rfl) (by rfl) (by rfl) (by rfl))) (by rfl) (by first | exact .inl rfl | exact .inr rfl))) (@pss_cons _ _ _ _ _ (@ps_mid _ _ _ (@ps_if _ _ _ _ _ _ _ _ (@PW.pt _ _ _ (@pw_and _ _ _ _ _ _ _ (@pt_cmpR _ _ _ _ _ _ _ _ op_eq (@pv _ 7 _ _ (by rfl) (by first | exact Or.inl rfl | exact Or.inr (Or.inl rfl) | exact Or.inr (Or.inr rfl)) (by decide) (by decide)) (@pe_int _ _ _ _) (@nomark _ _ (by decide) (by decide))) (@pw_and1 _ _ _ _ (@pt_cmpR _ _ _ _ _ _ _ _ op_eq (@pe_op _ _ _ _ _ _ _ _ op_mod (@pv _ 9 _ _ (by rfl) (by first | exact Or.inl rfl | exact Or.inr (Or.inl rfl) | exact Or.inr (Or.inr rfl)) (by decide) (by decide)) (@pe_int _ _ _ _)) (@pe_int _ _ _ _) (@nomark _ _ (by decide) (by decide)))))) (@pss_one _ _ _ (@ps_set _ _ (11) _ _ _ _ scNames.nd rfl (Or.inl rfl) (@pe_op _ _ _ _ _ _ _ _ op_add_str (@pv _ 11 _ _ (by rfl) (by first | exact Or.inl rfl | exact Or.inr (Or.inl rfl) | exact Or.inr (Or.inr rfl)) (by decide) (by decide)) (@pe_str _ _ _ _)) (by rfl) (by first | exact .inl rfl | exact .inr rfl))) (@pss_nil _))) (@pss_cons _ _ _ _ _ (@ps_mid _ _ _ (@ps_if _ _ _ _ _ _ _ _ (@pt_cmpR _ _ _ _ _ _ _ _ op_eq (@pv _ 7 _ _ (by rfl) (by first | exact Or.inl rfl | exact Or.inr (Or.inl rfl) | exact Or.inr (Or.inr rfl)) (by decide) (by decide)) (@pe_int _ _ _ _) (@nomark _ _ (by decide) (by decide))) (@pss_one _ _ _ (@ps_set _ _ (11) _ _ _ _ scNames.nd rfl (Or.inl rfl) (@pe_op _ _ _ _ _ _ _ _ op_add_str (@pe_bm _ _ _ _ _ _ _ _ _ _ _ _ PySem.F.plainAttrs_str PySem.F.slot_str_join PySem.F.type_str_join mt_join (@pe_str _ _ _ _) (@pa_cons _ _ _ _ _ (@pe_comp _ _ _ _ _ _ _ (["_law_j", "_law_box_here", "_law_letters"]) (1) ([0, 2]) _ _ _ _ rfl (@pi_range1 _ _ _ _ _ _ rfl mr (@pa_cons _ _ _ _ _ (@pe_call _ _ _ _ _ _ _ _ _ _ _ _ _ _ _ _ GT hr rfl mT kT bT .nil pass0 (@pa_cons _ _ _ _ _ (@pv _ 0 _ _ (by rfl) (by first | exact Or.inl rfl | exact Or.inr (Or.inl rfl) | exact Or.inr (Or.inr rfl)) (by decide) (by decide)) (@pa_cons _ _ _ _ _ (@pe_int _ _ _ _) (@pa_nil _) (by rfl)) (by rfl)) (by decide) (by rfl) (by rfl)) (@pa_nil _) (by rfl)) (by rfl)) csN__law_j (fun _ _ _ _ _ => (@pg_name _ _ (0) _ ndN__law_j rfl (Or.inl rfl) (by first | exact .inl rfl | exact .inr rfl))) (fun _ _ _ _ _ => (@pf_nil _)) (fun _ _ _ _ _ => (@pe_ix _ _ _ _ _ _ _ ix_str (@pv _ 2 _ _ (by rfl) (by first | exact Or.inl rfl | exact Or.inr (Or.inl rfl) | exact Or.inr (Or.inr rfl)) (by decide) (by decide)) (@pe_call _ _ _ _ _ _ _ _ _ _ _ _ _ _ _ _ GT hr rfl mT kT bT .nil pass0 (@pa_cons _ _ _ _ _ (@pv _ 1 _ _ (by rfl) (by first | exact Or.inl rfl | exact Or.inr (Or.inl rfl) | exact Or.inr (Or.inr rfl)) (by decide) (by decide)) (@pa_cons _ _ _ _ _ (@pe_int _ _ _ _) (@pa_nil _) (by rfl)) (by rfl)) (by decide) (by rfl) (by rfl)) (fun _ _ => rfl))) (by intro _; rfl)) (@pa_nil _) (by rfl)) (by rfl) (by rfl) (by rfl) (by rfl) (by rfl)) (@pv _ 10 _ _ (by rfl) (by first | exact Or.inl rfl | exact Or.inr (Or.inl rfl) | exact Or.inr (Or.inr rfl)) (by decide) (by decide))) (by rfl) (by first | exact .inl rfl | exact .inr rfl))) (@pss_nil _))) (@pss_cons _ _ _ _ _ (@ps_mid _ _ _ (@ps_if _ _ _ _ _ _ _ _ (@pt_cmpR _ _ _ _ _ _ _ _ op_in_seq (@pv _ 11 _ _ (by rfl) (by first | exact Or.inl rfl | exact Or.inr (Or.inl rfl) | exact Or.inr (Or.inr rfl)) (by decide) (by decide)) (@pe_tup _ _ _ _ _ (@pa_csts _ _ (by rfl))) rfl) (@pss_one _ _ _ (@ps_set _ _ (11) _ _ _ _ scNames.nd rfl (Or.inl rfl) (@pe_op _ _ _ _ _ _ _ _ op_add_str (@pe_str _ _ _ _) (@pv _ 10 _ _ (by rfl) (by first | exact Or.inl rfl | exact Or.inr (Or.inl rfl) | exact Or.inr (Or.inr rfl)) (by decide) (by decide))) (by rfl) (by first | exact .inl rfl | exact .inr rfl))) (@pss_nil _))) (@pss_one _ _ _ (@ps_expr _ _ _ _ (@pe_bm _ _ _ _ _ _ _ _ _ _ _ _ PySem.F.plainAttrs_list PySem.F.slot_list_append PySem.F.type_list_append mt_append (@pv _ 8 _ _ (by rfl) (by first | exact Or.inl rfl | exact Or.inr (Or.inl rfl) | exact Or.inr (Or.inr rfl)) (by decide) (by decide)) (@pa_cons _ _ _ _ _ (@pv _ 11 _ _ (by rfl) (by first | exact Or.inl rfl | exact Or.inr (Or.inl rfl) | exact Or.inr (Or.inr rfl)) (by decide) (by decide)) (@pa_nil _) (by rfl)) (by rfl) (by rfl) (by rfl) (by rfl) (by rfl)) (by rfl)))))))) (by intro _; rfl)) (@pss_cons _ _ _ _ _ (@ps_mid _ _ _ (@ps_if _ _ _ _ _ _ _ _ (@pt_cmpR _ _ _ _ _ _ _ _ op_eq (@pe_call _ _ _ _ _ _ _ _ _ _ _ _ _ _ _ _ GT hr rfl mT kT bT .nil pass0 (@pa_cons _ _ _ _ _ (@pv _ 0 _ _ (by rfl) (by first | exact Or.inl rfl | exact Or.inr (Or.inl rfl) | exact Or.inr (Or.inr rfl)) (by decide) (by decide)) (@pa_cons _ _ _ _ _ (@pe_int _ _ _ _) (@pa_nil _) (by rfl)) (by rfl)) (by decide) (by rfl) (by rfl)) (@pe_int _ _ _ _) (@nomark _ _ (by decide) (by decide))) (@pss_cons _ _ _ _ _ (@ps_set _ _ (12) _ _ _ _ scNames.nd rfl (Or.inl rfl) (@pe_lst _ _ _ _ (@pa_csts _ _ (by rfl))) (by rfl) (by first | exact .inl rfl | exact .inr rfl)) (@pss_cons _ _ _ _ _ (@ps_set _ _ (13) _ _ _ _ scNames.nd rfl (Or.inl rfl) (@pe_ix _ _ _ _ _ _ _ ix_list (@pv _ 12 _ _ (by rfl) (by first | exact Or.inl rfl | exact Or.inr (Or.inl rfl) | exact Or.inr (Or.inr rfl)) (by decide) (by decide)) (@pe_call _ _ _ _ _ _ _ _ _ _ _ _ _ _ _ _ GT hr rfl mT kT bT .nil pass0 (@pa_cons _ _ _ _ _ (@pv _ 0 _ _ (by rfl) (by first | exact Or.inl rfl | exact Or.inr (Or.inl rfl) | exact Or.inr (Or.inr rfl)) (by decide) (by decide)) (@pa_cons _ _ _ _ _ (@pe_int _ _ _ _) (@pa_nil _) (by rfl)) (by rfl)) (by decide) (by rfl) (by rfl)) (fun _ _ => rfl)) (by rfl) (by first | exact .inl rfl | exact .inr rfl)) (@pss_one _ _ _ (@ps_if _ _ _ _ _ _ _ _ (@pt_cmpR _ _ _ _ _ _ _ _ op_notIn_seq (@pv _ 13 _ _ (by rfl) (by first | exact Or.inl rfl | exact Or.inr (Or.inl rfl) | exact Or.inr (Or.inr rfl)) (by decide) (by decide)) (@pv _ 8 _ _ (by rfl) (by first | exact Or.inl rfl | exact Or.inr (Or.inl rfl) | exact Or.inr (Or.inr rfl)) (by decide) (by decide)) rfl) (@pss_one _ _ _ (@ps_asg _ _ _ _ _ _ (@pv _ 13 _ _ (by rfl) (by first | exact Or.inl rfl | exact Or.inr (Or.inl rfl) | exact Or.inr (Or.inr rfl)) (by decide) (by decide)) (@pg_sub _ _ _ _ _ _ _ (@pv _ 8 _ _ (by rfl) (by first | exact Or.inl rfl | exact Or.inr (Or.inl rfl) | exact Or.inr (Or.inr rfl)) (by decide) (by decide)) (@pe_call _ _ _ _ _ _ _ _ _ _ _ _ _ _ _ _ GT hr rfl mT kT bT .nil pass0 (@pa_cons _ _ _ _ _ (@pv _ 0 _ _ (by rfl) (by first | exact Or.inl rfl | exact Or.inr (Or.inl rfl) | exact Or.inr (Or.inr rfl)) (by decide) (by decide)) (@pa_cons _ _ _ _ _ (@pv _ 1 _ _ (by rfl) (by first | exact Or.inl rfl | exact Or.inr (Or.inl rfl) | exact Or.inr (Or.inr rfl)) (by decide) (by decide)) (@pa_nil _) (by rfl)) (by rfl)) (by decide) (by rfl) (by rfl)) set_list (by intro _; rfl)) (by rfl) (by rfl) (by rfl))) (@pss_nil _))))) (@pss_nil _))) (@pss_one _ _ _ (@ps_ret _ _ _ _ (@pv _ 8 _ _ (by rfl) (by first | exact Or.inl rfl | exact Or.inr (Or.inl rfl) | exact Or.inr (Or.inr rfl)) (by decide) (by decide))))))))))))), ?_⟩
  try dsimp only [cxOf, Cx.nox, Cx.wish]
  -- wide, spot
  refine ⟨_, rfl, p, 6, rfl, B, by decide, by decide, fun d1 H1 d10 d11 B1 e1 => ⟨_, _, rfl, rfl, ?_⟩⟩
  refine ⟨_, rfl, _, rfl, p, _, rfl, B1, by omega, by omega, fun d2 H2 d20 d21 B2 e2 => ?_⟩
  -- signs
  refine ⟨_, rfl, _, rfl, by omega, by omega, ?_⟩
  refine draw_letters (p := p) (by omega) B2 fun ss H3 hss1 hss2 B3 e3 g hg => ?_
  have k3 : But p H H3 := (But.of_eq e1).trans ((But.of_eq e2).trans (But.of_eq e3))
  have hgp : g ≠ p := B3.ne hg
  -- first, form
  refine ⟨_, rfl, p, 26, rfl, B3.upd_new hg, by decide, by decide, fun d4 H4 d40 d41 B4 e4 => ?_⟩
  refine ⟨_, rfl, p, 3, rfl, B4, by decide, by decide, fun d5 H5 d50 d51 B5 e5 => ?_⟩
  have hg5 : H5 g = some (.lst (ss.map V.str)) := by rw [e5 g hgp, e4 g hgp]; exact upd_same
  have k5 : But p H H5 := (k3.upd_new hg).trans ((But.of_eq e4).trans (But.of_eq e5))
  -- found
  refine ⟨(by decide), fun r hr5 => ?_⟩
  have hrp : r ≠ p := B5.ne hr5
  have hrg : g ≠ r := ne_of_none hg5 hr5
  have nog : H g = none := by
    cases z : H g with
    | none => rfl
    | some o => have := k3 g o hgp z; rw [hg] at this; cases this
  have nor : H r = none := by
    cases z : H r with
    | none => rfl
    | some o => have := k5 r o hrp z; rw [hr5] at this; cases this
  have big := line_big
  have jA := join_le (z := "") (ys := cutS ss none (some d2)) (by decide +kernel) fun y hy => hss2 y (cutS_mem hy)
  have jB := join_le (z := "") (ys := cutS ss (some (d2 + 1)) none) (by decide +kernel) fun y hy => hss2 y (cutS_mem hy)
  have jC := cut_len (ss := ss) d20 (by omega)
  have hAB : (toL (Txt.join "" (cutS ss none (some d2)))).length + (toL (Txt.join "" (cutS ss (some (d2 + 1)) none))).length ≤ 5 := by rw [toL_len, toL_len]; omega
  generalize hA : toL (Txt.join "" (cutS ss none (some d2))) = LA at hAB
  generalize hB : toL (Txt.join "" (cutS ss (some (d2 + 1)) none)) = LB at hAB
  -- for
  refine ⟨_, rfl, _, rfl, by omega, by omega, for_range (lo := 0) (fun i σ H' => ∃ (ok oo ow : Option V) (ys : List Str),
      σ = [some (.ref p), some (.int n), some (.str letters), some (.int (1 + d1)), some (.int d2), some (.ref g), some (.int d4), some (.int d5), some (.ref r), ok, oo, ow, none, none] ∧
      H' g = some (.lst (ss.map V.str)) ∧ H' r = some (.lst (ys.map V.str)) ∧ ys.length = i ∧ (∀ y ∈ ys, y.length ≤ 20) ∧ Wds d4 d5 LA LB ys ∧ BoxAt H' p ∧ But p H H')
    ⟨none, none, none, [], rfl, keepN hg5 hr5, upd_same, rfl, (fun _ h => nomatch h), (fun _ _ h => nomatch h), B5.upd_new hr5, k5.upd_new hr5⟩ ?_ ?_⟩
  · intro i σ H' hi hq'
    refine opq fun Gq kq => ?_
    obtain ⟨ok, oo, ow, ys, rfl, hg', hr', hyl, hy, hw, B', k'⟩ := hq'
    refine kq ?_
    clear kq
    -- one
    obtain ⟨c, hc⟩ := str_at (z := letters) (k := (d4 + 5 * (0 + (i : Int))) % 26) (Int.emod_nonneg _ (by decide)) (by rw [letters_len]; exact Int.emod_lt_of_pos _ (by decide))
    refine ⟨_, rfl, _, rfl, _, rfl, _, _, rfl, rfl, .inl ⟨by decide, by decide⟩, _, _, rfl, rfl, _, _, rfl, rfl, (by show (0 : Int) < 26; decide), _, _, c, rfl, rfl, by decide, hc, ?_⟩
    have h1c : (⟨#[c]⟩ : Str).length = 1 := rfl
    -- word
    refine ⟨Rw p g r n d1 d2 d4 d5 i c ss ys H 13 (fun w => toL w = LA ++ c :: LB), ?_, ?_⟩
    · refine ⟨rfl, _, rfl, _, rfl, _, rfl, g, _, rfl, SqL.of hg', fun s1 n1 => ?_⟩
      have z1 := sum_le1 (ys := cutS ss none (some d2)) fun y hy => hss2 y (cutS_mem hy)
      have z2 := cutS_len ss none (some d2)
      refine ⟨_, s1, cutS ss none (some d2), rfl, rfl, SqL.of (by rw [upd_same, cut_strs]), by decide, by omega, ?_⟩
      have j1 := join_le (z := "") (ys := cutS ss none (some d2)) (by decide +kernel) fun y hy => hss2 y (cutS_mem hy)
      refine ⟨_, rfl, _, _, rfl, rfl, by omega, ?_⟩
      refine ⟨rfl, _, rfl, _, rfl, _, _, rfl, rfl, _, rfl, g, _, rfl, SqL.of (keepN hg' n1), fun s2 n2 => ?_⟩
      have z3 := sum_le1 (ys := cutS ss (some (d2 + 1)) none) fun y hy => hss2 y (cutS_mem hy)
      have z4 := cutS_len ss (some (d2 + 1)) none
      refine ⟨_, s2, cutS ss (some (d2 + 1)) none, rfl, rfl, SqL.of (by rw [upd_same, cut_strs]), by decide, by omega, ?_⟩
      have j2 := join_le (z := "") (ys := cutS ss (some (d2 + 1)) none) (by decide +kernel) fun y hy => hss2 y (cutS_mem hy)
      refine ⟨_, _, rfl, rfl, by rw [slen]; omega, ?_⟩
      exact ⟨_, by rw [slen, slen]; omega, by show toL _ = _; rw [toL_app, toL_app, hA, hB, toL_one, List.append_assoc]; rfl, rfl, keepN (keepN hg' n1) n2, keepN (keepN hr' n1) n2, (B'.upd_new n1).upd_new n2, (k'.upd_new n1).upd_new n2⟩
    intro _ H1 hq'
    refine opq fun Gq kq => ?_
    obtain ⟨w1, hw1, pw1, rfl, g1, r1, B1, k1⟩ := hq'
    refine kq ?_
    clear kq
    -- the z
    refine ⟨Rw p g r n d1 d2 d4 d5 i c ss ys H 14 (fun w => ∃ t, toL w = LA ++ c :: (LB ++ t) ∧ t.length ≤ 1), ?_, ?_⟩
    · refine ⟨_, rfl, rfl, _, rfl, ?_⟩
      refine ite2 (fun ca => ?_) (fun ca => ?_)
      · refine ⟨_, rfl, _, _, rfl, rfl, (by show (0 : Int) < 2; decide), rfl, _, rfl, ?_⟩
        refine ite2 (fun cb => ?_) (fun cb => ?_)
        · have hz : (Str.ofString "z").length = 1 := by decide +kernel
          refine ⟨_, rfl, _, _, rfl, rfl, by rw [hz]; omega, ?_⟩
          exact ⟨_, by rw [slen, hz]; omega, ⟨toL "z", by rw [toL_app, pw1, List.append_assoc]; rfl, by rw [toL_len]; exact Nat.le_of_eq hz⟩, rfl, g1, r1, B1, k1⟩
        · exact ⟨w1, by omega, ⟨[], by rw [pw1, List.append_nil], by decide⟩, rfl, g1, r1, B1, k1⟩
      · exact iteF ⟨w1, by omega, ⟨[], by rw [pw1, List.append_nil], by decide⟩, rfl, g1, r1, B1, k1⟩
    intro _ H2 hq'
    refine opq fun Gq kq => ?_
    obtain ⟨w2, hw2, pw2, rfl, g2, r2, B2, k2⟩ := hq'
    refine kq ?_
    clear kq
    -- form 2
    refine ⟨Rw p g r n d1 d2 d4 d5 i c ss ys H 14 (fun w => (d5 = 2 → ∃ pre, toL w = pre ++ [c]) ∧ (d5 ≠ 2 → ∃ t, toL w = LA ++ c :: (LB ++ t) ∧ t.length ≤ 1)), ?_, ?_⟩
    · refine ⟨_, rfl, rfl, _, rfl, ?_⟩
      refine ite2 (fun ca => ?_) (fun ca => ?_)
      · refine ⟨rfl, _, rfl, p, 8, rfl, B2, by decide, by decide, fun d6 H6 d60 d61 B6 e6 => ?_⟩
        refine ⟨_, rfl, by omega, by omega, ?_⟩
        refine draw_letters (p := p) (by omega) B6 fun tt H7 ht1 ht2 B7 e7 g7 n7 => ?_
        have jt := join_le (z := "") (ys := tt) (by decide +kernel) ht2
        have zt := sum_le1 ht2
        refine ⟨_, g7, tt, rfl, rfl, SqL.of upd_same, by decide, by omega, ?_⟩
        refine ⟨_, rfl, _, _, rfl, rfl, by omega, ?_⟩
        have g8 : H7 g = some (.lst (ss.map V.str)) := by rw [e7 g hgp, e6 g hgp]; exact g2
        have r8 : H7 r = some (.lst (ys.map V.str)) := by rw [e7 r hrp, e6 r hrp]; exact r2
        have is2 : d5 = 2 := by
          have z := of_decide_eq_true ca
          injection z
        exact ⟨_, by rw [slen]; omega, ⟨fun _ => ⟨_, by rw [toL_app, toL_one]⟩, fun z => absurd is2 z⟩, rfl, keepN g8 n7, keepN r8 n7, B7.upd_new n7, (k2.trans ((But.of_eq e6).trans (But.of_eq e7))).upd_new n7⟩
      · have no2 : d5 ≠ 2 := fun z => ca (decide_eq_true (by rw [z]))
        exact ⟨w2, by omega, ⟨fun z => absurd z no2, fun _ => pw2⟩, rfl, g2, r2, B2, k2⟩
    intro _ H3 hq'
    refine opq fun Gq kq => ?_
    obtain ⟨w3, hw3, pw3, rfl, g3, r3, B3, k3⟩ := hq'
    refine kq ?_
    clear kq
    -- reserved
    refine ⟨Rw p g r n d1 d2 d4 d5 i c ss ys H 14 (Wd d5 LA LB c), ?_, ?_⟩
    · refine ⟨_, rfl, by decide, fun t0 n0 => ?_⟩
      refine ⟨t0, _, rfl, .inr (SqT.of upd_same), rfl, flat_csts (by rfl), _, rfl, ?_⟩
      refine ite2 (fun ca => ?_) (fun ca => ?_)
      · have hq : (Str.ofString "qqqqqqq").length = 7 := by decide +kernel
        refine ⟨_, rfl, _, _, rfl, rfl, by rw [hq]; omega, ?_⟩
        exact ⟨_, by rw [slen, hq]; omega, ⟨fun _ => ⟨_, by rw [toL_app, toL_one]⟩, fun _ => .inr (by rw [toL_app, toL_one]; rfl)⟩, rfl, keepN g3 n0, keepN r3 n0, B3.upd_new n0, k3.upd_new n0⟩
      · exact ⟨w3, by omega, ⟨pw3.1, fun z => .inl (pw3.2 z)⟩, rfl, keepN g3 n0, keepN r3 n0, B3.upd_new n0, k3.upd_new n0⟩
    intro _ H4 hq'
    refine opq fun Gq kq => ?_
    obtain ⟨w4, hw4, pw4, rfl, g4, r4, B4, k4⟩ := hq'
    refine kq ?_
    clear kq
    -- append
    refine ⟨_, rfl, .inl ⟨rfl, _, SqL.of r4⟩, _, rfl, r, _, _, rfl, rfl, r4, by rw [List.length_map]; omega, ?_⟩
    refine ⟨_, _, _, ys ++ [w4], rfl, by rw [upd_ne hrg]; exact g4, by rw [upd_same, List.map_append]; rfl, by rw [List.length_append, hyl]; rfl, fun y hm => ?_, wds_snoc hw (by rw [hyl]; exact hc) pw4, B4.eq (upd_ne (Ne.symm hrp)), k4.upd_own nor⟩
    rcases List.mem_append.mp hm with hm | hm
    · exact hy y hm
    · rw [List.mem_singleton.mp hm]; omega
  · intro σ H' hq'
    refine opq fun Gq kq => ?_
    obtain ⟨ok, oo, ow, ys, rfl, hg', hr', hyl, hy, hw, B', k'⟩ := hq'
    refine kq ?_
    clear kq
    have ynd : NdP ys := ⟨wds_nd hAB (by omega) hw, wds_pos hw⟩
    have hyn : (ys.length : Int) = n := by omega
    refine ⟨Rf p r n H, ?_, ?_⟩
    · refine ⟨_, rfl, p, 6, rfl, B', by decide, by decide, fun d6 H6 d60 d61 B6 e6 => ⟨rfl, _, rfl, ?_⟩⟩
      have r6 : H6 r = some (.lst (ys.map V.str)) := by rw [e6 r hrp]; exact hr'
      have k6 : But p H H6 := k'.trans (But.of_eq e6)
      refine ite2 (fun ca => ?_) (fun ca => ?_)
      · refine ⟨by decide, fun t0 n0 => ?_⟩
        have t0p : t0 ≠ p := B6.ne n0
        refine ⟨_, rfl, _, rfl, p, 13, rfl, B6.upd_new n0, by decide, by decide, fun d7 H7 d70 d71 B7 e7 => ?_⟩
        have t7 : H7 t0 = some (.lst ((["num", "var", "op", "go", "ask", "back", "chain", "sets", "iff", "ends", "calls", "reads", "gives"] : List Str).map V.str)) := ((e7 t0 t0p).trans upd_same).trans (congrArg (fun l => some (HO.lst l)) (by decide +kernel))
        have r7 : H7 r = some (.lst (ys.map V.str)) := by rw [e7 r hrp]; exact keepN r6 n0
        have k7 : But p H H7 := (k6.upd_new n0).trans (But.of_eq e7)
        obtain ⟨od, hod, hat⟩ := txt_at (ys := (["num", "var", "op", "go", "ask", "back", "chain", "sets", "iff", "ends", "calls", "reads", "gives"] : List Str)) d70 (by simpa using d71)
        refine ⟨t0, _, _, _, rfl, rfl, SqL.of t7, hat, ?_⟩
        have hol2 : 1 ≤ od.length := by
          have : ∀ y ∈ (["num", "var", "op", "go", "ask", "back", "chain", "sets", "iff", "ends", "calls", "reads", "gives"] : List Str), 1 ≤ y.length := by decide +kernel
          exact this od hod
        have hol : od.length ≤ 20 := by
          have : ∀ y ∈ (["num", "var", "op", "go", "ask", "back", "chain", "sets", "iff", "ends", "calls", "reads", "gives"] : List Str), y.length ≤ 20 := by decide +kernel
          exact this od hod
        refine ⟨_, rfl, _, rfl, r, _, rfl, .inl (SqL.of r7), rfl, flat_strs _, _, rfl, ?_⟩
        refine ite2 (fun cb => ?_) (fun cb => ?_)
        · refine ⟨_, rfl, _, rfl, _, rfl, _, rfl, p, n, rfl, B7, by omega, by omega, fun d8 H8 d80 d81 B8 e8 => ?_⟩
          have r8 : H8 r = some (.lst (ys.map V.str)) := by rw [e8 r hrp]; exact r7
          have k8 : But p H H8 := k7.trans (But.of_eq e8)
          refine ⟨r, _, d8, d8.toNat, rfl, rfl, r8, ?_, ?_⟩
          · unfold ixN
            rw [if_pos d80, List.length_map, if_pos (by omega)]
          refine ⟨rfl, ys.set d8.toNat od, by rw [upd_same, set_strs], by rw [List.length_set]; exact hyn, fun y hm => ?_, ndp_set ynd (not_inV (by simpa using cb)) hol2, B8.eq (upd_ne (Ne.symm hrp)), k8.upd_own nor⟩
          rcases List.mem_or_eq_of_mem_set hm with hm | hm
          · exact hy y hm
          · rw [hm]; exact hol
        · exact ⟨rfl, ys, r7, hyn, hy, ynd, B7, k7⟩
      · exact ⟨rfl, ys, r6, hyn, hy, ynd, B6, k6⟩
    intro σ' H1 hq'
    refine opq fun Gq kq => ?_
    obtain ⟨hs8, ys1, r1, l1, y1, nd1, B1, k1⟩ := hq'
    refine kq ?_
    clear kq
    exact ⟨_, hs8, q r ys1 H1 nor r1 l1 y1 nd1 B1 k1⟩
end
end K9

set_option Elab.async false
set_option linter.all false
set_option maxRecDepth 100000
set_option maxHeartbeats 4000000
namespace K9
open PySem PySem.Spec PyProof.Rows L2

/-! ### programs as they are looked at here -/
inductive Bd where
  | nil | call (f : Str) (n : Nat) (r : Bd) | ite (a b r : Bd) | loop (a r : Bd) | oth (r : Bd)
noncomputable def Bd.app : Bd → Bd → Bd
  | .nil, s => s
  | .call f n r, s => .call f n (r.app s)
  | .ite a b r, s => .ite a b (r.app s)
  | .loop a r, s => .loop a (r.app s)
  | .oth r, s => .oth (r.app s)
noncomputable def Bd.size : Bd → Nat
  | .nil => 0
  | .call _ _ r => r.size + 1
  | .ite a b r => a.size + b.size + r.size + 1
  | .loop a r => a.size + r.size + 1
  | .oth r => r.size + 1
noncomputable def Bd.calls : Bd → List (Str × Nat)
  | .nil => []
  | .call f n r => (f, n) :: r.calls
  | .ite a b r => a.calls ++ b.calls ++ r.calls
  | .loop a r => a.calls ++ r.calls
  | .oth r => r.calls
theorem size_app : ∀ (a b : Bd), (a.app b).size = a.size + b.size
  | .nil, b => by show b.size = 0 + b.size; omega
  | .call f n r, b => by have := size_app r b; show (r.app b).size + 1 = r.size + 1 + b.size; omega
  | .ite x y r, b => by have := size_app r b; show x.size + y.size + (r.app b).size + 1 = x.size + y.size + r.size + 1 + b.size; omega
  | .loop x r, b => by have := size_app r b; show x.size + (r.app b).size + 1 = x.size + r.size + 1 + b.size; omega
  | .oth r, b => by have := size_app r b; show (r.app b).size + 1 = r.size + 1 + b.size; omega
theorem calls_app : ∀ (a b : Bd), (a.app b).calls = a.calls ++ b.calls
  | .nil, b => rfl
  | .call f n r, b => by show (f, n) :: (r.app b).calls = (f, n) :: r.calls ++ b.calls; rw [calls_app r b]; rfl
  | .ite x y r, b => by show x.calls ++ y.calls ++ (r.app b).calls = x.calls ++ y.calls ++ r.calls ++ b.calls; rw [calls_app r b]; simp only [List.append_assoc]
  | .loop x r, b => by show x.calls ++ (r.app b).calls = x.calls ++ r.calls ++ b.calls; rw [calls_app r b, List.append_assoc]
  | .oth r, b => calls_app r b
noncomputable def othW (w : Str) : Prop := w = "read" ∨ w = "write" ∨ w = "give" ∨ w = "set"
noncomputable def BdV (H : Hp) : Bd → List V → Prop
  | .nil, xs => xs = []
  | .call f n r, xs => ∃ p x t ts ys, xs = .ref p :: ys ∧ H p = some (.tup [.str "call", x, .str f, .ref t]) ∧ H t = some (.tup ts) ∧ ts.length = n ∧ BdV H r ys
  | .ite a b r, xs => ∃ p x qa qb as bs ys, xs = .ref p :: ys ∧ H p = some (.tup [.str "if", x, .ref qa, .ref qb]) ∧ H qa = some (.tup as) ∧ H qb = some (.tup bs) ∧ BdV H a as ∧ BdV H b bs ∧ BdV H r ys
  | .loop a r, xs => ∃ p x qa as ys, xs = .ref p :: ys ∧ H p = some (.tup [.str "while", x, .ref qa]) ∧ H qa = some (.tup as) ∧ BdV H a as ∧ BdV H r ys
  | .oth r, xs => ∃ p w zs ys, xs = .ref p :: ys ∧ othW w ∧ H p = some (.tup (.str w :: zs)) ∧ BdV H r ys
noncomputable def TMono (H H' : Hp) : Prop := ∀ b xs, H b = some (.tup xs) → H' b = some (.tup xs)
theorem BdV.mono {H H' : Hp} (k : TMono H H') {a : Bd} : ∀ {xs : List V}, BdV H a xs → BdV H' a xs := by
  induction a with
  | nil => exact fun h => h
  | call f n r ih => rintro xs ⟨p, x, t, ts, ys, e, h1, h2, h3, h4⟩; exact ⟨p, x, t, ts, ys, e, k _ _ h1, k _ _ h2, h3, ih h4⟩
  | ite a b r ia ib ir => rintro xs ⟨p, x, qa, qb, as, bs, ys, e, h1, h2, h3, h4, h5, h6⟩; exact ⟨p, x, qa, qb, as, bs, ys, e, k _ _ h1, k _ _ h2, k _ _ h3, ia h4, ib h5, ir h6⟩
  | loop a r ia ir => rintro xs ⟨p, x, qa, as, ys, e, h1, h2, h3, h4⟩; exact ⟨p, x, qa, as, ys, e, k _ _ h1, k _ _ h2, ia h3, ir h4⟩
  | oth r ir => rintro xs ⟨p, w, zs, ys, e, h0, h1, h2⟩; exact ⟨p, w, zs, ys, e, h0, k _ _ h1, ir h2⟩
theorem BdV.app {H : Hp} {b : Bd} {ys : List V} (hb : BdV H b ys) {a : Bd} : ∀ {xs : List V}, BdV H a xs → BdV H (a.app b) (xs ++ ys) := by
  induction a with
  | nil => intro xs h; have e : xs = [] := h; rw [e]; exact hb
  | call f n r ih => rintro xs ⟨p, x, t, ts, zs, e, h1, h2, h3, h4⟩; exact ⟨p, x, t, ts, zs ++ ys, by rw [e]; rfl, h1, h2, h3, ih h4⟩
  | ite a b r _ _ ir => rintro xs ⟨p, x, qa, qb, as, bs, zs, e, h1, h2, h3, h4, h5, h6⟩; exact ⟨p, x, qa, qb, as, bs, zs ++ ys, by rw [e]; rfl, h1, h2, h3, h4, h5, ir h6⟩
  | loop a r _ ir => rintro xs ⟨p, x, qa, as, zs, e, h1, h2, h3, h4⟩; exact ⟨p, x, qa, as, zs ++ ys, by rw [e]; rfl, h1, h2, h3, ir h4⟩
  | oth r ir => rintro xs ⟨p, w, zs, us, e, h0, h1, h2⟩; exact ⟨p, w, zs, us ++ ys, by rw [e]; rfl, h0, h1, ir h2⟩
theorem BdV.len {H : Hp} {a : Bd} : ∀ {xs : List V}, BdV H a xs → xs.length ≤ a.size := by
  induction a with
  | nil => intro xs h; have e : xs = [] := h; rw [e]; exact Nat.le_refl 0
  | call f n r ih => rintro xs ⟨p, x, t, ts, ys, e, h1, h2, h3, h4⟩; rw [e]; exact Nat.succ_le_succ (ih h4)
  | ite a b r _ _ ir => rintro xs ⟨p, x, qa, qb, as, bs, ys, e, h1, h2, h3, h4, h5, h6⟩; rw [e]; exact Nat.succ_le_succ (Nat.le_trans (ir h6) (Nat.le_add_left _ _))
  | loop a r _ ir => rintro xs ⟨p, x, qa, as, ys, e, h1, h2, h3, h4⟩; rw [e]; exact Nat.succ_le_succ (Nat.le_trans (ir h4) (Nat.le_add_left _ _))
  | oth r ir => rintro xs ⟨p, w, zs, ys, e, h0, h1, h2⟩; rw [e]; exact Nat.succ_le_succ (ir h2)
noncomputable def CallV (H : Hp) (c : Str × Nat) (v : V) : Prop := ∃ p x t ts, v = .ref p ∧ H p = some (.tup [.str "call", x, .str c.1, .ref t]) ∧ H t = some (.tup ts) ∧ ts.length = c.2
noncomputable def CallsV (H : Hp) : List (Str × Nat) → List V → Prop
  | [], vs => vs = []
  | c :: cs, vs => ∃ v r, vs = v :: r ∧ CallV H c v ∧ CallsV H cs r
theorem CallV.mono {H H' : Hp} (k : TMono H H') {c : Str × Nat} {v : V} (h : CallV H c v) : CallV H' c v := by
  obtain ⟨p, x, t, ts, e1, h1, h2, h3⟩ := h
  exact ⟨p, x, t, ts, e1, k _ _ h1, k _ _ h2, h3⟩
theorem CallsV.mono {H H' : Hp} (k : TMono H H') {cs : List (Str × Nat)} : ∀ {vs : List V}, CallsV H cs vs → CallsV H' cs vs := by
  induction cs with
  | nil => exact fun h => h
  | cons d ds ih => rintro vs ⟨v, r, e, h1, h4⟩; exact ⟨v, r, e, h1.mono k, ih h4⟩
theorem CallsV.snoc {H : Hp} {c : Str × Nat} {v : V} (hv : CallV H c v) : ∀ {cs : List (Str × Nat)} {vs : List V}, CallsV H cs vs → CallsV H (cs ++ [c]) (vs ++ [v])
  | [], _, h => by have e : _ = [] := h; rw [e]; exact ⟨v, [], rfl, hv, rfl⟩
  | _ :: _, _, ⟨u, r, e, h1, h4⟩ => ⟨u, r ++ [v], by rw [e]; rfl, h1, CallsV.snoc hv h4⟩
theorem CallsV.len {H : Hp} : ∀ {cs : List (Str × Nat)} {vs : List V}, CallsV H cs vs → vs.length = cs.length
  | [], _, h => by have e : _ = [] := h; rw [e]; rfl
  | _ :: _, _, ⟨u, r, e, h1, h4⟩ => by rw [e, List.length_cons, List.length_cons, CallsV.len h4]
theorem CallsV.at {H : Hp} : ∀ {cs : List (Str × Nat)} {vs : List V}, CallsV H cs vs → ∀ (i : Nat) (v : V), vs[i]? = some v → ∃ c, cs[i]? = some c ∧ CallV H c v
  | [], _, h, i, v, hv => by have e : _ = [] := h; rw [e] at hv; simp at hv
  | c :: _, _, ⟨u, r, e, h1, h4⟩, 0, v, hv => by rw [e] at hv; cases hv; exact ⟨c, rfl, h1⟩
  | _ :: cs, _, ⟨u, r, e, h1, h4⟩, i + 1, v, hv => by rw [e] at hv; simpa using CallsV.at h4 i v (by simpa using hv)
structure Df where
  f : Str
  ps : List Str
  b : Bd
noncomputable def DfV (H : Hp) (d : Df) (v : V) : Prop := ∃ p pp pb bs, v = .ref p ∧ H p = some (.tup [.str d.f, .ref pp, .ref pb]) ∧ H pp = some (.tup (d.ps.map V.str)) ∧ H pb = some (.tup bs) ∧ BdV H d.b bs
noncomputable def DfsV (H : Hp) : List Df → List V → Prop
  | [], vs => vs = []
  | d :: ds, vs => ∃ v r, vs = v :: r ∧ DfV H d v ∧ DfsV H ds r
theorem DfV.mono {H H' : Hp} (k : TMono H H') {d : Df} {v : V} (h : DfV H d v) : DfV H' d v := by
  obtain ⟨p, pp, pb, bs, e1, h1, h2, h3, h5⟩ := h
  exact ⟨p, pp, pb, bs, e1, k _ _ h1, k _ _ h2, k _ _ h3, h5.mono k⟩
theorem DfsV.mono {H H' : Hp} (k : TMono H H') {ds : List Df} : ∀ {vs : List V}, DfsV H ds vs → DfsV H' ds vs := by
  induction ds with
  | nil => exact fun h => h
  | cons d ds ih => rintro vs ⟨v, r, e, h1, h4⟩; exact ⟨v, r, e, h1.mono k, ih h4⟩
theorem DfsV.snoc {H : Hp} {d : Df} {v : V} (hv : DfV H d v) : ∀ {ds : List Df} {vs : List V}, DfsV H ds vs → DfsV H (ds ++ [d]) (vs ++ [v])
  | [], _, h => by have e : _ = [] := h; rw [e]; exact ⟨v, [], rfl, hv, rfl⟩
  | _ :: _, _, ⟨u, r, e, h1, h4⟩ => ⟨u, r ++ [v], by rw [e]; rfl, h1, DfsV.snoc hv h4⟩
theorem DfsV.len {H : Hp} : ∀ {ds : List Df} {vs : List V}, DfsV H ds vs → vs.length = ds.length
  | [], _, h => by have e : _ = [] := h; rw [e]; rfl
  | _ :: _, _, ⟨u, r, e, h1, h4⟩ => by rw [e, List.length_cons, List.length_cons, DfsV.len h4]
theorem DfsV.at {H : Hp} : ∀ {ds : List Df} {vs : List V}, DfsV H ds vs → ∀ (i : Nat) (v : V), vs[i]? = some v → ∃ d, ds[i]? = some d ∧ DfV H d v
  | [], _, h, i, v, hv => by have e : _ = [] := h; rw [e] at hv; simp at hv
  | d :: _, _, ⟨u, r, e, h1, h4⟩, 0, v, hv => by rw [e] at hv; cases hv; exact ⟨d, rfl, h1⟩
  | _ :: ds, _, ⟨u, r, e, h1, h4⟩, i + 1, v, hv => by rw [e] at hv; simpa using DfsV.at h4 i v (by simpa using hv)
/-! ### what is found -/
inductive Vd where
  | ok | twice (x : Str) | name (x : Str) | count (x : Str)
noncomputable def dupF : List Str → List Str → Option Str
  | _, [] => none
  | seen, x :: r => if x ∈ seen then some x else dupF (seen ++ [x]) r
noncomputable def cnt (ds : List Df) (f : Str) : Option Nat := (ds.find? fun d => decide (d.f = f)).map fun d => d.ps.length
noncomputable def vcalls (ds : List Df) : List (Str × Nat) → Option Vd
  | [] => none
  | (f, n) :: r => match cnt ds f with
    | none => some (.name f)
    | some m => if n = m then vcalls ds r else some (.count f)
noncomputable def vdefs (all : List Df) : List Df → Vd
  | [] => .ok
  | d :: r => match dupF [] d.ps with
    | some x => .twice x
    | none => match vcalls all d.b.calls with
      | some v => v
      | none => vdefs all r
noncomputable def verdict (ds : List Df) : Vd := match dupF [] (ds.map Df.f) with
  | some x => .twice x
  | none => vdefs ds ds
/-! ### what is kept where refusals fly -/
noncomputable def isExt : HO → Bool
  | .ext _ => true
  | _ => false
noncomputable def Kp (H H' : Hp) : Prop := ∀ b o, isExt o = false → H b = some o → H' b = some o
theorem Kp.refl (H : Hp) : Kp H H := fun _ _ _ h => h
theorem Kp.trans {H H1 H2 : Hp} (a : Kp H H1) (b : Kp H1 H2) : Kp H H2 := fun c o e h => b c o e (a c o e h)
theorem Kp.same {H H' : Hp} (a : Same H H') : Kp H H' := fun c o _ h => a c o h
theorem Kp.tm {H H' : Hp} (a : Kp H H') : TMono H H' := fun b xs h => a b _ rfl h
theorem Kp.new {H : Hp} {p : Addr} {o : HO} (n : H p = none) : Kp H (upd H p o) := fun b u _ e => by rw [upd_ne (ne_of_none e n)]; exact e
theorem Kp.at_ext {H : Hp} {p : Addr} {o : HO} {φ : Heap → Prop} (n : H p = some (.ext φ)) : Kp H (upd H p o) := fun b u eu e => by
  by_cases h : b = p
  · subst h; rw [n] at e; cases e; cases eu
  · rw [upd_ne h]; exact e
theorem Same.tm {H H' : Hp} (a : Same H H') : TMono H H' := fun b xs h => a b _ h
noncomputable def Ev (E : XK) : XK := fun Cv d H' => ∀ H'', Kp H' H'' → E Cv d H''
noncomputable def XOut (H : Hp) (C : Addr) (x : Str) (E : XK) : Prop := ∀ dx H', Kp H H' → H' dx = some (.xd [("name", .str x)]) → E (.ref C) (some dx) H'
theorem XOut.ev {H H1 : Hp} {C : Addr} {x : Str} {E : XK} (h : XOut H C x E) (k : Kp H H1) : XOut H1 C x (Ev E) := fun dx H' k' e H'' k'' => h dx H'' (k.trans (k'.trans k'')) (k'' _ _ rfl e)
theorem passK {P : Program} {w : World} {K : PySem.W.Frag} {mg : Str → Option Value} {base : Heap} {N : List Str} {qual : Str} {scope : Scope} {f : Addr} {cd : Value} {A : Around} {outer : List Env} {s₀ : Shared} {H₀ : Hp} {E : XK} :
    Passes (CX1 P w) (cxOf (CX1 P w) P w K mg base N qual scope f cd A outer s₀ H₀ E) (Ev E) :=
  passes1 fun x C d T T' H' hx hT hn h => h _ ((Kp.new hn).trans (Kp.at_ext (φ := fun h => ∃ o vs, h.get? x = some o ∧ o.cls = .ref C ∧ PySem.W.notCls o = true ∧ o.dict = d ∧ o.data = .fields vs ∧ vs[1]? = some (.ref T)) (by rw [upd_ne (ne_of_none hx hn)]; exact hx)))
theorem own1 {P : Program} {w : World} {K : PySem.W.Frag} {mg : Str → Option Value} {base : Heap} {N : List Str} {qual : Str} {scope : Scope} {f : Addr} {cd : Value} {A : Around} {outer : List Env} {s₀ : Shared} {H₀ : Hp} {E : XK} :
    PassesOwn (model (cxOf (CX1 P w) P w K mg base N qual scope f cd A outer s₀ H₀ E).prog (cxOf (CX1 P w) P w K mg base N qual scope f cd A outer s₀ H₀ E).w) (cxOf (CX1 P w) P w K mg base N qual scope f cd A outer s₀ H₀ E).A (cxOf (CX1 P w) P w K mg base N qual scope f cd A outer s₀ H₀ E).env (cxOf (CX1 P w) P w K mg base N qual scope f cd A outer s₀ H₀ E).xe :=
  PassesOwn.leaving
/-- a refusal just made flies -/
theorem fly_out {H : Hp} {x dx C : Addr} {y : Str} {E : XK} (hx : H x = none) (hdx : upd H x (ExO C none x) dx = none) (h : XOut H C y E) :
    ∀ T, upd (upd (upd H x (ExO C none x)) x (ExO C (some dx) x)) dx (.xd [("name", .str y)]) T = none →
      E (.ref C) (some dx) (upd (upd (upd (upd (upd H x (ExO C none x)) x (ExO C (some dx) x)) dx (.xd [("name", .str y)])) T (TbO T)) x (TxO C (some dx) T x)) := by
  intro T hT
  have xd : dx ≠ x := fun e => by rw [e, upd_same] at hdx; cases hdx
  have xT : T ≠ x := fun e => by rw [e, upd_ne (Ne.symm xd), upd_same] at hT; cases hT
  have dT : T ≠ dx := fun e => by rw [e, upd_same] at hT; cases hT
  have hT0 : H T = none := by rw [upd_ne dT, upd_ne xT, upd_ne xT] at hT; exact hT
  have hd0 : H dx = none := by rw [upd_ne xd] at hdx; exact hdx
  refine h dx _ (fun b o _ e => ?_) ?_
  · rw [upd_ne (ne_of_none e hx), upd_ne (ne_of_none e hT0), upd_ne (ne_of_none e hd0), upd_ne (ne_of_none e hx), upd_ne (ne_of_none e hx)]
    exact e
  · rw [upd_ne xd, upd_ne (Ne.symm dT), upd_same]
theorem same_upd {H : Hp} {p : Addr} {o : HO} (n : H p = none) : Same H (upd H p o) := fun b u e => keepN e n
theorem ifY {b : Bool} {A B : Prop} (h : b = true) (x : A) : if b = true then A else B := by rw [if_pos h]; exact x
theorem ifX {b : Bool} {A B : Prop} (h : b = false) (x : B) : if b = true then A else B := by rw [h, if_neg Bool.false_ne_true]; exact x
end K9

set_option Elab.async false
set_option linter.all false
set_option maxRecDepth 100000
set_option maxHeartbeats 4000000
namespace K9
open PySem PySem.Spec PyProof.Rows L2

noncomputable abbrev sTwice : Stmt := top 11
noncomputable abbrev sBodies : Stmt := top 12
noncomputable abbrev sCallsIn : Stmt := top 13
noncomputable abbrev sRefCall : Stmt := top 14
noncomputable abbrev sSound : Stmt := top 15
structure XIn (K : PySem.W.Frag) (C : Addr) (f : Str) : Prop where
  x : XCls K C
  no : NoAttr K C f
  cd : ∃ cd, PySem.W.clsIn K C = some cd ∧ cd.hasDict = true ∧ veTail cd.mro = true
noncomputable def spInit (C : Addr) (f : Str) : Sp := fun vs H Q _ => ∃ x v, vs = [.ref x, v] ∧ H x = some (ExO C none x) ∧ ∀ dx, H dx = none → Q .non (upd (upd H x (ExO C (some dx) x)) dx (.xd [(f, v)]))
/-- a class of refusals with a name -/
structure XC (P : Program) (w : World) (K : PySem.W.Frag) (mg : Str → Option Value) (base : Heap) (C fI : Addr) (fdI : FuncData) (cn : Str) : Prop where
  mkr : XMk K C
  ini : PySem.W.findIn K (.ref C) "__init__" = some (some (.ref fI))
  fn : PySem.W.isFn K (.ref fI) = true
  g : FnOk P w K mg base CX0 1 fI fdI ["self", "name"] (spInit C "name")
  b : Binds K fdI ["self", "name"] []
  m : mg cn = some (.ref C)
  x : XCls K C
  ty : PySem.W.typeIn K (.ref C) = some (.type "type")
theorem dupF_app : ∀ (xs ys seen : List Str), dupF seen (xs ++ ys) = match dupF seen xs with | some x => some x | none => dupF (seen ++ xs) ys
  | [], ys, seen => by simp [dupF]
  | x :: r, ys, seen => by
    show (if x ∈ seen then some x else dupF (seen ++ [x]) (r ++ ys)) = _
    by_cases h : x ∈ seen
    · simp [dupF, h]
    · rw [if_neg h, dupF_app r ys (seen ++ [x])]
      have e : dupF seen (x :: r) = dupF (seen ++ [x]) r := by show (if x ∈ seen then some x else dupF (seen ++ [x]) r) = _; rw [if_neg h]
      rw [e, List.append_assoc]
      rfl
theorem dupF_mid {seen ys : List Str} {x : Str} {i : Nat} (h : ys[i]? = some x) (h0 : dupF seen (ys.take i) = none) (hx : x ∈ seen ++ ys.take i) : dupF seen ys = some x := by
  have e : ys = ys.take i ++ x :: ys.drop (i + 1) := by
    obtain ⟨hi, e⟩ := List.getElem?_eq_some_iff.mp h
    rw [← e, List.getElem_cons_drop, List.take_append_drop]
  rw [e, dupF_app, h0]
  show (if x ∈ seen ++ ys.take i then some x else _) = some x
  rw [if_pos hx]
theorem dupF_step {seen ys : List Str} {x : Str} {i : Nat} (h : ys[i]? = some x) (h0 : dupF seen (ys.take i) = none) (hx : ¬ x ∈ seen ++ ys.take i) : dupF seen (ys.take (i + 1)) = none := by
  have e : ys.take (i + 1) = ys.take i ++ [x] := by rw [List.take_add_one, h]; rfl
  rw [e, dupF_app, h0]
  show (if x ∈ seen ++ ys.take i then some x else dupF _ []) = none
  rw [if_neg hx]
  rfl
noncomputable def keyS (x : Str) : Key := Sum.inr x
noncomputable def seenK (ys : List Str) (kvs : List (Key × V)) : Prop := kvs.length ≤ ys.length ∧ ∀ x, (valV kvs (keyS x)).isSome = decide (x ∈ ys)
theorem seenK_nil : seenK [] [] := ⟨Nat.le_refl _, fun x => by rw [valV_nil]; rfl⟩
theorem valV_put_self {kvs : List (Key × V)} {k : Key} {v : V} : (valV (putK kvs k v) k).isSome = true := by
  rw [valV_put, if_pos rfl]; rfl
theorem seenK_put {ys : List Str} {kvs : List (Key × V)} {x : Str} {v : V} (h : seenK ys kvs) : seenK (ys ++ [x]) (putK kvs (keyS x) v) := by
  have hl := length_putK kvs (keyS x) v
  refine ⟨by rw [List.length_append, List.length_singleton]; have := h.1; omega, fun y => ?_⟩
  by_cases e : y = x
  · subst e
    rw [valV_put_self]
    exact (decide_eq_true (by simp)).symm
  · have e2 : keyS y ≠ keyS x := fun z => e (by injection z)
    rw [valV_put, if_neg e2, h.2 y]
    refine decide_eq_decide.mpr ?_
    simp [e]
noncomputable def spTw (S : PySem.W.Frag → Hp → Addr → List V → Prop) (K : PySem.W.Frag) (C : Addr) : Sp := fun vs H Q E => ∃ (a : Addr) (ys : List Str), vs = [.ref a] ∧ S K H a (ys.map V.str) ∧ ys.length ≤ 1000 ∧
  (dupF [] ys = none → ∀ H', Same H H' → Q .non H') ∧ ∀ x, dupF [] ys = some x → XOut H C x E
section
variable {P : Program} {w : World} {K : PySem.W.Frag} {mg : Str → Option Value} {base : Heap}
theorem SqT.same' {a : Addr} {xs : List V} {H H' : Hp} (s : Same H H') (h : SqT K H a xs) : SqT K H' a xs := by
  rcases h with (h | ⟨o, h⟩) | h
  · exact .inl (.inl (s _ _ h))
  · exact .inl (.inr ⟨o, s _ _ h⟩)
  · exact .inr h
theorem scTwice : FnScope ["names", "before", "name"] ["names"] (defScope sTwice) := ⟨rfl, rfl, rfl, by decide +kernel, rfl, by decide +kernel, by decide +kernel⟩
theorem ok_twL {f  : Addr} {fd  : FuncData} (F : Fun K "refuse_twice" "refuse_twice" sTwice f fd) {CW fIW : Addr} {fdIW : FuncData} (XW : XC P w K mg base CW fIW fdIW "Twice") : FnOk P w K mg base (CX1 P w) 3 f fd ["names"] (spTw (fun K H a xs => SqL K H a xs) K CW) := by
  refine F.ok1 scTwice (fun vs H Q E h => ?_) (fun cdv A outer s H vs Q E hr h => ?_)
  · refine opq fun Gq kq => ?_
    obtain ⟨a, ys, rfl, _⟩ := h
    refine kq ?_
    clear kq
    rfl
  refine opq fun Gq kq => ?_
  obtain ⟨a, ys, rfl, hS, hl, q, qx⟩ := h
  refine kq ?_
  clear kq
  refine ⟨_, (@pss_cons _ _ _ _ _ (@ps_set _ _ (1) _ _ _ _ scTwice.nd rfl (Or.inl rfl) (@pe_dnewK _ _) (by rfl) (by first | exact .inl rfl | exact .inr rfl)) (@pss_one _ _ _ (@ps_for _ _ _ _ _ _ _ _ own1 rfl (@pi_list _ _ _ _ (@pv _ 0 _ _ (by rfl) (by first | exact Or.inl rfl | exact Or.inr (Or.inl rfl) | exact Or.inr (Or.inr rfl)) (by decide) (by decide))) (@pg_name _ _ (2) _ scTwice.nd rfl (Or.inl rfl) (by first | exact .inl rfl | exact .inr rfl)) (@pss_cons _ _ _ _ _ (@ps_if _ _ _ _ _ _ _ _ (@pt_cmp _ _ _ _ _ _ (@pc_din _ _ _ _ _ (hu_of hr) (@pv _ 2 _ _ (by rfl) (by first | exact Or.inl rfl | exact Or.inr (Or.inl rfl) | exact Or.inr (Or.inr rfl)) (by decide) (by decide)) (@pv _ 1 _ _ (by rfl) (by first | exact Or.inl rfl | exact Or.inr (Or.inl rfl) | exact Or.inr (Or.inr rfl)) (by decide) (by decide))) (by rfl)) (@pss_one _ _ _ (@ps_raise _ _ _ _ _ rfl flies_def (@pe_makeX _ _ _ _ _ _ _ _ _ _ _ _ _ _ _ XW.mkr XW.ini XW.fn XW.g hr rfl XW.m XW.b pass0 (@pa_cons _ _ _ _ _ (@pv _ 2 _ _ (by rfl) (by first | exact Or.inl rfl | exact Or.inr (Or.inl rfl) | exact Or.inr (Or.inr rfl)) (by decide) (by decide)) (@pa_nil _) (by rfl)) (by decide) (by rfl) (by rfl)))) (@pss_nil _)) (@pss_one _ _ _ (@ps_dput _ _ _ _ _ _ _ _ _ (hu_of hr) (@pv _ 1 _ _ (by rfl) (by first | exact Or.inl rfl | exact Or.inr (Or.inl rfl) | exact Or.inr (Or.inr rfl)) (by decide) (by decide)) (@pv _ 2 _ _ (by rfl) (by first | exact Or.inl rfl | exact Or.inr (Or.inl rfl) | exact Or.inr (Or.inr rfl)) (by decide) (by decide)) (@pe_bl _ _ _ _) (by rfl)))) (by intro _; rfl)))), ?_⟩
  try dsimp only [cxOf, Cx.nox, Cx.wish]
  have big := line_big
  intro d nd
  have s0 : Same H (upd H d (.dK [])) := same_upd nd
  have mv : ∀ {H' : Hp}, Same H H' → SqL K H' a (ys.map V.str) := fun s => Same.seq s hS
  refine ⟨_, rfl, a, rfl, ⟨_, mv s0⟩, for_list (K := K) (a := a) (xs := ys.map V.str) (fun i σ H' => ∃ (on : Option V) (kvs : List (Key × V)), σ = [some (.ref a), some (.ref d), on] ∧ H' d = some (.dK kvs) ∧ seenK (ys.take i) kvs ∧ dupF [] (ys.take i) = none ∧ Same H H')
    ⟨none, [], rfl, upd_same, seenK_nil, rfl, s0⟩ (fun i σ H' _ ⟨_, _, _, _, _, _, s'⟩ => mv s') ?_ ?_⟩
  · intro i x σ H' hx hq'
    refine opq fun Gq kq => ?_
    obtain ⟨on, kvs, rfl, hd, hk, h0, s'⟩ := hq'
    refine kq ?_
    clear kq
    rw [List.getElem?_map, Option.map_eq_some_iff] at hx
    obtain ⟨y, hy, rfl⟩ := hx
    have hil : i < ys.length := (List.getElem?_eq_some_iff.mp hy).1
    refine ⟨_, rfl, _, rfl, d, _, rfl, DGet.k (k := keyS y) hd, _, rfl, ?_⟩
    rw [hk.2 y]
    refine ite2 (fun c => ?_) (fun c => ?_)
    · have c' : y ∈ ys.take i := of_decide_eq_true c
      have hx := dupF_mid (seen := []) hy h0 (by simpa using c')
      refine ⟨_, rfl, (by show 1 ≤ 1000; decide), fun x0 n0 => ⟨x0, _, rfl, upd_same, fun d0 nd0 => ⟨rfl, x0, CW, some d0, rfl, ?_, XW.x, XW.ty, ?_⟩⟩⟩
      · have ne : d0 ≠ x0 := fun e => by rw [e, upd_same] at nd0; cases nd0
        rw [upd_ne (Ne.symm ne), upd_same]
      · exact fly_out n0 nd0 fun dx H'' k e => qx y hx dx H'' ((Kp.same s').trans k) e
    · have c' : ¬ y ∈ ys.take i := of_decide_eq_false (Bool.eq_false_iff.mpr c)
      have hlen : kvs.length ≤ 1000 := by
        have h1 := hk.1
        rw [List.length_take] at h1
        omega
      refine ⟨_, rfl, _, rfl, d, _, rfl, DPut.k (k := keyS y) hd (by omega), ?_⟩
      have et : ys.take (i + 1) = ys.take i ++ [y] := by rw [List.take_add_one, hy]; rfl
      refine ⟨_, _, rfl, upd_same, by rw [et]; exact seenK_put hk, dupF_step (seen := []) hy h0 (by simpa using c'), fun b o e => ?_⟩
      rw [upd_ne (ne_of_none e nd)]
      exact s' b o e
  · intro σ H' hq'
    refine opq fun Gq kq => ?_
    obtain ⟨on, kvs, rfl, hd, hk, h0, s'⟩ := hq'
    refine kq ?_
    clear kq
    rw [List.length_map, List.take_length] at h0
    exact q h0 H' s'
theorem ok_twT {f  : Addr} {fd  : FuncData} (F : Fun K "refuse_twice" "refuse_twice" sTwice f fd) {CW fIW : Addr} {fdIW : FuncData} (XW : XC P w K mg base CW fIW fdIW "Twice") : FnOk P w K mg base (CX1 P w) 3 f fd ["names"] (spTw (fun K H a xs => SqT K H a xs) K CW) := by
  refine F.ok1 scTwice (fun vs H Q E h => ?_) (fun cdv A outer s H vs Q E hr h => ?_)
  · refine opq fun Gq kq => ?_
    obtain ⟨a, ys, rfl, _⟩ := h
    refine kq ?_
    clear kq
    rfl
  refine opq fun Gq kq => ?_
  obtain ⟨a, ys, rfl, hS, hl, q, qx⟩ := h
  refine kq ?_
  clear kq
  refine ⟨_, (@pss_cons _ _ _ _ _ (@ps_set _ _ (1) _ _ _ _ scTwice.nd rfl (Or.inl rfl) (@pe_dnewK _ _) (by rfl) (by first | exact .inl rfl | exact .inr rfl)) (@pss_one _ _ _ (@ps_for _ _ _ _ _ _ _ _ own1 rfl (@pi_tup _ _ _ _ (@pv _ 0 _ _ (by rfl) (by first | exact Or.inl rfl | exact Or.inr (Or.inl rfl) | exact Or.inr (Or.inr rfl)) (by decide) (by decide))) (@pg_name _ _ (2) _ scTwice.nd rfl (Or.inl rfl) (by first | exact .inl rfl | exact .inr rfl)) (@pss_cons _ _ _ _ _ (@ps_if _ _ _ _ _ _ _ _ (@pt_cmp _ _ _ _ _ _ (@pc_din _ _ _ _ _ (hu_of hr) (@pv _ 2 _ _ (by rfl) (by first | exact Or.inl rfl | exact Or.inr (Or.inl rfl) | exact Or.inr (Or.inr rfl)) (by decide) (by decide)) (@pv _ 1 _ _ (by rfl) (by first | exact Or.inl rfl | exact Or.inr (Or.inl rfl) | exact Or.inr (Or.inr rfl)) (by decide) (by decide))) (by rfl)) (@pss_one _ _ _ (@ps_raise _ _ _ _ _ rfl flies_def (@pe_makeX _ _ _ _ _ _ _ _ _ _ _ _ _ _ _ XW.mkr XW.ini XW.fn XW.g hr rfl XW.m XW.b pass0 (@pa_cons _ _ _ _ _ (@pv _ 2 _ _ (by rfl) (by first | exact Or.inl rfl | exact Or.inr (Or.inl rfl) | exact Or.inr (Or.inr rfl)) (by decide) (by decide)) (@pa_nil _) (by rfl)) (by decide) (by rfl) (by rfl)))) (@pss_nil _)) (@pss_one _ _ _ (@ps_dput _ _ _ _ _ _ _ _ _ (hu_of hr) (@pv _ 1 _ _ (by rfl) (by first | exact Or.inl rfl | exact Or.inr (Or.inl rfl) | exact Or.inr (Or.inr rfl)) (by decide) (by decide)) (@pv _ 2 _ _ (by rfl) (by first | exact Or.inl rfl | exact Or.inr (Or.inl rfl) | exact Or.inr (Or.inr rfl)) (by decide) (by decide)) (@pe_bl _ _ _ _) (by rfl)))) (by intro _; rfl)))), ?_⟩
  try dsimp only [cxOf, Cx.nox, Cx.wish]
  have big := line_big
  intro d nd
  have s0 : Same H (upd H d (.dK [])) := same_upd nd
  have mv : ∀ {H' : Hp}, Same H H' → SqT K H' a (ys.map V.str) := fun s => SqT.same' s hS
  refine ⟨_, rfl, a, rfl, ⟨_, mv s0⟩, for_tup (K := K) (a := a) (xs := ys.map V.str) (fun i σ H' => ∃ (on : Option V) (kvs : List (Key × V)), σ = [some (.ref a), some (.ref d), on] ∧ H' d = some (.dK kvs) ∧ seenK (ys.take i) kvs ∧ dupF [] (ys.take i) = none ∧ Same H H')
    ⟨none, [], rfl, upd_same, seenK_nil, rfl, s0⟩ (fun i σ H' _ ⟨_, _, _, _, _, _, s'⟩ => mv s') ?_ ?_⟩
  · intro i x σ H' hx hq'
    refine opq fun Gq kq => ?_
    obtain ⟨on, kvs, rfl, hd, hk, h0, s'⟩ := hq'
    refine kq ?_
    clear kq
    rw [List.getElem?_map, Option.map_eq_some_iff] at hx
    obtain ⟨y, hy, rfl⟩ := hx
    have hil : i < ys.length := (List.getElem?_eq_some_iff.mp hy).1
    refine ⟨_, rfl, _, rfl, d, _, rfl, DGet.k (k := keyS y) hd, _, rfl, ?_⟩
    rw [hk.2 y]
    refine ite2 (fun c => ?_) (fun c => ?_)
    · have c' : y ∈ ys.take i := of_decide_eq_true c
      have hx := dupF_mid (seen := []) hy h0 (by simpa using c')
      refine ⟨_, rfl, (by show 1 ≤ 1000; decide), fun x0 n0 => ⟨x0, _, rfl, upd_same, fun d0 nd0 => ⟨rfl, x0, CW, some d0, rfl, ?_, XW.x, XW.ty, ?_⟩⟩⟩
      · have ne : d0 ≠ x0 := fun e => by rw [e, upd_same] at nd0; cases nd0
        rw [upd_ne (Ne.symm ne), upd_same]
      · exact fly_out n0 nd0 fun dx H'' k e => qx y hx dx H'' ((Kp.same s').trans k) e
    · have c' : ¬ y ∈ ys.take i := of_decide_eq_false (Bool.eq_false_iff.mpr c)
      have hlen : kvs.length ≤ 1000 := by
        have h1 := hk.1
        rw [List.length_take] at h1
        omega
      refine ⟨_, rfl, _, rfl, d, _, rfl, DPut.k (k := keyS y) hd (by omega), ?_⟩
      have et : ys.take (i + 1) = ys.take i ++ [y] := by rw [List.take_add_one, hy]; rfl
      refine ⟨_, _, rfl, upd_same, by rw [et]; exact seenK_put hk, dupF_step (seen := []) hy h0 (by simpa using c'), fun b o e => ?_⟩
      rw [upd_ne (ne_of_none e nd)]
      exact s' b o e
  · intro σ H' hq'
    refine opq fun Gq kq => ?_
    obtain ⟨on, kvs, rfl, hd, hk, h0, s'⟩ := hq'
    refine kq ?_
    clear kq
    rw [List.length_map, List.take_length] at h0
    exact q h0 H' s'

/-- a statement, and what is within it -/
inductive StV (H : Hp) : V → Bd → Option (Str × Nat) → Prop
  | call (p : Addr) (x : V) (t : Addr) (ts : List V) (f : Str) (h1 : H p = some (.tup [.str "call", x, .str f, .ref t])) (h2 : H t = some (.tup ts)) : StV H (.ref p) .nil (some (f, ts.length))
  | ite (p : Addr) (x : V) (qa qb : Addr) (as bs : List V) (a b : Bd) (h1 : H p = some (.tup [.str "if", x, .ref qa, .ref qb])) (h2 : H qa = some (.tup as)) (h3 : H qb = some (.tup bs)) (h4 : BdV H a as) (h5 : BdV H b bs) : StV H (.ref p) (a.app b) none
  | loop (p : Addr) (x : V) (qa : Addr) (as : List V) (a : Bd) (h1 : H p = some (.tup [.str "while", x, .ref qa])) (h2 : H qa = some (.tup as)) (h3 : BdV H a as) : StV H (.ref p) a none
  | oth (p : Addr) (w : Str) (zs : List V) (h0 : othW w) (h1 : H p = some (.tup (.str w :: zs))) : StV H (.ref p) .nil none
theorem StV.mono {H H' : Hp} (k : TMono H H') {v : V} {inn : Bd} {c : Option (Str × Nat)} (h : StV H v inn c) : StV H' v inn c := by
  cases h with
  | call p x t ts f h1 h2 => exact .call p x t ts f (k _ _ h1) (k _ _ h2)
  | ite p x qa qb as bs a b h1 h2 h3 h4 h5 => exact .ite p x qa qb as bs a b (k _ _ h1) (k _ _ h2) (k _ _ h3) (h4.mono k) (h5.mono k)
  | loop p x qa as a h1 h2 h3 => exact .loop p x qa as _ (k _ _ h1) (k _ _ h2) (h3.mono k)
  | oth p w zs h0 h1 => exact .oth p w zs h0 (k _ _ h1)
theorem bd_uncons {H : Hp} {B : Bd} {v : V} {ys : List V} (h : BdV H B (v :: ys)) : ∃ inn c r, StV H v inn c ∧ BdV H r ys ∧ B.size = inn.size + r.size + 1 ∧ B.calls = c.toList ++ inn.calls ++ r.calls := by
  cases B with
  | nil => cases (show _ = [] from h)
  | call f n r =>
    obtain ⟨p, x, t, ts, ys, e, h1, h2, h3, h4⟩ := h
    cases e
    exact ⟨.nil, some (f, n), r, h3 ▸ .call p x t ts f h1 h2, h4, by show r.size + 1 = 0 + r.size + 1; omega, rfl⟩
  | ite a b r =>
    obtain ⟨p, x, qa, qb, as, bs, ys, e, h1, h2, h3, h4, h5, h6⟩ := h
    cases e
    exact ⟨a.app b, none, r, .ite p x qa qb as bs a b h1 h2 h3 h4 h5, h6, by rw [size_app]; rfl, by rw [calls_app]; rfl⟩
  | loop a r =>
    obtain ⟨p, x, qa, as, ys, e, h1, h2, h3, h4⟩ := h
    cases e
    exact ⟨a, none, r, .loop p x qa as a h1 h2 h3, h4, rfl, rfl⟩
  | oth r =>
    obtain ⟨p, w, zs, ys, e, h0, h1, h2⟩ := h
    cases e
    exact ⟨.nil, none, r, .oth p w zs h0 h1, h2, by show r.size + 1 = 0 + r.size + 1; omega, rfl⟩
theorem bd_nil {H : Hp} {B : Bd} (h : BdV H B []) : B = .nil := by
  cases B with
  | nil => rfl
  | call f n r => obtain ⟨_, _, _, _, _, e, _⟩ := h; cases e
  | ite a b r => obtain ⟨_, _, _, _, _, _, _, e, _⟩ := h; cases e
  | loop a r => obtain ⟨_, _, _, _, _, e, _⟩ := h; cases e
  | oth r => obtain ⟨_, _, _, _, e, _⟩ := h; cases e
theorem othW_no {w z : Str} (h : othW w) (hz : z = "if" ∨ z = "while" ∨ z = "call") : decide (V.str w = V.str z) = false := by
  rcases h with rfl | rfl | rfl | rfl <;> rcases hz with rfl | rfl | rfl <;> decide +kernel
noncomputable def spBodies (K : PySem.W.Frag) : Sp := fun vs H Q _ => ∃ (v : V) (inn : Bd) (c : Option (Str × Nat)), vs = [v] ∧ StV H v inn c ∧ inn.size ≤ 10000000 ∧ ∀ (r : Addr) (xs : List V) (H' : Hp), SqT K H' r xs → BdV H' inn xs → Same H H' → Q (.ref r) H'
theorem calls_len : ∀ (b : Bd), b.calls.length ≤ b.size
  | .nil => Nat.le_refl 0
  | .call f n r => by have := calls_len r; show (r.calls.length + 1) ≤ r.size + 1; omega
  | .ite a b r => by have h1 := calls_len a; have h2 := calls_len b; have h3 := calls_len r; show (a.calls ++ b.calls ++ r.calls).length ≤ a.size + b.size + r.size + 1; rw [List.length_append, List.length_append]; omega
  | .loop a r => by have h1 := calls_len a; have h3 := calls_len r; show (a.calls ++ r.calls).length ≤ a.size + r.size + 1; rw [List.length_append]; omega
  | .oth r => by have := calls_len r; show r.calls.length ≤ r.size + 1; omega
theorem at0 {x : V} {r : List V} : atI (x :: r) 0 = some x := by
  show atI (x :: r) ((0 : Nat) : Int) = some x
  exact atI_nat rfl
theorem line24 : sizeLine = 16777216 := by rw [sizeLine_eq]
theorem scBodies : FnScope ["statement"] ["statement"] (defScope sBodies) := ⟨rfl, rfl, rfl, by decide +kernel, rfl, by decide +kernel, by decide +kernel⟩
theorem ok_bodies {f  : Addr} {fd  : FuncData} (F : Fun K "bodies_in" "bodies_in" sBodies f fd)  : FnOk P w K mg base CX0 1 f fd ["statement"] (spBodies K) := by
  refine F.ok scBodies (fun vs H Q E h => ?_) (fun cdv A outer s H vs Q E hr h => ?_)
  · refine opq fun Gq kq => ?_
    obtain ⟨v, inn, c, rfl, _⟩ := h
    refine kq ?_
    clear kq
    rfl
  refine opq fun Gq kq => ?_
  obtain ⟨v, inn, c, rfl, hst, hsz, q⟩ := h
  refine kq ?_
  clear kq
  refine ⟨_, (@pss_cons _ _ _ _ _ (@ps_if _ _ _ _ _ _ _ _ (@pt_cmpR _ _ _ _ _ _ _ _ op_eq (@pe_ix _ _ _ _ _ _ _ ix_tup (@pv _ 0 _ _ (by rfl) (by first | exact Or.inl rfl | exact Or.inr (Or.inl rfl) | exact Or.inr (Or.inr rfl)) (by decide) (by decide)) (@pe_int _ _ _ _) (fun _ _ => rfl)) (@pe_str _ _ _ _) (@nomark _ _ (by decide) (by decide))) (@pss_one _ _ _ (@ps_ret _ _ _ _ (@pe_op _ _ _ _ _ _ _ _ op_catA (@pe_ix _ _ _ _ _ _ _ ix_tup (@pv _ 0 _ _ (by rfl) (by first | exact Or.inl rfl | exact Or.inr (Or.inl rfl) | exact Or.inr (Or.inr rfl)) (by decide) (by decide)) (@pe_int _ _ _ _) (fun _ _ => rfl)) (@pe_ix _ _ _ _ _ _ _ ix_tup (@pv _ 0 _ _ (by rfl) (by first | exact Or.inl rfl | exact Or.inr (Or.inl rfl) | exact Or.inr (Or.inr rfl)) (by decide) (by decide)) (@pe_int _ _ _ _) (fun _ _ => rfl))))) (@pss_nil _)) (@pss_cons _ _ _ _ _ (@ps_if _ _ _ _ _ _ _ _ (@pt_cmpR _ _ _ _ _ _ _ _ op_eq (@pe_ix _ _ _ _ _ _ _ ix_tup (@pv _ 0 _ _ (by rfl) (by first | exact Or.inl rfl | exact Or.inr (Or.inl rfl) | exact Or.inr (Or.inr rfl)) (by decide) (by decide)) (@pe_int _ _ _ _) (fun _ _ => rfl)) (@pe_str _ _ _ _) (@nomark _ _ (by decide) (by decide))) (@pss_one _ _ _ (@ps_ret _ _ _ _ (@pe_ix _ _ _ _ _ _ _ ix_tup (@pv _ 0 _ _ (by rfl) (by first | exact Or.inl rfl | exact Or.inr (Or.inl rfl) | exact Or.inr (Or.inr rfl)) (by decide) (by decide)) (@pe_int _ _ _ _) (fun _ _ => rfl)))) (@pss_nil _)) (@pss_one _ _ _ (@ps_ret _ _ _ _ (@pe_tup _ _ _ _ _ (@pa_nil _)))))), ?_⟩
  try dsimp only [cxOf, Cx.nox, Cx.wish]
  have big := line24
  refine seqF fun E1 f1 => ifE fun G gy gn => ?_
  rcases hst with ⟨p, x, t, ts, f, h1, h2⟩ | ⟨p, x, qa, qb, as, bs, a, b, h1, h2, h3, h4, h5⟩ | ⟨p, x, qa, as, a, h1, h2, h3⟩ | ⟨p, w, zs, h0, h1⟩
  · refine ⟨_, rfl, p, _, _, _, rfl, rfl, SqT.of h1, rfl, rfl, _, rfl, gn _ (f1 _ _ (seqF fun E2 f2 => ifE fun G gy gn => ?_))⟩
    refine ⟨_, rfl, p, _, _, _, rfl, rfl, SqT.of h1, rfl, rfl, _, rfl, gn _ (f2 _ _ ?_)⟩
    exact ⟨(by show 0 ≤ sizeLine; exact Nat.zero_le _), fun r nr => q r [] _ (SqT.of upd_same) rfl (same_upd nr)⟩
  · refine ⟨_, rfl, p, _, _, _, rfl, rfl, SqT.of h1, rfl, rfl, _, rfl, gy _ ?_⟩
    clear f1 gy gn
    rw [size_app] at hsz
    have l1 := h4.len
    have l2 := h5.len
    refine ⟨_, rfl, p, _, _, _, rfl, rfl, SqT.of h1, rfl, _, rfl, p, _, _, _, rfl, rfl, SqT.of h1, rfl, qa, qb, as, bs, rfl, rfl, SqT.of h2, SqT.of h3, by omega, fun r H' hr s => ?_⟩
    exact q r _ H' hr ((h5.mono (Same.tm s)).app (h4.mono (Same.tm s))) s
  · refine ⟨_, rfl, p, _, _, _, rfl, rfl, SqT.of h1, rfl, rfl, _, rfl, gn _ (f1 _ _ (seqF fun E2 f2 => ifE fun G gy gn => ?_))⟩
    refine ⟨_, rfl, p, _, _, _, rfl, rfl, SqT.of h1, rfl, rfl, _, rfl, gy _ ?_⟩
    exact ⟨_, rfl, p, _, _, _, rfl, rfl, SqT.of h1, rfl, q qa as H (SqT.of h2) h3 (Same.refl H)⟩
  · refine ⟨_, rfl, p, _, _, _, rfl, rfl, SqT.of h1, at0, rfl, _, rfl, ?_⟩
    rw [othW_no h0 (.inl rfl)]
    refine gn _ (f1 _ _ (seqF fun E2 f2 => ifE fun G gy gn => ?_))
    refine ⟨_, rfl, p, _, _, _, rfl, rfl, SqT.of h1, at0, rfl, _, rfl, ?_⟩
    rw [othW_no h0 (.inr (.inl rfl))]
    refine gn _ (f2 _ _ ?_)
    exact ⟨(by show 0 ≤ sizeLine; exact Nat.zero_le _), fun r nr => q r [] _ (SqT.of upd_same) rfl (same_upd nr)⟩
theorem scCallsIn : FnScope ["body", "calls", "todo", "statement"] ["body"] (defScope sCallsIn) := ⟨rfl, rfl, rfl, by decide +kernel, rfl, by decide +kernel, by decide +kernel⟩
noncomputable def spCallsIn : Sp := fun vs H Q _ => ∃ (a : Addr) (B : Bd) (bs : List V), vs = [.ref a] ∧ H a = some (.tup bs) ∧ BdV H B bs ∧ B.size ≤ 10000000 ∧
  ∀ (r : Addr) (cv : List V) (H' : Hp), H r = none → H' r = some (.lst cv) → CallsV H' B.calls cv → Same H H' → Q (.ref r) H'
inductive BI (a cl td : Addr) (B : Bd) (H : Hp) (m : Nat) (σ : L2.St) (H' : Hp) : Prop
  | mk (o3 : Option V) (W : Bd) (zs cv : List V) (cs : List (Str × Nat)) (e1 : m = W.size) (e2 : σ = [some (.ref a), some (.ref cl), some (.ref td), o3]) (e3 : H' td = some (.lst zs)) (e4 : BdV H' W zs.reverse) (e5 : H' cl = some (.lst cv)) (e6 : CallsV H' cs cv) (e7 : cs ++ W.calls = B.calls) (e8 : W.size ≤ 10000000) (e9 : cs.length + W.size ≤ B.size) (e10 : ∀ b o, H b = some o → H' b = some o) : BI a cl td B H m σ H'
inductive BJ (a cl td : Addr) (v : V) (ys : List V) (inn : Bd) (c : Option (Str × Nat)) (r : Bd) (cs : List (Str × Nat)) (H : Hp) (σ' : L2.St) (H' : Hp) : Prop
  | mk (e1 : σ' = [some (.ref a), some (.ref cl), some (.ref td), some v]) (e2 : H' td = some (.lst ys.reverse)) (e3 : StV H' v inn c) (e4 : BdV H' r ys) (cv' : List V) (e5 : H' cl = some (.lst cv')) (e6 : CallsV H' (cs ++ c.toList) cv') (e7 : ∀ b o, H b = some o → H' b = some o) : BJ a cl td v ys inn c r cs H σ' H'
theorem ok_callsin {f  : Addr} {fd  : FuncData} (F : Fun K "calls_in" "calls_in" sCallsIn f fd) (GB : FnOk P w K mg base CX0 1 fB fdB ["statement"] (spBodies K)) (bB : Binds K fdB ["statement"] []) (kB : PySem.W.keepIn K (.ref fB) = true) (mB : mg "bodies_in" = some (.ref fB)) (mli : mg "list" = none) (mre : mg "reversed" = none) : FnOk P w K mg base CX0 2 f fd ["body"] spCallsIn := by
  refine F.ok scCallsIn (fun vs H Q E h => ?_) (fun cdv A outer s H vs Q E hr h => ?_)
  · refine opq fun Gq kq => ?_
    obtain ⟨a, B, bs, rfl, _⟩ := h
    refine kq ?_
    clear kq
    rfl
  refine opq fun Gq kq => ?_
  obtain ⟨a, B, bs, rfl, ha, hB, hsz, q⟩ := h
  refine kq ?_
  clear kq
  refine ⟨_, (@pss_cons _ _ _ _ _ (@ps_set _ _ (1) _ _ _ _ scCallsIn.nd rfl (Or.inl rfl) (@pe_lst _ _ _ _ (@pa_nil _)) (by rfl) (by first | exact .inl rfl | exact .inr rfl)) (@pss_cons _ _ _ _ _ (@ps_set _ _ (2) _ _ _ _ scCallsIn.nd rfl (Or.inl rfl) (@pe_listrev _ _ _ _ _ _ _ _ _ rfl rfl mli PyProof.Rows.boot_list rfl mre PyProof.Rows.boot_reversed (@pv _ 0 _ _ (by rfl) (by first | exact Or.inl rfl | exact Or.inr (Or.inl rfl) | exact Or.inr (Or.inr rfl)) (by decide) (by decide)) (by decide) (by decide) (by decide) (by decide) (by rfl) (by rfl) (by rfl) (by rfl)) (by rfl) (by first | exact .inl rfl | exact .inr rfl)) (@pss_cons _ _ _ _ _ (@ps_while _ _ _ _ _ _ PassesOwn.never (@pt_truth _ _ _ (@pv _ 2 _ _ (by rfl) (by first | exact Or.inl rfl | exact Or.inr (Or.inl rfl) | exact Or.inr (Or.inr rfl)) (by decide) (by decide)) (fun _ => rfl)) (@pss_cons _ _ _ _ _ (@ps_set _ _ (3) _ _ _ _ scCallsIn.nd rfl (Or.inl rfl) (@pe_bm0 _ _ _ _ _ _ _ _ _ PySem.F.plainAttrs_list PySem.F.slot_list_pop PySem.F.type_list_pop mt_pop (@pv _ 2 _ _ (by rfl) (by first | exact Or.inl rfl | exact Or.inr (Or.inl rfl) | exact Or.inr (Or.inr rfl)) (by decide) (by decide)) (by rfl) (by rfl)) (by rfl) (by first | exact .inl rfl | exact .inr rfl)) (@pss_cons _ _ _ _ _ (@ps_mid _ _ _ (@ps_if _ _ _ _ _ _ _ _ (@pt_cmpR _ _ _ _ _ _ _ _ op_eq (@pe_ix _ _ _ _ _ _ _ ix_tup (@pv _ 3 _ _ (by rfl) (by first | exact Or.inl rfl | exact Or.inr (Or.inl rfl) | exact Or.inr (Or.inr rfl)) (by decide) (by decide)) (@pe_int _ _ _ _) (fun _ _ => rfl)) (@pe_str _ _ _ _) (@nomark _ _ (by decide) (by decide))) (@pss_one _ _ _ (@ps_expr _ _ _ _ (@pe_bm _ _ _ _ _ _ _ _ _ _ _ _ PySem.F.plainAttrs_list PySem.F.slot_list_append PySem.F.type_list_append mt_append (@pv _ 1 _ _ (by rfl) (by first | exact Or.inl rfl | exact Or.inr (Or.inl rfl) | exact Or.inr (Or.inr rfl)) (by decide) (by decide)) (@pa_cons _ _ _ _ _ (@pv _ 3 _ _ (by rfl) (by first | exact Or.inl rfl | exact Or.inr (Or.inl rfl) | exact Or.inr (Or.inr rfl)) (by decide) (by decide)) (@pa_nil _) (by rfl)) (by rfl) (by rfl) (by rfl) (by rfl) (by rfl)) (by rfl))) (@pss_nil _))) (@pss_one _ _ _ (@ps_expr _ _ _ _ (@pe_bm _ _ _ _ _ _ _ _ _ _ _ _ PySem.F.plainAttrs_list PySem.F.slot_list_extend PySem.F.type_list_extend mt_extend (@pv _ 2 _ _ (by rfl) (by first | exact Or.inl rfl | exact Or.inr (Or.inl rfl) | exact Or.inr (Or.inr rfl)) (by decide) (by decide)) (@pa_cons _ _ _ _ _ (@pe_listrev _ _ _ _ _ _ _ _ _ rfl rfl mli PyProof.Rows.boot_list rfl mre PyProof.Rows.boot_reversed (@pe_call _ _ _ _ _ _ _ _ _ _ _ _ _ _ _ _ GB hr rfl mB kB bB .nil pass0 (@pa_cons _ _ _ _ _ (@pv _ 3 _ _ (by rfl) (by first | exact Or.inl rfl | exact Or.inr (Or.inl rfl) | exact Or.inr (Or.inr rfl)) (by decide) (by decide)) (@pa_nil _) (by rfl)) (by decide) (by rfl) (by rfl)) (by decide) (by decide) (by decide) (by decide) (by rfl) (by rfl) (by rfl) (by rfl)) (@pa_nil _) (by rfl)) (by rfl) (by rfl) (by rfl) (by rfl) (by rfl)) (by rfl)))))) (@pss_one _ _ _ (@ps_ret _ _ _ _ (@pv _ 1 _ _ (by rfl) (by first | exact Or.inl rfl | exact Or.inr (Or.inl rfl) | exact Or.inr (Or.inr rfl)) (by decide) (by decide))))))), ?_⟩
  try dsimp only [cxOf, Cx.nox, Cx.wish]
  have big := line24
  refine seqE fun E1 f1 => ⟨Nat.zero_le _, fun cl ncl => f1 _ _ ?_⟩
  refine seqE fun E2 f2 => ⟨_, rfl, a, bs, rfl, SqT.of (keepN ha ncl), fun td ntd => f2 _ _ ?_⟩
  clear f1 f2
  have tc : td ≠ cl := fun e => by rw [e, upd_same] at ntd; cases ntd
  have htd : H td = none := by rw [upd_ne tc] at ntd; exact ntd
  refine seqE fun E3 f3 => ?_
  refine whileE (BI a cl td B H) B.size ⟨none, B, bs.reverse, [], [], rfl, rfl, upd_same, by rw [List.reverse_reverse]; exact (hB.mono (Same.tm (same_upd ncl))).mono (Same.tm (same_upd ntd)), by rw [upd_ne (Ne.symm tc), upd_same], rfl, rfl, hsz, by simp, fun b o e => keepN (keepN e ncl) ntd⟩ ?_
  intro m σ H1 E _ fE F' gy gn G k hq'
  refine opq fun Gq kq => ?_
  obtain ⟨o3, W, zs, cv, cs, rfl, rfl, h1, hW, hc, hcv, hcs, hwz, hbz, k1⟩ := hq'
  refine kq ?_
  clear kq
  refine k ?_
  clear k
  refine ⟨_, rfl, !zs.isEmpty, .inl ⟨zs, SqL.of h1, rfl⟩, ?_⟩
  cases hz : zs.reverse with
  | nil =>
    have ez : zs = [] := by rw [← List.reverse_reverse zs, hz]; rfl
    subst ez
    refine gn _ (f3 _ _ ?_)
    have eW := bd_nil (hz ▸ hW)
    subst eW
    refine ⟨_, rfl, q cl cv H1 ncl hc ?_ fun b o e => k1 b o e⟩
    have e0 : cs = B.calls := by rw [← hcs]; exact (List.append_nil cs).symm
    rw [← e0]; exact hcv
  | cons v ys =>
    have ez : zs = ys.reverse ++ [v] := by rw [← List.reverse_reverse zs, hz, List.reverse_cons]
    subst ez
    rw [hz] at hW
    refine opq fun Gq kq => ?_
    obtain ⟨inn, c, r, hst, hr, es, ec⟩ := bd_uncons hW
    refine kq ?_
    clear kq
    rw [show (!(ys.reverse ++ [v]).isEmpty) = true by simp]
    refine gy _ ?_
    clear gy gn f3
    -- pop
    refine seqE fun E4 f4 => ?_
    refine ⟨_, rfl, .inl ⟨rfl, _, SqL.of h1⟩, td, _, v, rfl, rfl, h1, by simp, f4 _ _ ?_⟩
    rw [List.dropLast_concat]
    have tm2 : TMono H1 (upd H1 td (.lst ys.reverse)) := fun b xs e => by rw [upd_ne (ne_of e h1 (by intro z; cases z))]; exact e
    have c2 : upd H1 td (.lst ys.reverse) cl = some (.lst cv) := by rw [upd_ne (Ne.symm tc)]; exact hc
    have k2 : ∀ b o, H b = some o → upd H1 td (.lst ys.reverse) b = some o := fun b o e => by rw [upd_ne (ne_of_none e htd)]; exact k1 b o e
    have t2 : upd H1 td (.lst ys.reverse) td = some (.lst ys.reverse) := upd_same
    have hst2 := hst.mono tm2
    have hr2 := hr.mono tm2
    have hcv2 := hcv.mono tm2
    generalize upd H1 td (.lst ys.reverse) = H2 at c2 k2 t2 hst2 hr2 hcv2
    have lcv := hcv.len
    clear f4 hst hr hcv hc hW h1 tm2 k1
    -- a call is noted
    refine seqE fun E5 f5 => ?_
    refine midE (BJ a cl td v ys inn c r cs H) (fun E6 _ f6 => ifE fun G gy gn => ?_) fun σ' H3 z => ?_
    · have hs2 := hst2
      have nn : cs ++ (none : Option (Str × Nat)).toList = cs := List.append_nil cs
      clear f5 fE
      rcases hst2 with ⟨p, x, t, ts, f, h4, h5⟩ | ⟨p, x, qa, qb, as, bs', a', b', h4, h5, h6, h7, h8⟩ | ⟨p, x, qa, as, a', h4, h5, h6⟩ | ⟨p, w, zs, h0, h4⟩
      · refine ⟨_, rfl, p, _, _, _, rfl, rfl, SqT.of h4, rfl, rfl, _, rfl, gy _ ?_⟩
        have tm3 : TMono H2 (upd H2 cl (.lst (cv ++ [.ref p]))) := fun b xs e => by rw [upd_ne (ne_of e c2 (by intro z; cases z))]; exact e
        have lw : W.calls.length ≤ W.size := calls_len W
        refine ⟨_, rfl, .inl ⟨rfl, _, SqL.of c2⟩, _, rfl, cl, _, _, rfl, rfl, c2, by rw [lcv]; omega, f6 _ _ ?_⟩
        refine ⟨rfl, by rw [upd_ne tc]; exact t2, hs2.mono tm3, hr2.mono tm3, _, upd_same, (hcv2.mono tm3).snoc ⟨p, x, t, ts, rfl, tm3 _ _ h4, tm3 _ _ h5, rfl⟩, fun b o e => ?_⟩
        rw [upd_ne (ne_of_none e ncl)]
        exact k2 b o e
      · exact ⟨_, rfl, p, _, _, _, rfl, rfl, SqT.of h4, rfl, rfl, _, rfl, gn _ (f6 _ _ ⟨rfl, t2, hs2, hr2, cv, c2, by rw [nn]; exact hcv2, k2⟩)⟩
      · exact ⟨_, rfl, p, _, _, _, rfl, rfl, SqT.of h4, rfl, rfl, _, rfl, gn _ (f6 _ _ ⟨rfl, t2, hs2, hr2, cv, c2, by rw [nn]; exact hcv2, k2⟩)⟩
      · refine ⟨_, rfl, p, _, _, _, rfl, rfl, SqT.of h4, at0, rfl, _, rfl, ?_⟩
        rw [othW_no h0 (.inr (.inr rfl))]
        exact gn _ (f6 _ _ ⟨rfl, t2, hs2, hr2, cv, c2, by rw [nn]; exact hcv2, k2⟩)
    refine opq fun Gq kq => ?_
    obtain ⟨rfl, t3, hst3, hr3, cv3, c3, hcv3, k3⟩ := z
    refine kq ?_
    clear kq
    refine f5 _ _ ?_
    clear f5 hst2 hr2 hcv2 c2 k2 t2
    -- what is within it
    have isz : inn.size ≤ 10000000 := by omega
    refine ⟨_, rfl, .inl ⟨rfl, _, SqL.of t3⟩, _, rfl, v, inn, c, rfl, hst3, isz, fun rr xs H4 hq hxs s4 => ?_⟩
    refine ⟨rr, xs, rfl, hq, fun nl nnl => ?_⟩
    have lx := hxs.len
    have lr := hr3.len
    refine ⟨td, nl, _, _, rfl, rfl, keepN (s4 _ _ t3) nnl, upd_same, by rw [List.length_reverse, List.length_reverse]; omega, ?_⟩
    have tm5 : TMono H4 (upd (upd H4 nl (.lst xs.reverse)) td (.lst (ys.reverse ++ xs.reverse))) := fun b zs e => by
      rw [upd_ne (ne_of e (s4 _ _ t3) (by intro z; cases z)), upd_ne (ne_of_none e nnl)]; exact e
    have eb : (ys.reverse ++ xs.reverse).reverse = xs ++ ys := by rw [List.reverse_append, List.reverse_reverse, List.reverse_reverse]
    have sc := calls_len inn
    refine fE (inn.app r).size _ _ (by rw [size_app]; omega) ⟨some v, inn.app r, ys.reverse ++ xs.reverse, cv3, cs ++ c.toList, rfl, rfl, upd_same, by rw [eb]; exact (hr3.mono (fun b zs e => tm5 _ _ (s4 _ _ e))).app (hxs.mono tm5), ?_, hcv3.mono (fun b zs e => tm5 _ _ (s4 _ _ e)), ?_, by rw [size_app]; omega, ?_, fun b o e => ?_⟩
    · rw [upd_ne (Ne.symm tc)]
      exact keepN (s4 _ _ c3) nnl
    · rw [calls_app, ← hcs, ec]
      simp only [List.append_assoc]
    · rw [size_app, List.length_append]
      have : c.toList.length ≤ 1 := by cases c <;> simp
      omega
    · rw [upd_ne (ne_of_none e htd)]
      exact keepN (s4 _ _ (k3 b o e)) nnl
end
end K9

set_option Elab.async false
set_option linter.all false
set_option maxRecDepth 100000
set_option maxHeartbeats 4000000
namespace K9
open PySem PySem.Spec PyProof.Rows L2

theorem pg_tupK {X : Cx} {K : PySem.W.Frag} {pos : Pos} {es : List Expr} {k : Nat} {t : TGs} {n : Nat} (hK : X.K = K) (hc : X.calm = true) (h : PGs X es t)
    (hn : (assignEach es X.env).length = n) (hst : (assignEach es X.env).findIdx? (·.1) = none) : PG X (.Tuple es k pos) (gTup K n t) := by
  subst hK
  exact pg_tup hc h hn hst
noncomputable def rLenK (K : PySem.W.Frag) : List V → Hp → VK → Prop := fun xs H Q => ∃ p ys, xs = [.ref p] ∧ (SqL K H p ys ∨ SqT K H p ys) ∧ Q (.int ys.length) H
theorem call_lenK {X : Cx} {K : PySem.W.Frag} (hK : X.K = K) : CallR X (.builtin "len") (rLenK K) := by
  subst hK
  exact call_len_seq
noncomputable abbrev g3 (K : PySem.W.Frag) (i j k : Nat) : TG := gTup K 3 (gCons (gName i) (gCons (gName j) (gCons (gName k) gNil)))
theorem len3 {ts : L2.St} (h : ts.length = 3) : ∃ a b c, ts = [a, b, c] := by
  match ts, h with
  | [a, b, c], _ => exact ⟨a, b, c, rfl⟩
theorem compR_dfs {K : PySem.W.Frag} {a : Addr} {ds : List Df} {vs : List V} {te : TE} {Qf : List V → Hp → Prop} {σt : L2.St} {H : Hp} (hq : H a = some (.tup vs)) (hD : DfsV H ds vs) (hz : ds.length ≤ 1000)
    (Pv : Nat → List V → Hp → Prop) (h0 : Pv 0 [] H) (hk : ∀ i ys H', Pv i ys H' → Same H H' ∧ ys.length ≤ i)
    (hs : ∀ i d pp pb bs ys H', ds[i]? = some d → H' pp = some (.tup (d.ps.map V.str)) → H' pb = some (.tup bs) → BdV H' d.b bs → Pv i ys H' → te (some (.str d.f) :: some (.ref pp) :: some (.ref pb) :: σt) H' fun y H2 => Pv (i + 1) (ys ++ [y]) H2)
    (hd : ∀ ys H', Pv ds.length ys H' → Qf ys H') : CompR (Itt K a) 3 σt (g3 K 0 1 2) tAll te Qf H := by
  have big := line24
  have hl := hD.len
  refine ⟨fun i m ys H' => m = ds.length - i ∧ i ≤ ds.length ∧ Pv i ys H', ⟨ds.length, by simp, Nat.zero_le _, h0⟩, ?_⟩
  intro i m ys H' hq'
  refine opq fun Gq kq => ?_
  obtain ⟨rfl, hi, p⟩ := hq'
  refine kq ?_
  clear kq
  obtain ⟨s, hy⟩ := hk i ys H' p
  have hq' : SqT K H' a vs := SqT.of (s _ _ hq)
  by_cases hlt : i < ds.length
  · have hv : i < vs.length := by omega
    refine .inr ⟨⟨vs, vs[i], hq', List.getElem?_eq_getElem hv⟩, by omega, Pv (i + 1), fun ys' H2 p' => ⟨ds.length - (i + 1), by omega, rfl, hlt, p'⟩, fun v H2 ts hts y => ?_⟩
    obtain ⟨e, y⟩ := y
    subst e
    have hv' := y vs hq'
    refine opq fun Gq kq => ?_
    obtain ⟨d, hd', p0, pp, pb, bs, rfl, h1, h2, h3, h4⟩ := (hD.mono (Same.tm s)).at i v hv'
    refine kq ?_
    clear kq
    refine opq fun Gq kq => ?_
    obtain ⟨t1, t2, t3, rfl⟩ := len3 hts
    refine kq ?_
    clear kq
    refine ⟨p0, _, rfl, SqT.of h1, rfl, _, _, rfl, _, _, rfl, _, _, rfl, rfl, ⟨[some _, some _, some _], rfl, rfl⟩, ?_⟩
    exact hs i d pp pb bs ys H2 hd' h2 h3 h4 p
  · have e : i = ds.length := by omega
    subst e
    exact .inl ⟨⟨vs, hq', by omega⟩, hd ys H' p⟩
theorem dup_nodup : ∀ {ys seen : List Str}, dupF seen ys = none → ys.Nodup ∧ ∀ y ∈ ys, ¬ y ∈ seen
  | [], _, _ => ⟨List.nodup_nil, fun _ h => nomatch h⟩
  | x :: r, seen, h => by
    have h' : (if x ∈ seen then some x else dupF (seen ++ [x]) r) = none := h
    by_cases hx : x ∈ seen
    · rw [if_pos hx] at h'; cases h'
    · rw [if_neg hx] at h'
      obtain ⟨n1, n2⟩ := dup_nodup h'
      refine ⟨List.nodup_cons.mpr ⟨fun m => n2 x m (by simp), n1⟩, fun y hy => ?_⟩
      rcases List.mem_cons.mp hy with rfl | hy
      · exact hx
      · exact fun m => n2 y hy (by simp [m])
noncomputable def cntK (d : Df) : Key × V := (keyS d.f, .int d.ps.length)
theorem cnt_cons (d : Df) (r : List Df) (f : Str) : cnt (d :: r) f = if d.f = f then some d.ps.length else cnt r f := by
  unfold cnt
  rw [List.find?_cons]
  by_cases h : d.f = f
  · simp [h]
  · simp [h]
theorem cnt_none : ∀ {ds : List Df} {f : Str}, ¬ f ∈ ds.map Df.f → cnt ds f = none
  | [], _, _ => rfl
  | d :: r, f, h => by
    rw [List.map_cons, List.mem_cons, not_or] at h
    rw [cnt_cons, if_neg (fun e => h.1 e.symm)]
    exact cnt_none h.2
theorem merge_cnt : ∀ (ds : List Df) (acc : List (Key × V)) (f : Str), (ds.map Df.f).Nodup → valV (mergeK acc (ds.map cntK)) (keyS f) = match cnt ds f with | some n => some (.int (n : Int)) | none => valV acc (keyS f)
  | [], acc, f, _ => rfl
  | d :: r, acc, f, nd => by
    rw [List.map_cons, List.nodup_cons] at nd
    have ih := merge_cnt r (putK acc (keyS d.f) (.int d.ps.length)) f nd.2
    have e0 : mergeK acc ((d :: r).map cntK) = mergeK (putK acc (keyS d.f) (.int d.ps.length)) (r.map cntK) := rfl
    rw [e0, ih, cnt_cons]
    by_cases h : d.f = f
    · subst h
      rw [cnt_none nd.1, if_pos rfl, valV_put, if_pos rfl]
    · rw [if_neg h]
      have e2 : keyS f ≠ keyS d.f := fun z => h (by injection z with z; exact z.symm)
      rw [valV_put, if_neg e2]
theorem fly_at {H : Hp} {x dx C : Addr} {o : HO} (hdx : upd H x (ExO C none x) dx = none) : upd (upd (upd H x (ExO C none x)) x (ExO C (some dx) x)) dx o x = some (ExO C (some dx) x) := by
  have ne : dx ≠ x := fun e => by rw [e, upd_same] at hdx; cases hdx
  rw [upd_ne (Ne.symm ne), upd_same]
noncomputable def spRefCall (CN CC : Addr) : Sp := fun vs H Q E => ∃ (v : V) (d : Addr) (c : Str × Nat) (kvs : List (Key × V)) (m : Option Nat), vs = [v, .ref d] ∧ CallV H c v ∧ H d = some (.dK kvs) ∧ valV kvs (keyS c.1) = m.map (fun n : Nat => V.int (n : Int)) ∧
  (m = some c.2 → Q .non H) ∧ (m = none → XOut H CN c.1 E) ∧ ∀ n, m = some n → c.2 ≠ n → XOut H CC c.1 E
noncomputable def spSound (CW CN CC : Addr) : Sp := fun vs H Q E => ∃ (a : Addr) (ds : List Df) (xs : List V), vs = [.ref a] ∧ H a = some (.tup xs) ∧ DfsV H ds xs ∧ ds.length ≤ 1000 ∧ (∀ d ∈ ds, d.ps.length ≤ 1000 ∧ d.b.size ≤ 10000000) ∧
  (verdict ds = .ok → ∀ H', Same H H' → Q (.bl true) H') ∧ (∀ x, verdict ds = .twice x → XOut H CW x E) ∧ (∀ x, verdict ds = .name x → XOut H CN x E) ∧ ∀ x, verdict ds = .count x → XOut H CC x E
theorem XOut.same {H H1 : Hp} {C : Addr} {x : Str} {E : XK} (h : XOut H C x E) (k : Same H H1) : XOut H1 C x E := fun dx H' k' e => h dx H' ((Kp.same k).trans k') e
section
variable {P : Program} {w : World} {K : PySem.W.Frag} {mg : Str → Option Value} {base : Heap}
theorem scRefCall : FnScope ["call", "counts", "name"] ["call", "counts"] (defScope sRefCall) := ⟨rfl, rfl, rfl, by decide +kernel, rfl, by decide +kernel, by decide +kernel⟩
theorem ok_refcall {f  : Addr} {fd  : FuncData} (F : Fun K "refuse_call" "refuse_call" sRefCall f fd) {CN fIN : Addr} {fdIN : FuncData} (XN : XC P w K mg base CN fIN fdIN "NoName") {CC fIC : Addr} {fdIC : FuncData} (XC : XC P w K mg base CC fIC fdIC "NoCount") (ml : mg "len" = none) : FnOk P w K mg base (CX1 P w) 3 f fd ["call", "counts"] (spRefCall CN CC) := by
  refine F.ok1 scRefCall (fun vs H Q E h => ?_) (fun cdv A outer s H vs Q E hr h => ?_)
  · refine opq fun Gq kq => ?_
    obtain ⟨v, d, c, kvs, m, rfl, _⟩ := h
    refine kq ?_
    clear kq
    rfl
  refine opq fun Gq kq => ?_
  obtain ⟨v, d, c, kvs, m, rfl, hv, hd, hm, q1, q2, q3⟩ := h
  refine kq ?_
  clear kq
  refine ⟨_, (@pss_cons _ _ _ _ _ (@ps_set _ _ (2) _ _ _ _ scRefCall.nd rfl (Or.inl rfl) (@pe_ix _ _ _ _ _ _ _ ix_tup (@pv _ 0 _ _ (by rfl) (by first | exact Or.inl rfl | exact Or.inr (Or.inl rfl) | exact Or.inr (Or.inr rfl)) (by decide) (by decide)) (@pe_int _ _ _ _) (fun _ _ => rfl)) (by rfl) (by first | exact .inl rfl | exact .inr rfl)) (@pss_cons _ _ _ _ _ (@ps_if _ _ _ _ _ _ _ _ (@pt_cmp _ _ _ _ _ _ (@pc_dnotin _ _ _ _ _ (hu_of hr) (@pv _ 2 _ _ (by rfl) (by first | exact Or.inl rfl | exact Or.inr (Or.inl rfl) | exact Or.inr (Or.inr rfl)) (by decide) (by decide)) (@pv _ 1 _ _ (by rfl) (by first | exact Or.inl rfl | exact Or.inr (Or.inl rfl) | exact Or.inr (Or.inr rfl)) (by decide) (by decide))) (by rfl)) (@pss_one _ _ _ (@ps_raise _ _ _ _ _ rfl flies_def (@pe_makeX _ _ _ _ _ _ _ _ _ _ _ _ _ _ _ XN.mkr XN.ini XN.fn XN.g hr rfl XN.m XN.b pass0 (@pa_cons _ _ _ _ _ (@pv _ 2 _ _ (by rfl) (by first | exact Or.inl rfl | exact Or.inr (Or.inl rfl) | exact Or.inr (Or.inr rfl)) (by decide) (by decide)) (@pa_nil _) (by rfl)) (by decide) (by rfl) (by rfl)))) (@pss_nil _)) (@pss_one _ _ _ (@ps_if _ _ _ _ _ _ _ _ (@pt_cmpR _ _ _ _ _ _ _ _ op_ne (@pe_callB _ _ _ _ _ _ _ _ _ call_len_seq rfl ml PySem.boot_len (@pa_cons _ _ _ _ _ (@pe_ix _ _ _ _ _ _ _ ix_tup (@pv _ 0 _ _ (by rfl) (by first | exact Or.inl rfl | exact Or.inr (Or.inl rfl) | exact Or.inr (Or.inr rfl)) (by decide) (by decide)) (@pe_int _ _ _ _) (fun _ _ => rfl)) (@pa_nil _) (by rfl)) (by decide) (by decide) (by rfl) (by rfl)) (@pe_dget _ _ _ _ _ _ (hu_of hr) (@pv _ 1 _ _ (by rfl) (by first | exact Or.inl rfl | exact Or.inr (Or.inl rfl) | exact Or.inr (Or.inr rfl)) (by decide) (by decide)) (@pv _ 2 _ _ (by rfl) (by first | exact Or.inl rfl | exact Or.inr (Or.inl rfl) | exact Or.inr (Or.inr rfl)) (by decide) (by decide)) (fun _ _ => rfl)) (@nomark _ _ (by decide) (by decide))) (@pss_one _ _ _ (@ps_raise _ _ _ _ _ rfl flies_def (@pe_makeX _ _ _ _ _ _ _ _ _ _ _ _ _ _ _ XC.mkr XC.ini XC.fn XC.g hr rfl XC.m XC.b pass0 (@pa_cons _ _ _ _ _ (@pv _ 2 _ _ (by rfl) (by first | exact Or.inl rfl | exact Or.inr (Or.inl rfl) | exact Or.inr (Or.inr rfl)) (by decide) (by decide)) (@pa_nil _) (by rfl)) (by decide) (by rfl) (by rfl)))) (@pss_nil _))))), ?_⟩
  try dsimp only [cxOf, Cx.nox, Cx.wish]
  refine opq fun Gq kq => ?_
  obtain ⟨p, x, t, ts, rfl, h1, h2, h3⟩ := hv
  refine kq ?_
  clear kq
  refine ⟨_, rfl, p, _, _, _, rfl, rfl, SqT.of h1, rfl, ?_⟩
  refine ⟨_, rfl, _, rfl, d, _, rfl, DGet.k (k := keyS c.1) hd, _, rfl, ?_⟩
  rw [hm]
  cases m with
  | none =>
    refine ifY rfl ?_
    refine ⟨_, rfl, (by show 1 ≤ 1000; decide), fun x0 n0 => ⟨x0, _, rfl, upd_same, fun d0 nd0 => ⟨rfl, x0, CN, some d0, rfl, ?_, XN.x, XN.ty, ?_⟩⟩⟩
    · exact fly_at nd0
    · exact fly_out n0 nd0 (q2 rfl)
  | some n =>
    refine ifX rfl ?_
    refine ⟨_, rfl, p, _, _, _, rfl, rfl, SqT.of h1, rfl, t, ts, rfl, .inr (SqT.of h2), _, rfl, _, rfl, d, .int (n : Int), rfl, by have g := DGet.k (k := keyS c.1) hd; rw [hm] at g; exact g, rfl, _, rfl, ?_⟩
    rw [h3]
    by_cases e : c.2 = n
    · refine ifX (by simp [e]) ?_
      exact q1 (by rw [e])
    · refine ifY (by simp; omega) ?_
      refine ⟨_, rfl, (by show 1 ≤ 1000; decide), fun x0 n0 => ⟨x0, _, rfl, upd_same, fun d0 nd0 => ⟨rfl, x0, CC, some d0, rfl, ?_, XC.x, XC.ty, ?_⟩⟩⟩
      · exact fly_at nd0
      · exact fly_out n0 nd0 (q3 n rfl e)
theorem scSound : FnScope ["program", "name", "params", "body", "counts", "call"] ["program"] (defScope sSound) := ⟨rfl, rfl, rfl, by decide +kernel, rfl, by decide +kernel, by decide +kernel⟩
noncomputable def scope_s1 : Scope := { kind := .function, names := [(".0", .local), ("name", .local), ("params", .local), ("body", .local)], isGenerator := false, isCoroutine := false }
theorem nd_s1 : (["name", "params", "body"] : List Str).Nodup := by decide +kernel
theorem cs_s1 : CompSc ["program", "name", "params", "body", "counts", "call"] (defScope sSound) scope_s1 ["name", "params", "body"] 3 [] := ⟨by decide +kernel, rfl, by decide +kernel, by decide +kernel, by decide +kernel, rfl, by decide +kernel⟩
noncomputable def scope_s2 : Scope := { kind := .function, names := [(".0", .local), ("name", .local), ("params", .local), ("body", .local), ("len", .globalImplicit)], isGenerator := false, isCoroutine := false }
theorem nd_s2 : (["name", "params", "body"] : List Str).Nodup := by decide +kernel
theorem cs_s2 : CompSc ["program", "name", "params", "body", "counts", "call"] (defScope sSound) scope_s2 ["name", "params", "body"] 3 [] := ⟨by decide +kernel, rfl, by decide +kernel, by decide +kernel, by decide +kernel, rfl, by decide +kernel⟩
theorem ok_sound {f fI fL fR : Addr} {fd fdI fdL fdR : FuncData} (F : Fun K "sound" "sound" sSound f fd) (GL : FnOk P w K mg base (CX1 P w) 3 fL fdL ["names"] (spTw (fun K H a xs => SqL K H a xs) K CW)) (bL : Binds K fdL ["names"] []) (kL : PySem.W.keepIn K (.ref fL) = true) (mL : mg "refuse_twice" = some (.ref fL)) (GT : FnOk P w K mg base (CX1 P w) 3 fL fdL ["names"] (spTw (fun K H a xs => SqT K H a xs) K CW)) (bL2 : Binds K fdL ["names"] []) (kL2 : PySem.W.keepIn K (.ref fL) = true) (mL2 : mg "refuse_twice" = some (.ref fL)) (GI : FnOk P w K mg base CX0 2 fI fdI ["body"] spCallsIn) (bI : Binds K fdI ["body"] []) (kI : PySem.W.keepIn K (.ref fI) = true) (mI : mg "calls_in" = some (.ref fI)) (GR : FnOk P w K mg base (CX1 P w) 3 fR fdR ["call", "counts"] (spRefCall CN CC)) (bR : Binds K fdR ["call", "counts"] []) (kR : PySem.W.keepIn K (.ref fR) = true) (mR : mg "refuse_call" = some (.ref fR)) (ml : mg "len" = none) (md : mg "dict" = none) : FnOk P w K mg base (CX1 P w) 4 f fd ["program"] (spSound CW CN CC) := by
  refine F.ok1 scSound (fun vs H Q E h => ?_) (fun cdv A outer s H vs Q E hr h => ?_)
  · refine opq fun Gq kq => ?_
    obtain ⟨a, ds, xs, rfl, _⟩ := h
    refine kq ?_
    clear kq
    rfl
  refine opq fun Gq kq => ?_
  obtain ⟨a, ds, xs, rfl, ha, hD, hz, hb, q, qt, qn, qc⟩ := h
  refine kq ?_
  clear kq
  refine ⟨_, (@pss_cons _ _ _ _ _ (@ps_expr _ _ _ _ (@pe_call _ _ _ _ _ _ _ _ _ _ _ _ _ _ _ _ GL hr rfl mL kL bL .nil passK (@pa_cons _ _ _ _ _ (@pe_comp _ _ _ _ _ _ _ (["name", "params", "body"]) (3) ([]) _ _ _ _ rfl (@pi_tup _ _ _ _ (@pv _ 0 _ _ (by rfl) (by first | exact Or.inl rfl | exact Or.inr (Or.inl rfl) | exact Or.inr (Or.inr rfl)) (by decide) (by decide))) cs_s1 (fun _ _ _ _ _ => (pg_tupK (K := K) (n := 3) rfl rfl (@pgs_cons _ _ _ _ _ (@pg_name _ _ (0) _ nd_s1 rfl (Or.inl rfl) (by first | exact .inl rfl | exact .inr rfl)) (@pgs_cons _ _ _ _ _ (@pg_name _ _ (1) _ nd_s1 rfl (Or.inl rfl) (by first | exact .inl rfl | exact .inr rfl)) (@pgs_cons _ _ _ _ _ (@pg_name _ _ (2) _ nd_s1 rfl (Or.inl rfl) (by first | exact .inl rfl | exact .inr rfl)) (@pgs_nil _) (by rfl)) (by rfl)) (by rfl)) rfl rfl)) (fun _ _ _ _ _ => (@pf_nil _)) (fun _ _ _ _ _ => (@pv _ 0 _ _ (by rfl) (by first | exact Or.inl rfl | exact Or.inr (Or.inl rfl) | exact Or.inr (Or.inr rfl)) (by decide) (by decide))) (by intro _; rfl)) (@pa_nil _) (by rfl)) (by decide) (by rfl) (by rfl)) (by rfl)) (@pss_cons _ _ _ _ _ (@ps_set _ _ (4) _ _ _ _ scSound.nd rfl (Or.inl rfl) (@pe_callTy _ _ _ _ _ _ _ _ _ (call_dictP rfl) rfl md PyProof.Rows.boot_dict (@pa_cons _ _ _ _ _ (@pe_comp _ _ _ _ _ _ _ (["name", "params", "body"]) (3) ([]) _ _ _ _ rfl (@pi_tup _ _ _ _ (@pv _ 0 _ _ (by rfl) (by first | exact Or.inl rfl | exact Or.inr (Or.inl rfl) | exact Or.inr (Or.inr rfl)) (by decide) (by decide))) cs_s2 (fun _ _ _ _ _ => (pg_tupK (K := K) (n := 3) rfl rfl (@pgs_cons _ _ _ _ _ (@pg_name _ _ (0) _ nd_s2 rfl (Or.inl rfl) (by first | exact .inl rfl | exact .inr rfl)) (@pgs_cons _ _ _ _ _ (@pg_name _ _ (1) _ nd_s2 rfl (Or.inl rfl) (by first | exact .inl rfl | exact .inr rfl)) (@pgs_cons _ _ _ _ _ (@pg_name _ _ (2) _ nd_s2 rfl (Or.inl rfl) (by first | exact .inl rfl | exact .inr rfl)) (@pgs_nil _) (by rfl)) (by rfl)) (by rfl)) rfl rfl)) (fun _ _ _ _ _ => (@pf_nil _)) (fun _ _ _ _ _ => (@pe_tup _ _ _ _ _ (@pa_cons _ _ _ _ _ (@pv _ 0 _ _ (by rfl) (by first | exact Or.inl rfl | exact Or.inr (Or.inl rfl) | exact Or.inr (Or.inr rfl)) (by decide) (by decide)) (@pa_cons _ _ _ _ _ (@pe_callB _ _ _ _ _ _ _ _ _ (call_lenK (K := K) rfl) rfl ml PySem.boot_len (@pa_cons _ _ _ _ _ (@pv _ 1 _ _ (by rfl) (by first | exact Or.inl rfl | exact Or.inr (Or.inl rfl) | exact Or.inr (Or.inr rfl)) (by decide) (by decide)) (@pa_nil _) (by rfl)) (by decide) (by decide) (by rfl) (by rfl)) (@pa_nil _) (by rfl)) (by rfl)))) (by intro _; rfl)) (@pa_nil _) (by rfl)) (by decide) (by decide) (by rfl) (by rfl)) (by rfl) (by first | exact .inl rfl | exact .inr rfl)) (@pss_cons _ _ _ _ _ (@ps_for _ _ _ _ _ _ _ _ own1 rfl (@pi_tup _ _ _ _ (@pv _ 0 _ _ (by rfl) (by first | exact Or.inl rfl | exact Or.inr (Or.inl rfl) | exact Or.inr (Or.inr rfl)) (by decide) (by decide))) (@pg_tup _ _ _ _ _ _ rfl (@pgs_cons _ _ _ _ _ (@pg_name _ _ (1) _ scSound.nd rfl (Or.inl rfl) (by first | exact .inl rfl | exact .inr rfl)) (@pgs_cons _ _ _ _ _ (@pg_name _ _ (2) _ scSound.nd rfl (Or.inl rfl) (by first | exact .inl rfl | exact .inr rfl)) (@pgs_cons _ _ _ _ _ (@pg_name _ _ (3) _ scSound.nd rfl (Or.inl rfl) (by first | exact .inl rfl | exact .inr rfl)) (@pgs_nil _) (by rfl)) (by rfl)) (by rfl)) (by rfl) (by rfl)) (@pss_cons _ _ _ _ _ (@ps_expr _ _ _ _ (@pe_call _ _ _ _ _ _ _ _ _ _ _ _ _ _ _ _ GT hr rfl mL kL bL .nil passK (@pa_cons _ _ _ _ _ (@pv _ 2 _ _ (by rfl) (by first | exact Or.inl rfl | exact Or.inr (Or.inl rfl) | exact Or.inr (Or.inr rfl)) (by decide) (by decide)) (@pa_nil _) (by rfl)) (by decide) (by rfl) (by rfl)) (by rfl)) (@pss_one _ _ _ (@ps_for _ _ _ _ _ _ _ _ own1 rfl (@pi_list _ _ _ _ (@pe_call _ _ _ _ _ _ _ _ _ _ _ _ _ _ _ _ GI (hr.mono (by decide)) rfl mI kI bI .nil pass0 (@pa_cons _ _ _ _ _ (@pv _ 3 _ _ (by rfl) (by first | exact Or.inl rfl | exact Or.inr (Or.inl rfl) | exact Or.inr (Or.inr rfl)) (by decide) (by decide)) (@pa_nil _) (by rfl)) (by decide) (by rfl) (by rfl))) (@pg_name _ _ (5) _ scSound.nd rfl (Or.inl rfl) (by first | exact .inl rfl | exact .inr rfl)) (@pss_one _ _ _ (@ps_expr _ _ _ _ (@pe_call _ _ _ _ _ _ _ _ _ _ _ _ _ _ _ _ GR hr rfl mR kR bR .nil passK (@pa_cons _ _ _ _ _ (@pv _ 5 _ _ (by rfl) (by first | exact Or.inl rfl | exact Or.inr (Or.inl rfl) | exact Or.inr (Or.inr rfl)) (by decide) (by decide)) (@pa_cons _ _ _ _ _ (@pv _ 4 _ _ (by rfl) (by first | exact Or.inl rfl | exact Or.inr (Or.inl rfl) | exact Or.inr (Or.inr rfl)) (by decide) (by decide)) (@pa_nil _) (by rfl)) (by rfl)) (by decide) (by rfl) (by rfl)) (by rfl))) (by intro _; rfl)))) (by intro _; rfl)) (@pss_one _ _ _ (@ps_ret _ _ _ _ (@pe_bl _ _ _ _)))))), ?_⟩
  try dsimp only [cxOf, Cx.nox, Cx.wish]
  have big := line24
  have hlx := hD.len
  -- the names
  refine seqF fun F1 f1 => ⟨_, rfl, a, rfl, ⟨_, SqT.of ha⟩, ?_⟩
  refine compR_dfs (K := K) ha hD hz (fun i ys H' => ys = ((ds.take i).map Df.f).map V.str ∧ H' = H) ⟨rfl, rfl⟩ (fun i ys H' h => ⟨by rw [h.2]; exact Same.refl H, by rw [h.1, List.length_map, List.length_map, List.length_take]; omega⟩) ?_ ?_
  · rintro i d pp pb bs ys H' hd' h2 h3 h4 ⟨rfl, rfl⟩
    refine ⟨_, rfl, ?_, rfl⟩
    rw [List.take_add_one, hd', List.map_append, List.map_append]
    rfl
  rintro ys H' ⟨rfl, rfl⟩ l nl
  rw [List.take_length]
  have s1 : Same H' (upd H' l (.lst ((ds.map Df.f).map V.str))) := same_upd nl
  have key : ∀ x, dupF [] (ds.map Df.f) = some x → verdict ds = .twice x := fun x e => by unfold verdict; rw [e]
  refine ⟨l, ds.map Df.f, rfl, SqL.of upd_same, by rw [List.length_map]; exact hz, fun nodup H1 s2 => f1 _ _ ?_, fun x e => (qt x (key x e)).same s1 |>.ev (Kp.refl _)⟩
  have vd : verdict ds = vdefs ds ds := by unfold verdict; rw [nodup]
  have s3 : Same H' H1 := s1.trans s2
  have nd := (dup_nodup nodup).1
  -- how many
  have ha1 := s3 _ _ ha
  have hD1 := hD.mono (Same.tm s3)
  clear f1
  refine seqF fun F1 f1 => ⟨_, rfl, a, rfl, ⟨_, SqT.of ha1⟩, ?_⟩
  refine compR_dfs (K := K) ha1 hD1 hz (fun i ys H2 => ∃ qs : List Addr, ys = qs.map V.ref ∧ qs.length = i ∧ PairsAt H2 qs ((ds.take i).map cntK) ∧ Same H1 H2) ⟨[], rfl, rfl, trivial, Same.refl _⟩ (fun i ys H2 ⟨qs, e, l, _, s⟩ => ⟨s, by rw [e, List.length_map]; omega⟩) ?_ ?_
  · intro i d pp pb bs ys H2 hd' h2 h3 h4 hq'
    refine opq fun Gq kq => ?_
    obtain ⟨qs, rfl, hql, hp, s4⟩ := hq'
    refine kq ?_
    clear kq
    refine ⟨_, rfl, _, rfl, pp, _, rfl, .inr (SqT.of h2), (by show 2 ≤ sizeLine; decide), fun p np => ?_⟩
    refine ⟨qs ++ [p], by rw [List.map_append]; rfl, by rw [List.length_append, hql]; rfl, ?_, s4.trans (same_upd np)⟩
    rw [List.take_add_one, hd', List.map_append]
    refine PairsAt.snoc (hp.mono (Same.tm (same_upd np))) ?_
    rw [upd_same, List.length_map]
    rfl
  rintro ys H2 ⟨qs, rfl, hql, hp, s4⟩ l2 nl2
  rw [List.take_length] at hp
  refine ⟨l2, qs, ds.map cntK, rfl, upd_same, hp.mono (Same.tm (same_upd nl2)), fun dc ndc => f1 _ _ ?_⟩
  clear f1
  have s5 : Same H' (upd (upd H2 l2 (.lst (qs.map V.ref))) dc (.dK (mergeK [] (ds.map cntK)))) := s3.trans (s4.trans ((same_upd nl2).trans (same_upd ndc)))
  have hdc : upd (upd H2 l2 (.lst (qs.map V.ref))) dc (.dK (mergeK [] (ds.map cntK))) dc = some (.dK (mergeK [] (ds.map cntK))) := upd_same
  generalize upd (upd H2 l2 (.lst (qs.map V.ref))) dc (.dK (mergeK [] (ds.map cntK))) = H3 at s5 hdc
  have look : ∀ f, valV (mergeK [] (ds.map cntK)) (keyS f) = (cnt ds f).map (fun n : Nat => V.int (n : Int)) := fun f => by
    rw [merge_cnt ds [] f nd]
    cases cnt ds f <;> rfl
  -- def by def
  refine seqF fun F1 f1 => forE fun J j => ⟨_, rfl, a, rfl, ⟨_, SqT.of (s5 _ _ ha)⟩, j _ _ ?_⟩
  clear j
  refine for_tupE (K := K) (a := a) (xs := xs) (fun i σ H4 => (∃ o1 o2 o3 o5 : Option V, σ = [some (.ref a), o1, o2, o3, some (.ref dc), o5]) ∧ vdefs ds ds = vdefs ds (ds.drop i) ∧ Same H3 H4) ⟨⟨_, _, _, _, rfl⟩, rfl, Same.refl _⟩ (fun i σ H4 _ h => SqT.of (h.2.2 _ _ (s5 _ _ ha))) ?_ ?_
  · intro E0 eR i v σ H4 hx fE Gq kq hq'
    obtain ⟨⟨o1, o2, o3, o5, rfl⟩, hv, s6⟩ := hq'
    clear f1
    have s7 := s5.trans s6
    obtain ⟨d, hd', p0, pp, pb, bs, rfl, h1, h2, h3, h4⟩ := (hD.mono (Same.tm s7)).at i v hx
    have hdi : ds.drop i = d :: ds.drop (i + 1) := by
      obtain ⟨hi, e⟩ := List.getElem?_eq_some_iff.mp hd'
      rw [← e, List.getElem_cons_drop]
    have hbd := hb d (List.mem_of_getElem? hd')
    have vv : vdefs ds ds = match dupF [] d.ps with | some x => .twice x | none => match vcalls ds d.b.calls with | some v => v | none => vdefs ds (ds.drop (i + 1)) := by rw [hv, hdi]; rfl
    refine kq ?_
    clear kq
    refine tgE fun F6 f6 => ⟨p0, _, rfl, SqT.of h1, rfl, _, _, rfl, _, _, rfl, _, _, rfl, rfl, f6 _ _ ?_⟩
    clear f6
    show tSeq _ _ E0 _ _
    refine seqF fun F1 f1 => ⟨_, rfl, pp, d.ps, rfl, SqT.of h2, hbd.1, fun nd2 H5 s8 => f1 _ _ ?_, fun x e => ((qt x (by rw [vd, vv, e])).same s7).ev (Kp.refl _)⟩
    have vv2 : vdefs ds ds = match vcalls ds d.b.calls with | some v => v | none => vdefs ds (ds.drop (i + 1)) := by rw [vv, nd2]
    -- its calls
    clear f1
    refine forE fun J jj => ⟨_, rfl, pb, d.b, bs, rfl, s8 _ _ h3, h4.mono (Same.tm s8), hbd.2, fun cl cv H6 ncl hcl hcv s9 => ?_⟩
    have s10 := s7.trans (s8.trans s9)
    refine ⟨cl, rfl, ⟨_, SqL.of hcl⟩, jj _ _ ?_⟩
    clear jj
    refine for_listE (K := K) (a := cl) (xs := cv) (fun j σ H7 => (∃ o5 : Option V, σ = [some (.ref a), some (.str d.f), some (.ref pp), some (.ref pb), some (.ref dc), o5]) ∧ vcalls ds d.b.calls = vcalls ds (d.b.calls.drop j) ∧ H7 = H6) ⟨⟨_, rfl⟩, rfl, rfl⟩ (fun j σ H7 _ h => SqL.of (by rw [h.2.2]; exact hcl)) ?_ ?_
    · intro E1 eR1 j v σ H7 hx fE1 Gq kq hq'
      obtain ⟨⟨o5, rfl⟩, hvc, rfl⟩ := hq'
      refine kq ?_
      clear kq fE
      obtain ⟨c, hc, hcv'⟩ := hcv.at j v hx
      have hdj : d.b.calls.drop j = c :: d.b.calls.drop (j + 1) := by
        obtain ⟨hj, e⟩ := List.getElem?_eq_some_iff.mp hc
        rw [← e, List.getElem_cons_drop]
      obtain ⟨f, n⟩ := c
      have vc : vcalls ds d.b.calls = match cnt ds f with | none => some (.name f) | some m => if n = m then vcalls ds (d.b.calls.drop (j + 1)) else some (.count f) := by rw [hvc, hdj]; rfl
      refine ⟨_, rfl, _, rfl, v, dc, (f, n), _, cnt ds f, rfl, hcv', (s8.trans s9) _ _ (s6 _ _ hdc), look f, fun e => ?_, fun e => ?_, fun m e ne => ?_⟩
      · refine fE1 _ _ ⟨⟨_, rfl⟩, ?_, rfl⟩
        rw [vc, e]
        exact if_pos rfl
      · exact ((qn f (by rw [vd, vv2, vc, e])).same s10).ev (Kp.refl _)
      · have vc' : vcalls ds d.b.calls = some (.count f) := by rw [vc, e]; exact if_neg ne
        exact ((qc f (by rw [vd, vv2, vc'])).same s10).ev (Kp.refl _)
    · intro σ H7 hq'
      refine opq fun Gq kq => ?_
      obtain ⟨⟨o5, rfl⟩, hvc, rfl⟩ := hq'
      refine kq ?_
      clear kq
      have hlc := hcv.len
      have e0 : vcalls ds d.b.calls = none := by rw [hvc, hlc, List.drop_length]; rfl
      exact fE _ _ ⟨⟨_, _, _, _, rfl⟩, by rw [vv2, e0], s6.trans (s8.trans s9)⟩
  · intro σ H4 hq'
    refine opq fun Gq kq => ?_
    obtain ⟨⟨o1, o2, o3, o5, rfl⟩, hv, s6⟩ := hq'
    refine kq ?_
    clear kq
    refine f1 _ _ ?_
    refine q ?_ H4 (s5.trans s6)
    rw [vd, hv, hlx, List.drop_length]
    rfl
end
end K9

set_option Elab.async false
set_option linter.all false
set_option maxRecDepth 100000
set_option maxHeartbeats 4000000
namespace K9
open PySem PySem.Spec PyProof.Rows L2

noncomputable abbrev sRefused : Stmt := top 20
noncomputable abbrev sSaid : Stmt := top 21
theorem bootVE : bootBuiltins "ValueError" = some (.type "ValueError") := by decide +kernel
structure Cs where
  T : Addr
  W : Addr
  N : Addr
  C : Addr
  L : Addr
  D : Addr
  S : Addr
  R : Addr
  B : Addr
/-- one of the three refusals with a name that are looked for here -/
structure KinR (K : PySem.W.Frag) (c : Cs) (C : Addr) (i : Nat) : Prop where
  x : XCls K C
  no : NoAttr K C "name"
  lt : i < 3
  kW : PySem.W.kitOne K (.ref C) (.ref c.W) = some (i == 0)
  kN : PySem.W.kitOne K (.ref C) (.ref c.N) = some (i == 1)
  kC : PySem.W.kitOne K (.ref C) (.ref c.C) = some (i == 2)
  kL : PySem.W.kitOne K (.ref C) (.ref c.L) = some (i == 3)
  kD : PySem.W.kitOne K (.ref C) (.ref c.D) = some (i == 4)
  kT : PySem.W.kitOne K (.ref C) (.ref c.T) = some (i == 5)
  kS : PySem.W.kitOne K (.ref C) (.ref c.S) = some (i == 6)
  kR : PySem.W.kitOne K (.ref C) (.ref c.R) = some (i == 7)
  kb : PySem.W.kitOne K (.ref C) (.ref c.B) = some true
  kv : PySem.W.kitOne K (.ref C) (.type "ValueError") = some true
  mb : PySem.W.mroIn K C (.ref c.B) = some true
noncomputable def wordR : Nat → Str
  | 0 => "twice"
  | 1 => "name"
  | _ => "count"
noncomputable def vdOf : Nat → Str → Vd
  | 0, x => .twice x
  | 1, x => .name x
  | _, x => .count x
noncomputable def vdV : Vd → List V
  | .ok => [.str "sound", .bl true]
  | .twice x => [.str "twice", .str x]
  | .name x => [.str "name", .str x]
  | .count x => [.str "count", .str x]
theorem vdV_of {i : Nat} {x : Str} : vdV (vdOf i x) = [.str (wordR i), .str x] := by
  match i with
  | 0 => rfl
  | 1 => rfl
  | _ + 2 => rfl
theorem excC_kp {H H' : Hp} {a C : Addr} {fs : List (Str × V)} (s : Same H H') (e : ExcC H a C fs) : ExcC H' a C fs := by
  rcases e with ⟨h, T, e⟩ | ⟨dx, T, e, e2⟩
  · exact .inl ⟨h, T, s _ _ e⟩
  · exact .inr ⟨dx, T, s _ _ e, s _ _ e2⟩
theorem op_isB {X : Cx} : OpR X (compareOp .Is) (fun x y H Q => ∃ a b, x = .bl a ∧ y = .bl b ∧ Q (.bl (a == b)) H) := by
  intro pins s σ H x y v u Q I rx ry h
  refine opq fun Gq kq => ?_
  obtain ⟨a, b, rfl, rfl, q⟩ := h
  refine kq ?_
  clear kq
  cases rx
  cases ry
  exact is_bool ⟨.bl (a == b), H, I, rfl, q⟩
noncomputable def spRefused (K : PySem.W.Frag) (c : Cs) : Sp := fun vs H Q _ => ∃ (a C : Addr) (i : Nat) (y : Str), vs = [.ref a] ∧ ExcC H a C [("name", .str y)] ∧ KinR K c C i ∧ ∀ (r : Addr) (H' : Hp), H' r = some (.tup [.str (wordR i), .str y]) → Same H H' → Q (.ref r) H'
noncomputable def kb8 (i : Nat) : List Bool := [(i == 0), (i == 1), (i == 2), (i == 3), (i == 4), (i == 5), (i == 6), (i == 7)]
theorem kb8_count : ∀ {i : Nat}, i < 3 → (kb8 i).countP id = 1
  | 0, _ => rfl
  | 1, _ => rfl
  | 2, _ => rfl
theorem kb8_at : ∀ {i : Nat}, i < 3 → (kb8 i)[i]? = some true ∧ ∀ m : Nat, m < i → (kb8 i)[m]? = some false
  | 0, _ => ⟨rfl, fun m h => by omega⟩
  | 1, _ => ⟨rfl, fun m h => by have : m = 0 := by omega
                                subst this; rfl⟩
  | 2, _ => ⟨rfl, fun m h => by have : m = 0 ∨ m = 1 := by omega
                                rcases this with rfl | rfl <;> rfl⟩
section
variable {P : Program} {w : World} {K : PySem.W.Frag} {mg : Str → Option Value} {base : Heap}
theorem scRefused : FnScope ["_law_caught", "_law_kinds", "_law_word"] ["_law_caught"] (defScope sRefused) := ⟨rfl, rfl, rfl, by decide +kernel, rfl, by decide +kernel, by decide +kernel⟩
theorem ok_refused {f  : Addr} {fd  : FuncData} (F : Fun K "_law_refused" "_law_refused" sRefused f fd) {c : Cs} (mis : mg "isinstance" = none) (mve : mg "ValueError" = none) (gT : mg "NoText" = some (.ref c.T)) (gW : mg "Twice" = some (.ref c.W)) (gN : mg "NoName" = some (.ref c.N)) (gC : mg "NoCount" = some (.ref c.C)) (gL : mg "TooLong" = some (.ref c.L)) (gD : mg "TooDeep" = some (.ref c.D)) (gS : mg "NoStep" = some (.ref c.S)) (gR : mg "NoRow" = some (.ref c.R)) (gB : mg "BookError" = some (.ref c.B)) : FnOk P w K mg base CX0 1 f fd ["_law_caught"] (spRefused K c) := by
  refine F.ok scRefused (fun vs H Q E h => ?_) (fun cdv A outer s H vs Q E hr h => ?_)
  · refine opq fun Gq kq => ?_
    obtain ⟨a, C, i, y, rfl, _⟩ := h
    refine kq ?_
    clear kq
    rfl
  refine opq fun Gq kq => ?_
  obtain ⟨a, C, i, y, rfl, ex, kin, q⟩ := h
  refine kq ?_
  clear kq
  refine ⟨_, (@pss_cons _ _ _ _ _ (@ps_if _ _ _ _ _ _ _ _ (@PW.pt _ _ _ (@pw_or _ _ _ _ _ _ _ (@pt_not _ _ _ _ (@pt_val _ _ _ (@pe_callB _ _ _ _ _ _ _ _ _ call_isinstC rfl mis PyProof.Rows.boot_isinstance (@pa_cons _ _ _ _ _ (@pv _ 0 _ _ (by rfl) (by first | exact Or.inl rfl | exact Or.inr (Or.inl rfl) | exact Or.inr (Or.inr rfl)) (by decide) (by decide)) (@pa_cons _ _ _ _ _ (@pe_bltn _ _ (.ty "ValueError") _ _ rfl mve bootVE rfl (by decide) (by decide)) (@pa_nil _) (by rfl)) (by rfl)) (by decide) (by decide) (by rfl) (by rfl)) (by intro _; rfl))) (@pw_or1 _ _ _ _ (@pt_not _ _ _ _ (@pt_val _ _ _ (@pe_callB _ _ _ _ _ _ _ _ _ call_isinstC rfl mis PyProof.Rows.boot_isinstance (@pa_cons _ _ _ _ _ (@pv _ 0 _ _ (by rfl) (by first | exact Or.inl rfl | exact Or.inr (Or.inl rfl) | exact Or.inr (Or.inr rfl)) (by decide) (by decide)) (@pa_cons _ _ _ _ _ (@pe_glob _ _ (.ref c.B) _ _ rfl gB rfl (by decide)) (@pa_nil _) (by rfl)) (by rfl)) (by decide) (by decide) (by rfl) (by rfl)) (by intro _; rfl)))))) (@pss_one _ _ _ (@ps_ret _ _ _ _ (@pe_tup _ _ _ _ _ (@pa_cons _ _ _ _ _ (@pe_str _ _ _ _) (@pa_cons _ _ _ _ _ (@pe_str _ _ _ _) (@pa_nil _) (by rfl)) (by rfl))))) (@pss_nil _)) (@pss_cons _ _ _ _ _ (@ps_set _ _ (1) _ _ _ _ scRefused.nd rfl (Or.inl rfl) (@pe_lst _ _ _ _ (@pa_cons _ _ _ _ _ (@pe_callB _ _ _ _ _ _ _ _ _ call_isinstC rfl mis PyProof.Rows.boot_isinstance (@pa_cons _ _ _ _ _ (@pv _ 0 _ _ (by rfl) (by first | exact Or.inl rfl | exact Or.inr (Or.inl rfl) | exact Or.inr (Or.inr rfl)) (by decide) (by decide)) (@pa_cons _ _ _ _ _ (@pe_glob _ _ (.ref c.W) _ _ rfl gW rfl (by decide)) (@pa_nil _) (by rfl)) (by rfl)) (by decide) (by decide) (by rfl) (by rfl)) (@pa_cons _ _ _ _ _ (@pe_callB _ _ _ _ _ _ _ _ _ call_isinstC rfl mis PyProof.Rows.boot_isinstance (@pa_cons _ _ _ _ _ (@pv _ 0 _ _ (by rfl) (by first | exact Or.inl rfl | exact Or.inr (Or.inl rfl) | exact Or.inr (Or.inr rfl)) (by decide) (by decide)) (@pa_cons _ _ _ _ _ (@pe_glob _ _ (.ref c.N) _ _ rfl gN rfl (by decide)) (@pa_nil _) (by rfl)) (by rfl)) (by decide) (by decide) (by rfl) (by rfl)) (@pa_cons _ _ _ _ _ (@pe_callB _ _ _ _ _ _ _ _ _ call_isinstC rfl mis PyProof.Rows.boot_isinstance (@pa_cons _ _ _ _ _ (@pv _ 0 _ _ (by rfl) (by first | exact Or.inl rfl | exact Or.inr (Or.inl rfl) | exact Or.inr (Or.inr rfl)) (by decide) (by decide)) (@pa_cons _ _ _ _ _ (@pe_glob _ _ (.ref c.C) _ _ rfl gC rfl (by decide)) (@pa_nil _) (by rfl)) (by rfl)) (by decide) (by decide) (by rfl) (by rfl)) (@pa_nil _) (by rfl)) (by rfl)) (by rfl))) (by rfl) (by first | exact .inl rfl | exact .inr rfl)) (@pss_cons _ _ _ _ _ (@ps_set _ _ (1) _ _ _ _ scRefused.nd rfl (Or.inl rfl) (@pe_op _ _ _ _ _ _ _ _ op_cat (@pv _ 1 _ _ (by rfl) (by first | exact Or.inl rfl | exact Or.inr (Or.inl rfl) | exact Or.inr (Or.inr rfl)) (by decide) (by decide)) (@pe_lst _ _ _ _ (@pa_cons _ _ _ _ _ (@pe_callB _ _ _ _ _ _ _ _ _ call_isinstC rfl mis PyProof.Rows.boot_isinstance (@pa_cons _ _ _ _ _ (@pv _ 0 _ _ (by rfl) (by first | exact Or.inl rfl | exact Or.inr (Or.inl rfl) | exact Or.inr (Or.inr rfl)) (by decide) (by decide)) (@pa_cons _ _ _ _ _ (@pe_glob _ _ (.ref c.L) _ _ rfl gL rfl (by decide)) (@pa_nil _) (by rfl)) (by rfl)) (by decide) (by decide) (by rfl) (by rfl)) (@pa_cons _ _ _ _ _ (@pe_callB _ _ _ _ _ _ _ _ _ call_isinstC rfl mis PyProof.Rows.boot_isinstance (@pa_cons _ _ _ _ _ (@pv _ 0 _ _ (by rfl) (by first | exact Or.inl rfl | exact Or.inr (Or.inl rfl) | exact Or.inr (Or.inr rfl)) (by decide) (by decide)) (@pa_cons _ _ _ _ _ (@pe_glob _ _ (.ref c.D) _ _ rfl gD rfl (by decide)) (@pa_nil _) (by rfl)) (by rfl)) (by decide) (by decide) (by rfl) (by rfl)) (@pa_cons _ _ _ _ _ (@pe_callB _ _ _ _ _ _ _ _ _ call_isinstC rfl mis PyProof.Rows.boot_isinstance (@pa_cons _ _ _ _ _ (@pv _ 0 _ _ (by rfl) (by first | exact Or.inl rfl | exact Or.inr (Or.inl rfl) | exact Or.inr (Or.inr rfl)) (by decide) (by decide)) (@pa_cons _ _ _ _ _ (@pe_glob _ _ (.ref c.T) _ _ rfl gT rfl (by decide)) (@pa_nil _) (by rfl)) (by rfl)) (by decide) (by decide) (by rfl) (by rfl)) (@pa_nil _) (by rfl)) (by rfl)) (by rfl)))) (by rfl) (by first | exact .inl rfl | exact .inr rfl)) (@pss_cons _ _ _ _ _ (@ps_set _ _ (1) _ _ _ _ scRefused.nd rfl (Or.inl rfl) (@pe_op _ _ _ _ _ _ _ _ op_cat (@pv _ 1 _ _ (by rfl) (by first | exact Or.inl rfl | exact Or.inr (Or.inl rfl) | exact Or.inr (Or.inr rfl)) (by decide) (by decide)) (@pe_lst _ _ _ _ (@pa_cons _ _ _ _ _ (@pe_callB _ _ _ _ _ _ _ _ _ call_isinstC rfl mis PyProof.Rows.boot_isinstance (@pa_cons _ _ _ _ _ (@pv _ 0 _ _ (by rfl) (by first | exact Or.inl rfl | exact Or.inr (Or.inl rfl) | exact Or.inr (Or.inr rfl)) (by decide) (by decide)) (@pa_cons _ _ _ _ _ (@pe_glob _ _ (.ref c.S) _ _ rfl gS rfl (by decide)) (@pa_nil _) (by rfl)) (by rfl)) (by decide) (by decide) (by rfl) (by rfl)) (@pa_cons _ _ _ _ _ (@pe_callB _ _ _ _ _ _ _ _ _ call_isinstC rfl mis PyProof.Rows.boot_isinstance (@pa_cons _ _ _ _ _ (@pv _ 0 _ _ (by rfl) (by first | exact Or.inl rfl | exact Or.inr (Or.inl rfl) | exact Or.inr (Or.inr rfl)) (by decide) (by decide)) (@pa_cons _ _ _ _ _ (@pe_glob _ _ (.ref c.R) _ _ rfl gR rfl (by decide)) (@pa_nil _) (by rfl)) (by rfl)) (by decide) (by decide) (by rfl) (by rfl)) (@pa_nil _) (by rfl)) (by rfl)))) (by rfl) (by first | exact .inl rfl | exact .inr rfl)) (@pss_cons _ _ _ _ _ (@ps_if _ _ _ _ _ _ _ _ (@PW.pt _ _ _ (@pw_or _ _ _ _ _ _ _ (@pt_cmpR _ _ _ _ _ _ _ _ op_ne (@pe_bm _ _ _ _ _ _ _ _ _ _ _ _ PySem.F.plainAttrs_list PySem.F.slot_list_count PySem.F.type_list_count mt_countB (@pv _ 1 _ _ (by rfl) (by first | exact Or.inl rfl | exact Or.inr (Or.inl rfl) | exact Or.inr (Or.inr rfl)) (by decide) (by decide)) (@pa_cons _ _ _ _ _ (@pe_bl _ _ _ _) (@pa_nil _) (by rfl)) (by rfl) (by rfl) (by rfl) (by rfl) (by rfl)) (@pe_int _ _ _ _) (@nomark _ _ (by decide) (by decide))) (@pw_or1 _ _ _ _ (@pt_cmpR _ _ _ _ _ _ _ _ op_gt (@pe_bm _ _ _ _ _ _ _ _ _ _ _ _ PySem.F.plainAttrs_list PySem.F.slot_list_index PySem.F.type_list_index mt_indexB (@pv _ 1 _ _ (by rfl) (by first | exact Or.inl rfl | exact Or.inr (Or.inl rfl) | exact Or.inr (Or.inr rfl)) (by decide) (by decide)) (@pa_cons _ _ _ _ _ (@pe_bl _ _ _ _) (@pa_nil _) (by rfl)) (by rfl) (by rfl) (by rfl) (by rfl) (by rfl)) (@pe_int _ _ _ _) (@nomark _ _ (by decide) (by decide)))))) (@pss_one _ _ _ (@ps_ret _ _ _ _ (@pe_tup _ _ _ _ _ (@pa_cons _ _ _ _ _ (@pe_str _ _ _ _) (@pa_cons _ _ _ _ _ (@pe_str _ _ _ _) (@pa_nil _) (by rfl)) (by rfl))))) (@pss_nil _)) (@pss_cons _ _ _ _ _ (@ps_set _ _ (2) _ _ _ _ scRefused.nd rfl (Or.inl rfl) (@pe_ix _ _ _ _ _ _ _ ix_list (@pe_lst _ _ _ _ (@pa_strs _ _ ["twice", "name", "count", "long", "deep"] (by decide +kernel))) (@pe_bm _ _ _ _ _ _ _ _ _ _ _ _ PySem.F.plainAttrs_list PySem.F.slot_list_index PySem.F.type_list_index mt_indexB (@pv _ 1 _ _ (by rfl) (by first | exact Or.inl rfl | exact Or.inr (Or.inl rfl) | exact Or.inr (Or.inr rfl)) (by decide) (by decide)) (@pa_cons _ _ _ _ _ (@pe_bl _ _ _ _) (@pa_nil _) (by rfl)) (by rfl) (by rfl) (by rfl) (by rfl) (by rfl)) (fun _ _ => rfl)) (by rfl) (by first | exact .inl rfl | exact .inr rfl)) (@pss_cons _ _ _ _ _ (@ps_if _ _ _ _ _ _ _ _ (@pt_cmpR _ _ _ _ _ _ _ _ op_in_seq (@pv _ 2 _ _ (by rfl) (by first | exact Or.inl rfl | exact Or.inr (Or.inl rfl) | exact Or.inr (Or.inr rfl)) (by decide) (by decide)) (@pe_tup _ _ _ _ _ (@pa_strs _ _ ["long", "deep"] (by decide +kernel))) rfl) (@pss_one _ _ _ (@ps_ret _ _ _ _ (@pe_tup _ _ _ _ _ (@pa_cons _ _ _ _ _ (@pv _ 2 _ _ (by rfl) (by first | exact Or.inl rfl | exact Or.inr (Or.inl rfl) | exact Or.inr (Or.inr rfl)) (by decide) (by decide)) (@pa_cons _ _ _ _ _ (@pe_str _ _ _ _) (@pa_nil _) (by rfl)) (by rfl))))) (@pss_nil _)) (@pss_one _ _ _ (@ps_ret _ _ _ _ (@pe_tup _ _ _ _ _ (@pa_cons _ _ _ _ _ (@pv _ 2 _ _ (by rfl) (by first | exact Or.inl rfl | exact Or.inr (Or.inl rfl) | exact Or.inr (Or.inr rfl)) (by decide) (by decide)) (@pa_cons _ _ _ _ _ (@pe_fldC _ _ _ _ _ (@pv _ 0 _ _ (by rfl) (by first | exact Or.inl rfl | exact Or.inr (Or.inl rfl) | exact Or.inr (Or.inr rfl)) (by decide) (by decide)) (by rfl)) (@pa_nil _) (by rfl)) (by rfl)))))))))))), ?_⟩
  try dsimp only [cxOf, Cx.nox, Cx.wish]
  have big := line24
  refine seqF fun F1 f1 => ifG fun G' g' => ⟨_, rfl, a, C, _, _, _, _, rfl, rfl, ex, kin.x, kin.kv, _, rfl, iteF ?_⟩
  refine ⟨_, rfl, a, C, _, _, _, _, rfl, rfl, ex, kin.x, kin.kb, _, rfl, g' _ _ (iteF (f1 _ _ ?_))⟩
  clear f1 g'
  refine seqF fun F1 f1 => ⟨_, rfl, a, C, _, _, _, _, rfl, rfl, ex, kin.x, kin.kW, ⟨_, rfl, a, C, _, _, _, _, rfl, rfl, ex, kin.x, kin.kN, ⟨_, rfl, a, C, _, _, _, _, rfl, rfl, ex, kin.x, kin.kC, (by show 3 ≤ sizeLine; decide), fun l1 n1 => f1 _ _ ?_⟩⟩⟩
  clear f1
  have s1 : Same H (upd H l1 (.lst [.bl (i == 0), .bl (i == 1), .bl (i == 2)])) := same_upd n1
  have h1 : upd H l1 (.lst [.bl (i == 0), .bl (i == 1), .bl (i == 2)]) l1 = some (.lst [.bl (i == 0), .bl (i == 1), .bl (i == 2)]) := upd_same
  generalize upd H l1 (.lst [.bl (i == 0), .bl (i == 1), .bl (i == 2)]) = H1 at s1 h1
  have e1 := excC_kp s1 ex
  refine seqF fun F1 f1 => ⟨_, rfl, ⟨_, rfl, a, C, _, _, _, _, rfl, rfl, e1, kin.x, kin.kL, ⟨_, rfl, a, C, _, _, _, _, rfl, rfl, e1, kin.x, kin.kD, ⟨_, rfl, a, C, _, _, _, _, rfl, rfl, e1, kin.x, kin.kT, (by show 3 ≤ sizeLine; decide), fun l2 n2 => ?_⟩⟩⟩⟩
  refine ⟨l1, l2, _, _, rfl, rfl, keepN h1 n2, upd_same, (by show 3 + 3 ≤ sizeLine; decide), fun l3 n3 => f1 _ _ ?_⟩
  clear f1
  have s3 := (s1.trans (same_upd n2)).trans (same_upd (o := .lst ([.bl (i == 0), .bl (i == 1), .bl (i == 2)] ++ [.bl (i == 3), .bl (i == 4), .bl (i == 5)])) n3)
  have h3 : upd (upd H1 l2 (.lst [.bl (i == 3), .bl (i == 4), .bl (i == 5)])) l3 (.lst ([.bl (i == 0), .bl (i == 1), .bl (i == 2)] ++ [.bl (i == 3), .bl (i == 4), .bl (i == 5)])) l3 = some (.lst ([.bl (i == 0), .bl (i == 1), .bl (i == 2)] ++ [.bl (i == 3), .bl (i == 4), .bl (i == 5)])) := upd_same
  generalize upd (upd H1 l2 (.lst [.bl (i == 3), .bl (i == 4), .bl (i == 5)])) l3 (.lst ([.bl (i == 0), .bl (i == 1), .bl (i == 2)] ++ [.bl (i == 3), .bl (i == 4), .bl (i == 5)])) = H3 at s3 h3
  have e3 := excC_kp s3 ex
  refine seqF fun F1 f1 => ⟨_, rfl, ⟨_, rfl, a, C, _, _, _, _, rfl, rfl, e3, kin.x, kin.kS, ⟨_, rfl, a, C, _, _, _, _, rfl, rfl, e3, kin.x, kin.kR, (by show 2 ≤ sizeLine; decide), fun l4 n4 => ?_⟩⟩⟩
  refine ⟨l3, l4, _, _, rfl, rfl, keepN h3 n4, upd_same, (by show 6 + 2 ≤ sizeLine; decide), fun l5 n5 => f1 _ _ ?_⟩
  clear f1
  have s5 := (s3.trans (same_upd (o := .lst [.bl (i == 6), .bl (i == 7)]) n4)).trans (same_upd (o := .lst (([.bl (i == 0), .bl (i == 1), .bl (i == 2)] ++ [.bl (i == 3), .bl (i == 4), .bl (i == 5)]) ++ [.bl (i == 6), .bl (i == 7)])) n5)
  have h5 : upd (upd H3 l4 (.lst [.bl (i == 6), .bl (i == 7)])) l5 (.lst (([.bl (i == 0), .bl (i == 1), .bl (i == 2)] ++ [.bl (i == 3), .bl (i == 4), .bl (i == 5)]) ++ [.bl (i == 6), .bl (i == 7)])) l5 = some (.lst ((kb8 i).map V.bl)) := upd_same
  generalize upd (upd H3 l4 (.lst [.bl (i == 6), .bl (i == 7)])) l5 (.lst (([.bl (i == 0), .bl (i == 1), .bl (i == 2)] ++ [.bl (i == 3), .bl (i == 4), .bl (i == 5)]) ++ [.bl (i == 6), .bl (i == 7)])) = H5 at s5 h5
  have e5 := excC_kp s5 ex
  obtain ⟨ka, kz⟩ := kb8_at kin.lt
  have hlt := kin.lt
  refine seqF fun F1 f1 => ifG fun G' g' => ⟨_, rfl, .inl ⟨rfl, _, SqL.of h5⟩, l5, kb8 i, rfl, rfl, h5, rfl, _, rfl, ifX (by rw [kb8_count kin.lt]; decide +kernel) ?_⟩
  refine ⟨_, rfl, .inl ⟨rfl, _, SqL.of h5⟩, l5, kb8 i, i, rfl, rfl, h5, ka, kz, _, _, rfl, rfl, _, rfl, g' _ _ (ifX (decide_eq_false (by omega)) (f1 _ _ ?_))⟩
  clear f1 g'
  refine seqF fun F1 f1 => ⟨(by show 5 ≤ sizeLine; decide), fun l6 n6 => ?_⟩
  have s6 := same_upd (o := .lst ((["twice", "name", "count", "long", "deep"] : List Str).map V.str)) n6
  refine ⟨_, rfl, .inl ⟨rfl, _, SqL.of (s6 _ _ h5)⟩, l5, kb8 i, i, rfl, rfl, s6 _ _ h5, ka, kz, ?_⟩
  have hw : atI ((["twice", "name", "count", "long", "deep"] : List Str).map V.str) ((i : Nat) : Int) = some (.str (wordR i)) := by
    rcases (by omega : i = 0 ∨ i = 1 ∨ i = 2) with rfl | rfl | rfl <;> rfl
  refine ⟨l6, _, _, _, rfl, rfl, SqL.of upd_same, hw, f1 _ _ ?_⟩
  clear f1
  refine seqF fun F1 f1 => ifG fun G' g' => ⟨_, rfl, (by show 2 ≤ sizeLine; decide), fun l7 n7 => ?_⟩
  have s7 := same_upd (o := .tup ((["long", "deep"] : List Str).map V.str)) n7
  refine ⟨l7, _, rfl, .inr (SqT.of upd_same), rfl, rfl, _, rfl, g' _ _ (ifX ?_ (f1 _ _ ?_))⟩
  · rcases (by omega : i = 0 ∨ i = 1 ∨ i = 2) with rfl | rfl | rfl <;> decide +kernel
  refine ⟨_, rfl, _, rfl, a, C, _, .str y, rfl, excC_kp (s6.trans s7) e5, kin.x, kin.no, rfl, (by show 2 ≤ sizeLine; decide), fun r nr => ?_⟩
  exact q r _ upd_same (s5.trans ((s6.trans s7).trans (same_upd nr)))
theorem scSaid : FnScope ["_law_program", "_law_told", "_law_caught", "e"] ["_law_program"] (defScope sSaid) := ⟨rfl, rfl, rfl, by decide +kernel, rfl, by decide +kernel, by decide +kernel⟩
noncomputable def spSaid : Sp := fun vs H Q _ => ∃ (a : Addr) (ds : List Df) (xs : List V), vs = [.ref a] ∧ H a = some (.tup xs) ∧ DfsV H ds xs ∧ ds.length ≤ 1000 ∧ (∀ d ∈ ds, d.ps.length ≤ 1000 ∧ d.b.size ≤ 10000000) ∧
  ∀ (r : Addr) (H' : Hp), H' r = some (.tup (vdV (verdict ds))) → Kp H H' → Q (.ref r) H'
noncomputable def Rs (K : PySem.W.Frag) (c : Cs) (a : Addr) (ds : List Df) (H : Hp) : L2.St → Hp → Prop := fun σ' H' => (σ' = [some (.ref a), some (.bl true), some .non, none] ∧ verdict ds = .ok ∧ Kp H H') ∨
  ∃ (x C : Addr) (i : Nat) (y : Str) (o1 : Option V), σ' = [some (.ref a), o1, some (.ref x), none] ∧ verdict ds = vdOf i y ∧ ExcC H' x C [("name", .str y)] ∧ KinR K c C i ∧ Kp H H'
theorem ok_said {f  : Addr} {fd  : FuncData} (F : Fun K "_law_said" "_law_said" sSaid f fd) {c : Cs} (kW : KinR K c c.W 0) (kN : KinR K c c.N 1) (kC : KinR K c c.C 2) (GS : FnOk P w K mg base (CX1 P w) 4 fS fdS ["program"] (spSound c.W c.N c.C)) (bS : Binds K fdS ["program"] []) (kS : PySem.W.keepIn K (.ref fS) = true) (mS : mg "sound" = some (.ref fS)) (GF : FnOk P w K mg base CX0 1 fF fdF ["_law_caught"] (spRefused K c)) (bF : Binds K fdF ["_law_caught"] []) (kF : PySem.W.keepIn K (.ref fF) = true) (mF : mg "_law_refused" = some (.ref fF)) (gB : mg "BookError" = some (.ref c.B)) (hB : PySem.W.clsIn K c.B ≠ none) (tB : PySem.W.typeIn K (.ref c.B) = some (.type "type")) (mB : PySem.W.mroIn K c.B (.type "BaseException") = some true) : FnOk P w K mg base CX0 5 f fd ["_law_program"] spSaid := by
  refine F.ok scSaid (fun vs H Q E h => ?_) (fun cdv A outer s H vs Q E hr h => ?_)
  · refine opq fun Gq kq => ?_
    obtain ⟨a, ds, xs, rfl, _⟩ := h
    refine kq ?_
    clear kq
    rfl
  refine opq fun Gq kq => ?_
  obtain ⟨a, ds, xs, rfl, ha, hD, hz, hb, q⟩ := h
  refine kq ?_
  clear kq
  refine ⟨_, (@pss_cons _ _ _ _ _ (@ps_set _ _ (1) _ _ _ _ scSaid.nd rfl (Or.inl rfl) (@pe_non _ _ _) (by rfl) (by first | exact .inl rfl | exact .inr rfl)) (@pss_cons _ _ _ _ _ (@ps_set _ _ (2) _ _ _ _ scSaid.nd rfl (Or.inl rfl) (@pe_non _ _ _) (by rfl) (by first | exact .inl rfl | exact .inr rfl)) (@pss_cons _ _ _ _ _ (@ps_mid _ _ _ (@ps_try _ _ _ _ _ _ _ _ _ _ _ _ (3) rfl rfl (@psx_set _ _ _ _ (1) _ _ scSaid.nd rfl (Or.inl rfl) (@pex_call _ _ _ _ _ _ _ _ _ _ _ _ _ _ GS hr rfl mS kS bS .nil (@pa_cons _ _ _ _ _ (@pv _ 0 _ _ (by rfl) (by first | exact Or.inl rfl | exact Or.inr (Or.inl rfl) | exact Or.inr (Or.inr rfl)) (by decide) (by decide)) (@pa_nil _) (by rfl)) (by decide) (by rfl) (by rfl)) (by rfl) (by first | exact .inl rfl | exact .inr rfl)) rfl gB hB tB mB scSaid.nd rfl rfl (fun _ => (@pss_one _ _ _ (@ps_set _ _ (2) _ _ _ _ scSaid.nd rfl (Or.inl rfl) (@pv _ 3 _ _ (by rfl) (by first | exact Or.inl rfl | exact Or.inr (Or.inl rfl) | exact Or.inr (Or.inr rfl)) (by decide) (by decide)) (by rfl) (by first | exact .inl rfl | exact .inr rfl)))) (by decide))) (@pss_cons _ _ _ _ _ (@ps_if _ _ _ _ _ _ _ _ (@pt_cmp _ _ _ _ _ _ (@pc_isN _ _ _ _ _ (@pv _ 2 _ _ (by rfl) (by first | exact Or.inl rfl | exact Or.inr (Or.inl rfl) | exact Or.inr (Or.inr rfl)) (by decide) (by decide))) (by rfl)) (@pss_one _ _ _ (@ps_ret _ _ _ _ (@pe_tup _ _ _ _ _ (@pa_cons _ _ _ _ _ (@pe_str _ _ _ _) (@pa_cons _ _ _ _ _ (@pe_cmpR _ _ _ _ _ _ _ _ op_isB (@pv _ 1 _ _ (by rfl) (by first | exact Or.inl rfl | exact Or.inr (Or.inl rfl) | exact Or.inr (Or.inr rfl)) (by decide) (by decide)) (@pe_bl _ _ _ _) (@nomark _ _ (by decide) (by decide))) (@pa_nil _) (by rfl)) (by rfl))))) (@pss_nil _)) (@pss_one _ _ _ (@ps_ret _ _ _ _ (@pe_call _ _ _ _ _ _ _ _ _ _ _ _ _ _ _ _ GF (hr.mono (by decide)) rfl mF kF bF .nil pass0 (@pa_cons _ _ _ _ _ (@pv _ 2 _ _ (by rfl) (by first | exact Or.inl rfl | exact Or.inr (Or.inl rfl) | exact Or.inr (Or.inr rfl)) (by decide) (by decide)) (@pa_nil _) (by rfl)) (by decide) (by rfl) (by rfl)))))))), ?_⟩
  try dsimp only [cxOf, Cx.nox, Cx.wish]
  refine ⟨Rs K c a ds H, ?_, ?_⟩
  · refine ⟨_, rfl, a, ds, xs, rfl, ha, hD, hz, hb, fun e H' s => .inl ⟨rfl, e, Kp.same s⟩, fun y e => ?_, fun y e => ?_, fun y e => ?_⟩
    · intro dx H' kp hdx x C T eC hx hT hTx
      cases eC
      refine ⟨kW.mb, fun T' nT' => ?_⟩
      have xT : T' ≠ x := fun z => by rw [z, hx] at nT'; cases nT'
      have kk : Kp H' (upd (upd H' T' (TbO T')) x (TxO c.W (some dx) T' x)) := (Kp.new nT').trans (Kp.at_ext (φ := fun h => ∃ o vs, h.get? x = some o ∧ o.cls = .ref c.W ∧ PySem.W.notCls o = true ∧ o.dict = some dx ∧ o.data = .fields vs ∧ vs[1]? = some (.ref T)) (by rw [upd_ne (Ne.symm xT)]; exact hx))
      exact ⟨_, rfl, .inr ⟨x, c.W, 0, y, _, rfl, e, .inr ⟨dx, T', upd_same, kk _ _ rfl hdx⟩, kW, kp.trans kk⟩⟩
    · intro dx H' kp hdx x C T eC hx hT hTx
      cases eC
      refine ⟨kN.mb, fun T' nT' => ?_⟩
      have xT : T' ≠ x := fun z => by rw [z, hx] at nT'; cases nT'
      have kk : Kp H' (upd (upd H' T' (TbO T')) x (TxO c.N (some dx) T' x)) := (Kp.new nT').trans (Kp.at_ext (φ := fun h => ∃ o vs, h.get? x = some o ∧ o.cls = .ref c.N ∧ PySem.W.notCls o = true ∧ o.dict = some dx ∧ o.data = .fields vs ∧ vs[1]? = some (.ref T)) (by rw [upd_ne (Ne.symm xT)]; exact hx))
      exact ⟨_, rfl, .inr ⟨x, c.N, 1, y, _, rfl, e, .inr ⟨dx, T', upd_same, kk _ _ rfl hdx⟩, kN, kp.trans kk⟩⟩
    · intro dx H' kp hdx x C T eC hx hT hTx
      cases eC
      refine ⟨kC.mb, fun T' nT' => ?_⟩
      have xT : T' ≠ x := fun z => by rw [z, hx] at nT'; cases nT'
      have kk : Kp H' (upd (upd H' T' (TbO T')) x (TxO c.C (some dx) T' x)) := (Kp.new nT').trans (Kp.at_ext (φ := fun h => ∃ o vs, h.get? x = some o ∧ o.cls = .ref c.C ∧ PySem.W.notCls o = true ∧ o.dict = some dx ∧ o.data = .fields vs ∧ vs[1]? = some (.ref T)) (by rw [upd_ne (Ne.symm xT)]; exact hx))
      exact ⟨_, rfl, .inr ⟨x, c.C, 2, y, _, rfl, e, .inr ⟨dx, T', upd_same, kk _ _ rfl hdx⟩, kC, kp.trans kk⟩⟩
  rintro _ H1 (⟨rfl, e, k1⟩ | ⟨x, C, i, y, o1, rfl, e, ex, kin, k1⟩)
  · refine ⟨_, rfl, _, rfl, ifY rfl ?_⟩
    refine ⟨_, rfl, true, true, rfl, rfl, (by show 2 ≤ sizeLine; decide), fun r nr => ?_⟩
    exact q r _ (by rw [upd_same, e]; rfl) (k1.trans (Kp.new nr))
  · refine ⟨_, rfl, _, rfl, ifX rfl ?_⟩
    refine ⟨_, rfl, x, C, i, y, rfl, ex, kin, fun r H2 hr s2 => ?_⟩
    exact q r H2 (by rw [hr, e, vdV_of]) (k1.trans (Kp.same s2))
end
end K9

set_option Elab.async false
set_option linter.all false
set_option maxRecDepth 100000
set_option maxHeartbeats 4000000
namespace K9
open PySem PySem.Spec PyProof.Rows L2

noncomputable abbrev sWrap : Stmt := top 22
noncomputable abbrev sWrong : Stmt := top 23
theorem BoxAt.same {H H' : Hp} {p : Addr} (B : BoxAt H p) (s : Same H H') : BoxAt H' p := by
  refine opq fun Gq kq => ?_
  obtain ⟨a, b, h1, h2, h3, h⟩ := B.ob
  refine kq ?_
  clear kq
  exact ⟨a, b, h1, h2, h3, s _ _ h⟩
theorem But.of_same {p : Addr} {H H' : Hp} (s : Same H H') : But p H H' := fun b o _ e => s _ _ e
theorem But.tm {p : Addr} {H H' : Hp} (k : But p H H') (B : BoxAt H p) : TMono H H' := fun b xs e => by
  refine opq fun Gq kq => ?_
  obtain ⟨a, c, _, _, _, hp⟩ := B.ob
  refine kq ?_
  clear kq
  exact k b _ (ne_of e hp (by intro w; cases w)) e
noncomputable def spWrap : Sp := fun vs H Q _ => ∃ (p v : Addr) (b : Bd), vs = [.ref p, .ref v] ∧ BoxAt H p ∧ BdV H b [.ref v] ∧
  ∀ (v' : Addr) (b' : Bd) (H' : Hp), BdV H' b' [.ref v'] → b'.calls = b.calls → b'.size ≤ b.size + 10 → BoxAt H' p → But p H H' → Q (.ref v') H'
section
variable {P : Program} {w : World} {K : PySem.W.Frag} {mg : Str → Option Value} {base : Heap}
theorem scWrap : FnScope ["_law_box_here", "_law_one", "_law_k", "_law_pick", "_law_test"] ["_law_box_here", "_law_one"] (defScope sWrap) := ⟨rfl, rfl, rfl, by decide +kernel, rfl, by decide +kernel, by decide +kernel⟩
theorem ok_wrap {f  : Addr} {fd  : FuncData} (F : Fun K "_law_wrapped" "_law_wrapped" sWrap f fd) (GT : FnOk P w K mg base CX0 1 fT fdT ["_law_box_here", "_law_wide"] spTake) (bT : Binds K fdT ["_law_box_here", "_law_wide"] []) (kT : PySem.W.keepIn K (.ref fT) = true) (mT : mg "_law_take" = some (.ref fT)) (mr : mg "range" = none) : FnOk P w K mg base CX0 2 f fd ["_law_box_here", "_law_one"] spWrap := by
  refine F.ok scWrap (fun vs H Q E h => ?_) (fun cdv A outer s H vs Q E hr h => ?_)
  · refine opq fun Gq kq => ?_
    obtain ⟨p, v, b, rfl, _⟩ := h
    refine kq ?_
    clear kq
    rfl
  refine opq fun Gq kq => ?_
  obtain ⟨p, v, b, rfl, B, hb, q⟩ := h
  refine kq ?_
  clear kq
  refine ⟨_, (@pss_cons _ _ _ _ _ (@ps_for _ _ _ _ _ _ _ _ PassesOwn.never rfl (@pi_range1 _ _ _ _ _ _ rfl mr (@pa_cons _ _ _ _ _ (@pe_call _ _ _ _ _ _ _ _ _ _ _ _ _ _ _ _ GT hr rfl mT kT bT .nil pass0 (@pa_cons _ _ _ _ _ (@pv _ 0 _ _ (by rfl) (by first | exact Or.inl rfl | exact Or.inr (Or.inl rfl) | exact Or.inr (Or.inr rfl)) (by decide) (by decide)) (@pa_cons _ _ _ _ _ (@pe_int _ _ _ _) (@pa_nil _) (by rfl)) (by rfl)) (by decide) (by rfl) (by rfl)) (@pa_nil _) (by rfl)) (by rfl)) (@pg_name _ _ (2) _ scWrap.nd rfl (Or.inl rfl) (by first | exact .inl rfl | exact .inr rfl)) (@pss_cons _ _ _ _ _ (@ps_set _ _ (3) _ _ _ _ scWrap.nd rfl (Or.inl rfl) (@pe_call _ _ _ _ _ _ _ _ _ _ _ _ _ _ _ _ GT hr rfl mT kT bT .nil pass0 (@pa_cons _ _ _ _ _ (@pv _ 0 _ _ (by rfl) (by first | exact Or.inl rfl | exact Or.inr (Or.inl rfl) | exact Or.inr (Or.inr rfl)) (by decide) (by decide)) (@pa_cons _ _ _ _ _ (@pe_int _ _ _ _) (@pa_nil _) (by rfl)) (by rfl)) (by decide) (by rfl) (by rfl)) (by rfl) (by first | exact .inl rfl | exact .inr rfl)) (@pss_cons _ _ _ _ _ (@ps_set _ _ (4) _ _ _ _ scWrap.nd rfl (Or.inl rfl) (@pe_tup _ _ _ _ _ (@pa_cons _ _ _ _ _ (@pe_str _ _ _ _) (@pa_cons _ _ _ _ _ (@pe_call _ _ _ _ _ _ _ _ _ _ _ _ _ _ _ _ GT hr rfl mT kT bT .nil pass0 (@pa_cons _ _ _ _ _ (@pv _ 0 _ _ (by rfl) (by first | exact Or.inl rfl | exact Or.inr (Or.inl rfl) | exact Or.inr (Or.inr rfl)) (by decide) (by decide)) (@pa_cons _ _ _ _ _ (@pe_int _ _ _ _) (@pa_nil _) (by rfl)) (by rfl)) (by decide) (by rfl) (by rfl)) (@pa_nil _) (by rfl)) (by rfl))) (by rfl) (by first | exact .inl rfl | exact .inr rfl)) (@pss_one _ _ _ (@ps_if _ _ _ _ _ _ _ _ (@pt_cmpR _ _ _ _ _ _ _ _ op_eq (@pv _ 3 _ _ (by rfl) (by first | exact Or.inl rfl | exact Or.inr (Or.inl rfl) | exact Or.inr (Or.inr rfl)) (by decide) (by decide)) (@pe_int _ _ _ _) (@nomark _ _ (by decide) (by decide))) (@pss_one _ _ _ (@ps_set _ _ (1) _ _ _ _ scWrap.nd rfl (Or.inl rfl) (@pe_tup _ _ _ _ _ (@pa_cons _ _ _ _ _ (@pe_str _ _ _ _) (@pa_cons _ _ _ _ _ (@pv _ 4 _ _ (by rfl) (by first | exact Or.inl rfl | exact Or.inr (Or.inl rfl) | exact Or.inr (Or.inr rfl)) (by decide) (by decide)) (@pa_cons _ _ _ _ _ (@pe_tup _ _ _ _ _ (@pa_cons _ _ _ _ _ (@pv _ 1 _ _ (by rfl) (by first | exact Or.inl rfl | exact Or.inr (Or.inl rfl) | exact Or.inr (Or.inr rfl)) (by decide) (by decide)) (@pa_nil _) (by rfl))) (@pa_cons _ _ _ _ _ (@pe_tup _ _ _ _ _ (@pa_nil _)) (@pa_nil _) (by rfl)) (by rfl)) (by rfl)) (by rfl))) (by rfl) (by first | exact .inl rfl | exact .inr rfl))) (@pss_one _ _ _ (@ps_if _ _ _ _ _ _ _ _ (@pt_cmpR _ _ _ _ _ _ _ _ op_eq (@pv _ 3 _ _ (by rfl) (by first | exact Or.inl rfl | exact Or.inr (Or.inl rfl) | exact Or.inr (Or.inr rfl)) (by decide) (by decide)) (@pe_int _ _ _ _) (@nomark _ _ (by decide) (by decide))) (@pss_one _ _ _ (@ps_set _ _ (1) _ _ _ _ scWrap.nd rfl (Or.inl rfl) (@pe_tup _ _ _ _ _ (@pa_cons _ _ _ _ _ (@pe_str _ _ _ _) (@pa_cons _ _ _ _ _ (@pe_tup _ _ _ _ _ (@pa_cons _ _ _ _ _ (@pe_str _ _ _ _) (@pa_cons _ _ _ _ _ (@pe_str _ _ _ _) (@pa_nil _) (by rfl)) (by rfl))) (@pa_cons _ _ _ _ _ (@pe_tup _ _ _ _ _ (@pa_cons _ _ _ _ _ (@pe_tup _ _ _ _ _ (@pa_cons _ _ _ _ _ (@pe_str _ _ _ _) (@pa_cons _ _ _ _ _ (@pv _ 4 _ _ (by rfl) (by first | exact Or.inl rfl | exact Or.inr (Or.inl rfl) | exact Or.inr (Or.inr rfl)) (by decide) (by decide)) (@pa_nil _) (by rfl)) (by rfl))) (@pa_nil _) (by rfl))) (@pa_cons _ _ _ _ _ (@pe_tup _ _ _ _ _ (@pa_cons _ _ _ _ _ (@pv _ 1 _ _ (by rfl) (by first | exact Or.inl rfl | exact Or.inr (Or.inl rfl) | exact Or.inr (Or.inr rfl)) (by decide) (by decide)) (@pa_nil _) (by rfl))) (@pa_nil _) (by rfl)) (by rfl)) (by rfl)) (by rfl))) (by rfl) (by first | exact .inl rfl | exact .inr rfl))) (@pss_one _ _ _ (@ps_if _ _ _ _ _ _ _ _ (@pt_cmpR _ _ _ _ _ _ _ _ op_eq (@pv _ 3 _ _ (by rfl) (by first | exact Or.inl rfl | exact Or.inr (Or.inl rfl) | exact Or.inr (Or.inr rfl)) (by decide) (by decide)) (@pe_int _ _ _ _) (@nomark _ _ (by decide) (by decide))) (@pss_one _ _ _ (@ps_set _ _ (1) _ _ _ _ scWrap.nd rfl (Or.inl rfl) (@pe_tup _ _ _ _ _ (@pa_cons _ _ _ _ _ (@pe_str _ _ _ _) (@pa_cons _ _ _ _ _ (@pv _ 4 _ _ (by rfl) (by first | exact Or.inl rfl | exact Or.inr (Or.inl rfl) | exact Or.inr (Or.inr rfl)) (by decide) (by decide)) (@pa_cons _ _ _ _ _ (@pe_tup _ _ _ _ _ (@pa_nil _)) (@pa_cons _ _ _ _ _ (@pe_tup _ _ _ _ _ (@pa_cons _ _ _ _ _ (@pe_tup _ _ _ _ _ (@pa_cons _ _ _ _ _ (@pe_str _ _ _ _) (@pa_cons _ _ _ _ _ (@pe_str _ _ _ _) (@pa_cons _ _ _ _ _ (@pv _ 4 _ _ (by rfl) (by first | exact Or.inl rfl | exact Or.inr (Or.inl rfl) | exact Or.inr (Or.inr rfl)) (by decide) (by decide)) (@pa_nil _) (by rfl)) (by rfl)) (by rfl))) (@pa_cons _ _ _ _ _ (@pv _ 1 _ _ (by rfl) (by first | exact Or.inl rfl | exact Or.inr (Or.inl rfl) | exact Or.inr (Or.inr rfl)) (by decide) (by decide)) (@pa_nil _) (by rfl)) (by rfl))) (@pa_nil _) (by rfl)) (by rfl)) (by rfl)) (by rfl))) (by rfl) (by first | exact .inl rfl | exact .inr rfl))) (@pss_one _ _ _ (@ps_set _ _ (1) _ _ _ _ scWrap.nd rfl (Or.inl rfl) (@pe_tup _ _ _ _ _ (@pa_cons _ _ _ _ _ (@pe_str _ _ _ _) (@pa_cons _ _ _ _ _ (@pv _ 4 _ _ (by rfl) (by first | exact Or.inl rfl | exact Or.inr (Or.inl rfl) | exact Or.inr (Or.inr rfl)) (by decide) (by decide)) (@pa_cons _ _ _ _ _ (@pe_tup _ _ _ _ _ (@pa_cons _ _ _ _ _ (@pv _ 1 _ _ (by rfl) (by first | exact Or.inl rfl | exact Or.inr (Or.inl rfl) | exact Or.inr (Or.inr rfl)) (by decide) (by decide)) (@pa_cons _ _ _ _ _ (@pe_tup _ _ _ _ _ (@pa_cons _ _ _ _ _ (@pe_str _ _ _ _) (@pa_cons _ _ _ _ _ (@pv _ 4 _ _ (by rfl) (by first | exact Or.inl rfl | exact Or.inr (Or.inl rfl) | exact Or.inr (Or.inr rfl)) (by decide) (by decide)) (@pa_nil _) (by rfl)) (by rfl))) (@pa_nil _) (by rfl)) (by rfl))) (@pa_nil _) (by rfl)) (by rfl)) (by rfl))) (by rfl) (by first | exact .inl rfl | exact .inr rfl))))))))))) (by intro _; rfl)) (@pss_one _ _ _ (@ps_ret _ _ _ _ (@pv _ 1 _ _ (by rfl) (by first | exact Or.inl rfl | exact Or.inr (Or.inl rfl) | exact Or.inr (Or.inr rfl)) (by decide) (by decide))))), ?_⟩
  try dsimp only [cxOf, Cx.nox, Cx.wish]
  refine ⟨_, rfl, p, 6, rfl, B, by decide, by decide, fun m H1 m0 m1 B1 e1 => ⟨_, rfl, by omega, by omega, ?_⟩⟩
  have k1 : But p H H1 := But.of_eq e1
  refine for_range (lo := 0) (fun i σ H' => ∃ (o2 o3 o4 : Option V) (v' : Addr) (b' : Bd), σ = [some (.ref p), some (.ref v'), o2, o3, o4] ∧ BdV H' b' [.ref v'] ∧ b'.calls = b.calls ∧ b'.size ≤ b.size + 2 * i ∧ BoxAt H' p ∧ But p H H')
    ⟨_, _, _, v, b, rfl, hb.mono (k1.tm B), rfl, Nat.le_refl _, B1, k1⟩ ?_ ?_
  · intro i σ H2 hi hq'
    refine opq fun Gq kq => ?_
    obtain ⟨o2, o3, o4, v', b', rfl, hb2, hc2, hz2, B2, k2⟩ := hq'
    refine kq ?_
    clear kq
    refine ⟨_, rfl, p, 4, rfl, B2, by decide, by decide, fun d3 H3 d30 d31 B3 e3 => ?_⟩
    have k3 := k2.trans (But.of_eq e3)
    have hb3 := hb2.mono ((But.of_eq e3).tm B2)
    refine ⟨_, rfl, p, 2, rfl, B3, by decide, by decide, fun d4 H4 d40 d41 B4 e4 => ⟨(by show 2 ≤ sizeLine; decide), fun t nt => ?_⟩⟩
    have st : Same H4 (upd H4 t (.tup [.str "num", .int d4])) := same_upd nt
    have k5 := (k3.trans (But.of_eq e4)).trans (But.of_same st)
    have hb5 := (hb3.mono ((But.of_eq e4).tm B3)).mono (Same.tm st)
    have B5 := B4.same st
    generalize upd H4 t (.tup [.str "num", .int d4]) = H5 at st k5 hb5 B5
    have fin : ∀ (r : Addr) (b2 : Bd) (H6 : Hp), Same H5 H6 → BdV H6 b2 [.ref r] → b2.calls = b'.calls → b2.size ≤ b'.size + 2 → ∀ o2 o3 o4 : Option V, ∃ (o2' o3' o4' : Option V) (v'' : Addr) (b'' : Bd), [some (.ref p), some (.ref r), o2, o3, o4] = [some (.ref p), some (.ref v''), o2', o3', o4'] ∧ BdV H6 b'' [.ref v''] ∧ b''.calls = b.calls ∧ b''.size ≤ b.size + 2 * (i + 1) ∧ BoxAt H6 p ∧ But p H H6 :=
      fun r b2 H6 s6 h6 c6 z6 o2 o3 o4 => ⟨o2, o3, o4, r, b2, rfl, h6, c6.trans hc2, by omega, B5.same s6, k5.trans (But.of_same s6)⟩
    refine ⟨_, rfl, rfl, _, rfl, ?_⟩
    refine ite2 (fun c => ?_) (fun c => ?_)
    · refine ⟨_, rfl, _, rfl, (by show 1 ≤ sizeLine; decide), fun u1 n1 => ⟨(by show 0 ≤ sizeLine; decide), fun u2 n2 => ⟨(by show 4 ≤ sizeLine; decide), fun r nr => ?_⟩⟩⟩
      have s6 : Same H5 (upd (upd (upd H5 u1 (.tup [.ref v'])) u2 (.tup [])) r (.tup [.str "if", .ref t, .ref u1, .ref u2])) := ((same_upd n1).trans (same_upd n2)).trans (same_upd nr)
      exact fin r (.ite b' .nil .nil) _ s6 ⟨r, .ref t, u1, u2, [.ref v'], [], [], rfl, upd_same, keepN (keepN upd_same n2) nr, keepN upd_same nr, hb5.mono (Same.tm s6), rfl, rfl⟩ (by show b'.calls ++ [] ++ [] = _; rw [List.append_nil, List.append_nil]) (by show b'.size + 0 + 0 + 1 ≤ _; omega) _ _ _
    refine ⟨_, rfl, rfl, _, rfl, ?_⟩
    refine ite2 (fun c => ?_) (fun c => ?_)
    · refine ⟨(by show 2 ≤ sizeLine; decide), fun u0 n0 => ⟨_, rfl, (by show 2 ≤ sizeLine; decide), fun u1 n1 => ⟨(by show 1 ≤ sizeLine; decide), fun u2 n2 => ⟨_, rfl, (by show 1 ≤ sizeLine; decide), fun u3 n3 => ⟨(by show 4 ≤ sizeLine; decide), fun r nr => ?_⟩⟩⟩⟩⟩
      have s6 : Same H5 (upd (upd (upd (upd (upd H5 u0 (.tup [.str "var", .str "x"])) u1 (.tup [.str "give", .ref t])) u2 (.tup [.ref u1])) u3 (.tup [.ref v'])) r (.tup [.str "if", .ref u0, .ref u2, .ref u3])) := ((((same_upd n0).trans (same_upd n1)).trans (same_upd n2)).trans (same_upd n3)).trans (same_upd nr)
      exact fin r (.ite (.oth .nil) b' .nil) _ s6 ⟨r, .ref u0, u2, u3, [.ref u1], [.ref v'], [], rfl, upd_same, keepN (keepN upd_same n3) nr, keepN upd_same nr, ⟨u1, "give", [.ref t], [], rfl, .inr (.inr (.inl rfl)), keepN (keepN (keepN upd_same n2) n3) nr, rfl⟩, hb5.mono (Same.tm s6), rfl⟩ (by show [] ++ b'.calls ++ [] = _; rw [List.append_nil]; rfl) (by show 0 + 1 + b'.size + 0 + 1 ≤ _; omega) _ _ _
    refine ⟨_, rfl, rfl, _, rfl, ?_⟩
    refine ite2 (fun c => ?_) (fun c => ?_)
    · refine ⟨_, rfl, (by show 0 ≤ sizeLine; decide), fun u1 n1 => ⟨_, rfl, (by show 3 ≤ sizeLine; decide), fun u2 n2 => ⟨_, rfl, (by show 2 ≤ sizeLine; decide), fun u3 n3 => ⟨(by show 4 ≤ sizeLine; decide), fun r nr => ?_⟩⟩⟩⟩
      have s6 : Same H5 (upd (upd (upd (upd H5 u1 (.tup [])) u2 (.tup [.str "set", .str "y", .ref t])) u3 (.tup [.ref u2, .ref v'])) r (.tup [.str "if", .ref t, .ref u1, .ref u3])) := (((same_upd n1).trans (same_upd n2)).trans (same_upd n3)).trans (same_upd nr)
      have hbb : BdV (upd (upd (upd (upd H5 u1 (.tup [])) u2 (.tup [.str "set", .str "y", .ref t])) u3 (.tup [.ref u2, .ref v'])) r (.tup [.str "if", .ref t, .ref u1, .ref u3])) (.oth b') [.ref u2, .ref v'] := ⟨u2, "set", [.str "y", .ref t], [.ref v'], rfl, .inr (.inr (.inr rfl)), keepN (keepN upd_same n3) nr, hb5.mono (Same.tm s6)⟩
      exact fin r (.ite .nil (.oth b') .nil) _ s6 ⟨r, .ref t, u1, u3, [], [.ref u2, .ref v'], [], rfl, upd_same, keepN (keepN (keepN upd_same n2) n3) nr, keepN upd_same nr, rfl, hbb, rfl⟩ (by show [] ++ b'.calls ++ [] = _; rw [List.append_nil]; rfl) (by show 0 + (b'.size + 1) + 0 + 1 ≤ _; omega) _ _ _
    · refine ⟨_, rfl, _, rfl, _, rfl, (by show 2 ≤ sizeLine; decide), fun u1 n1 => ⟨(by show 2 ≤ sizeLine; decide), fun u2 n2 => ⟨(by show 3 ≤ sizeLine; decide), fun r nr => ?_⟩⟩⟩
      have s6 : Same H5 (upd (upd (upd H5 u1 (.tup [.str "give", .ref t])) u2 (.tup [.ref v', .ref u1])) r (.tup [.str "while", .ref t, .ref u2])) := ((same_upd n1).trans (same_upd n2)).trans (same_upd nr)
      have ho : BdV (upd (upd (upd H5 u1 (.tup [.str "give", .ref t])) u2 (.tup [.ref v', .ref u1])) r (.tup [.str "while", .ref t, .ref u2])) (.oth .nil) [.ref u1] := ⟨u1, "give", [.ref t], [], rfl, .inr (.inr (.inl rfl)), keepN (keepN upd_same n2) nr, rfl⟩
      exact fin r (.loop (b'.app (.oth .nil)) .nil) _ s6 ⟨r, .ref t, u2, [.ref v', .ref u1], [], rfl, upd_same, keepN upd_same nr, ho.app (hb5.mono (Same.tm s6)), rfl⟩ (by show (b'.app (.oth .nil)).calls ++ [] = _; rw [calls_app, List.append_nil]; exact List.append_nil _) (by show (b'.app (.oth .nil)).size + 0 + 1 ≤ _; rw [size_app]; show b'.size + (0 + 1) + 0 + 1 ≤ _; omega) _ _ _
  · intro σ H2 hq'
    refine opq fun Gq kq => ?_
    obtain ⟨o2, o3, o4, v', b', rfl, hb2, hc2, hz2, B2, k2⟩ := hq'
    refine kq ?_
    clear kq
    exact ⟨_, rfl, q v' b' H2 hb2 hc2 (by omega) B2 k2⟩
end

theorem inV_str {x : Str} {ys : List Str} : inV (.str x) (ys.map V.str) = decide (x ∈ ys) := by
  by_cases h : x ∈ ys
  · rw [decide_eq_true h]
    unfold inV
    rw [List.any_eq_true]
    exact ⟨.str x, List.mem_map.mpr ⟨x, h, rfl⟩, by simp [eqV]⟩
  · rw [decide_eq_false h]
    unfold inV
    rw [Bool.eq_false_iff]
    intro z
    rw [List.any_eq_true] at z
    obtain ⟨v, hv, e⟩ := z
    obtain ⟨y, hy, rfl⟩ := List.mem_map.mp hv
    have e' : x = y ∨ y = x := by
      first
        | exact .inl (by simpa [eqV] using e)
        | exact .inr (by simpa [eqV] using e)
    rcases e' with rfl | rfl
    · exact h hy
    · exact h hy
theorem op_notInK {X : Cx} {K : PySem.W.Frag} (hK : X.K = K) : OpR X (compareOp .NotIn) (rIn K true) := by
  subst hK
  exact op_notIn_seq
theorem compR_strF {x : Str} {te : TE} {tt : TT} {Qf : List V → Hp → Prop} {σt : L2.St} {H : Hp} (f : Nat → V) (b : Nat → Bool) (hz : x.length ≤ sizeLine)
    (ht : ∀ (c : Nat) (Q : Bool → Hp → Prop), Q (b c) H → tt (some (.str ⟨#[c]⟩) :: σt) H Q)
    (hs : ∀ (c : Nat) (Q : VK), Q (f c) H → te (some (.str ⟨#[c]⟩) :: σt) H Q) (hd : Qf ((x.cps.toList.filter b).map f) H) :
    CompR (Its x) 1 σt (gName 0) tt te Qf H := by
  have hl : x.cps.toList.length = x.cps.size := Array.length_toList
  have hz' : x.cps.size ≤ sizeLine := hz
  refine ⟨fun i m ys H' => m = x.cps.size - i ∧ i ≤ x.cps.size ∧ ys = ((x.cps.toList.take i).filter b).map f ∧ H' = H, ⟨x.cps.size, by simp, Nat.zero_le _, by simp, rfl⟩, ?_⟩
  intro i m ys H' hq'
  refine opq fun Gq kq => ?_
  obtain ⟨rfl, hi, rfl, rfl⟩ := hq'
  refine kq ?_
  clear kq
  by_cases hlt : i < x.cps.size
  · refine .inr ⟨hlt, ?_, fun ys' H2 => ys' = ((x.cps.toList.take (i + 1)).filter b).map f ∧ H2 = H', fun ys' H2 ⟨p1, p2⟩ => ⟨x.cps.size - (i + 1), by omega, rfl, hlt, p1, p2⟩, fun v H2 ts hts y => ?_⟩
    · rw [List.length_map]
      have := List.length_filter_le b (x.cps.toList.take i)
      rw [List.length_take] at this
      omega
    refine opq fun Gq kq => ?_
    obtain ⟨e, c, hc, y⟩ := y
    refine kq ?_
    clear kq
    subst e y
    obtain ⟨v, rfl⟩ := len1 hts
    have hc' : x.cps.toList[i]? = some c := by simpa using hc
    have e1 : x.cps.toList.take (i + 1) = x.cps.toList.take i ++ [c] := by rw [List.take_add_one, hc']; rfl
    refine ⟨⟨[some _], rfl, rfl⟩, ht c _ ?_⟩
    cases hb : b c with
    | true =>
      refine iteT (hs c _ ⟨?_, rfl⟩)
      rw [e1, List.filter_append, List.map_append]
      simp [hb]
    | false =>
      refine iteF ⟨?_, rfl⟩
      rw [e1, List.filter_append, List.map_append]
      simp [hb]
  · have e : i = x.cps.size := by omega
    subst e
    refine .inl ⟨rfl, ?_⟩
    rw [List.take_of_length_le (by omega)]
    exact hd
theorem nodup_sub : ∀ {L ys : List Str}, L.Nodup → (∀ x ∈ L, x ∈ ys) → L.length ≤ ys.length
  | [], _, _, _ => Nat.zero_le _
  | x :: L, ys, hn, hs => by
    have hx : x ∈ ys := hs x (List.mem_cons_self ..)
    have hn' := List.nodup_cons.mp hn
    have ih := nodup_sub (L := L) (ys := ys.erase x) hn'.2 fun y hy => (List.mem_erase_of_ne (fun e => hn'.1 (by rw [← e]; exact hy))).mpr (hs y (List.mem_cons_of_mem _ hy))
    have hl := List.length_erase_of_mem hx
    have hp : 1 ≤ ys.length := List.length_pos_of_mem hx
    rw [List.length_cons]
    omega
theorem mulOk_of {z : Str} {n : Int} (hz : z.length = 1) (h1 : 1 < n) (h2 : n < 1000) : MulOk z n := by
  refine ⟨?_, fun _ _ => ?_, fun _ _ => ?_⟩
  · rw [decide_eq_false (by omega), decide_eq_false (by omega)]; rfl
  · rw [hz]
    have : (1 : Int) ≤ (2 ^ 63 - 1) / n := by
      rw [Int.le_ediv_iff_mul_le (by omega)]
      omega
    omega
  · rw [hz, Nat.one_mul]
    unfold Builtin.Str.tooLong
    have big := line_big
    exact decide_eq_false (by omega)
theorem But.none {p r : Addr} {H H' : Hp} (k : But p H H') (B : BoxAt H' p) (n : H' r = none) : H r = none := by
  cases z : H r with
  | none => rfl
  | some o => have := k _ _ (B.ne n) z; rw [n] at this; cases this
theorem let_at {d : Int} (h0 : 0 ≤ d) (h1 : d < 26) : ∃ c, atI letters.cps.toList d = some c := by
  have l26 : letters.cps.toList.length = 26 := by decide +kernel
  have ek : d = ((d.toNat : Nat) : Int) := by omega
  have hk : d.toNat < letters.cps.toList.length := by omega
  have := atI_nat (List.getElem?_eq_getElem hk)
  rw [← ek] at this
  exact ⟨_, this⟩
noncomputable def mul8 (c : Nat) : Str := Txt.mul ⟨#[c]⟩ 8
theorem eights : (letters.cps.toList.map mul8).Nodup := by decide +kernel
theorem eight_free {ys : List Str} (h : ys.length ≤ 8) : ∃ c cs, letters.cps.toList.filter (fun c => !inV (.str (mul8 c)) (ys.map V.str)) = c :: cs ∧ mul8 c ∉ ys := by
  cases e : letters.cps.toList.filter (fun c => !inV (.str (mul8 c)) (ys.map V.str)) with
  | nil =>
    have al : ∀ x ∈ letters.cps.toList.map mul8, x ∈ ys := fun x hx => by
      obtain ⟨c, hc, rfl⟩ := List.mem_map.mp hx
      have := List.filter_eq_nil_iff.mp e c hc
      refine Classical.byContradiction fun hn => this ?_
      rw [inV_str, decide_eq_false hn]
      rfl
    have := nodup_sub eights al
    have l26 : (letters.cps.toList.map mul8).length = 26 := by decide +kernel
    omega
  | cons c cs =>
    refine ⟨c, cs, rfl, ?_⟩
    have hc : c ∈ letters.cps.toList.filter (fun c => !inV (.str (mul8 c)) (ys.map V.str)) := by rw [e]; exact List.mem_cons_self ..
    have := (List.mem_filter.mp hc).2
    rw [inV_str] at this
    intro hm
    rw [decide_eq_true hm] at this
    cases this
theorem cut1 {v : V} {ys : List V} : cutV (v :: ys) (some 1) none = ys := by
  unfold cutV
  have e : (1 : Int) = ((1 : Nat) : Int) := rfl
  rw [e, HT.sIx_nat, HT.sIx_none, List.length_cons]
  have e2 : min 1 (ys.length + 1) = 1 := by omega
  rw [e2]
  simp
noncomputable def Fault (ys : List Str) (c c' : Str × Nat) (w nm : Str) : Prop := (w = "count" ∧ nm = c.1 ∧ c'.1 = c.1 ∧ c'.2 ≠ c.2) ∨ (w = "name" ∧ nm = c'.1 ∧ c'.1 ∉ ys)
noncomputable def spWrong : Sp := fun vs H Q _ => ∃ (p g : Addr) (v : V) (c : Str × Nat) (ys : List Str), vs = [.ref p, v, .ref g] ∧ BoxAt H p ∧ CallV H c v ∧ H g = some (.lst (ys.map V.str)) ∧ ys.length ≤ 8 ∧ 1 ≤ c.1.length ∧ c.1.length ≤ 20 ∧ c.2 ≤ 10 ∧
  ∀ (r q t : Addr) (c' : Str × Nat) (w nm : Str) (H' : Hp), H r = none → H' r = some (.lst [.ref q, .ref t]) → CallV H' c' (.ref q) → H' t = some (.tup [.str w, .str nm]) → Fault ys c c' w nm → BoxAt H' p → But p H H' → Q (.ref r) H'
section
variable {P : Program} {w : World} {K : PySem.W.Frag} {mg : Str → Option Value} {base : Heap}
theorem scWrong : FnScope ["_law_box_here", "_law_call", "_law_names_here", "_law_f", "_law_pick", "_law_spot", "_law_other", "_law_letters"] ["_law_box_here", "_law_call", "_law_names_here"] (defScope sWrong) := ⟨rfl, rfl, rfl, by decide +kernel, rfl, by decide +kernel, by decide +kernel⟩
noncomputable def scope_w1 : Scope := { kind := .function, names := [(".0", .local), ("_law_letter", .local), ("_law_names_here", .free)], isGenerator := false, isCoroutine := false }
theorem nd_w1 : (["_law_letter", "_law_names_here"] : List Str).Nodup := by decide +kernel
theorem cs_w1 : CompSc ["_law_box_here", "_law_call", "_law_names_here", "_law_f", "_law_pick", "_law_spot", "_law_other", "_law_letters"] (defScope sWrong) scope_w1 ["_law_letter", "_law_names_here"] 1 [2] := ⟨by decide +kernel, rfl, by decide +kernel, by decide +kernel, by decide +kernel, rfl, by decide +kernel⟩
theorem ok_wrong {f  : Addr} {fd  : FuncData} (F : Fun K "_law_wrong" "_law_wrong" sWrong f fd) (GT : FnOk P w K mg base CX0 1 fT fdT ["_law_box_here", "_law_wide"] spTake) (bT : Binds K fdT ["_law_box_here", "_law_wide"] []) (kT : PySem.W.keepIn K (.ref fT) = true) (mT : mg "_law_take" = some (.ref fT)) (ml : mg "len" = none) : FnOk P w K mg base CX0 2 f fd ["_law_box_here", "_law_call", "_law_names_here"] spWrong := by
  refine F.ok scWrong (fun vs H Q E h => ?_) (fun cdv A outer s H vs Q E hr h => ?_)
  · refine opq fun Gq kq => ?_
    obtain ⟨p, g, v, c, ys, rfl, _⟩ := h
    refine kq ?_
    clear kq
    rfl
  refine opq fun Gq kq => ?_
  obtain ⟨p, g, v, cc, ys, rfl, B, hv, hg, hyl, hf1, hf2, hn, q⟩ := h
  refine kq ?_
  clear kq
  refine ⟨_, (@pss_cons _ _ _ _ _ (@ps_set _ _ (3) _ _ _ _ scWrong.nd rfl (Or.inl rfl) (@pe_ix _ _ _ _ _ _ _ ix_tup (@pv _ 1 _ _ (by rfl) (by first | exact Or.inl rfl | exact Or.inr (Or.inl rfl) | exact Or.inr (Or.inr rfl)) (by decide) (by decide)) (@pe_int _ _ _ _) (fun _ _ => rfl)) (by rfl) (by first | exact .inl rfl | exact .inr rfl)) (@pss_cons _ _ _ _ _ (@ps_set _ _ (4) _ _ _ _ scWrong.nd rfl (Or.inl rfl) (@pe_call _ _ _ _ _ _ _ _ _ _ _ _ _ _ _ _ GT hr rfl mT kT bT .nil pass0 (@pa_cons _ _ _ _ _ (@pv _ 0 _ _ (by rfl) (by first | exact Or.inl rfl | exact Or.inr (Or.inl rfl) | exact Or.inr (Or.inr rfl)) (by decide) (by decide)) (@pa_cons _ _ _ _ _ (@pe_int _ _ _ _) (@pa_nil _) (by rfl)) (by rfl)) (by decide) (by rfl) (by rfl)) (by rfl) (by first | exact .inl rfl | exact .inr rfl)) (@pss_cons _ _ _ _ _ (@ps_mid _ _ _ (@ps_if _ _ _ _ _ _ _ _ (@PW.pt _ _ _ (@pw_and _ _ _ _ _ _ _ (@pt_cmpR _ _ _ _ _ _ _ _ op_eq (@pv _ 4 _ _ (by rfl) (by first | exact Or.inl rfl | exact Or.inr (Or.inl rfl) | exact Or.inr (Or.inr rfl)) (by decide) (by decide)) (@pe_int _ _ _ _) (@nomark _ _ (by decide) (by decide))) (@pw_and1 _ _ _ _ (@pt_cmpR _ _ _ _ _ _ _ _ op_gt (@pe_callB _ _ _ _ _ _ _ _ _ call_len_seq rfl ml PySem.boot_len (@pa_cons _ _ _ _ _ (@pe_ix _ _ _ _ _ _ _ ix_tup (@pv _ 1 _ _ (by rfl) (by first | exact Or.inl rfl | exact Or.inr (Or.inl rfl) | exact Or.inr (Or.inr rfl)) (by decide) (by decide)) (@pe_int _ _ _ _) (fun _ _ => rfl)) (@pa_nil _) (by rfl)) (by decide) (by decide) (by rfl) (by rfl)) (@pe_int _ _ _ _) (@nomark _ _ (by decide) (by decide)))))) (@pss_one _ _ _ (@ps_ret _ _ _ _ (@pe_lst _ _ _ _ (@pa_cons _ _ _ _ _ (@pe_tup _ _ _ _ _ (@pa_cons _ _ _ _ _ (@pe_str _ _ _ _) (@pa_cons _ _ _ _ _ (@pe_ix _ _ _ _ _ _ _ ix_tup (@pv _ 1 _ _ (by rfl) (by first | exact Or.inl rfl | exact Or.inr (Or.inl rfl) | exact Or.inr (Or.inr rfl)) (by decide) (by decide)) (@pe_int _ _ _ _) (fun _ _ => rfl)) (@pa_cons _ _ _ _ _ (@pv _ 3 _ _ (by rfl) (by first | exact Or.inl rfl | exact Or.inr (Or.inl rfl) | exact Or.inr (Or.inr rfl)) (by decide) (by decide)) (@pa_cons _ _ _ _ _ (@pe_slice _ _ _ _ _ _ _ _ _ _ sl_tupA (@pe_ix _ _ _ _ _ _ _ ix_tup (@pv _ 1 _ _ (by rfl) (by first | exact Or.inl rfl | exact Or.inr (Or.inl rfl) | exact Or.inr (Or.inr rfl)) (by decide) (by decide)) (@pe_int _ _ _ _) (fun _ _ => rfl)) (@po_some _ _ _ (@pe_int _ _ _ _)) (@po_none _)) (@pa_nil _) (by rfl)) (by rfl)) (by rfl)) (by rfl))) (@pa_cons _ _ _ _ _ (@pe_tup _ _ _ _ _ (@pa_cons _ _ _ _ _ (@pe_str _ _ _ _) (@pa_cons _ _ _ _ _ (@pv _ 3 _ _ (by rfl) (by first | exact Or.inl rfl | exact Or.inr (Or.inl rfl) | exact Or.inr (Or.inr rfl)) (by decide) (by decide)) (@pa_nil _) (by rfl)) (by rfl))) (@pa_nil _) (by rfl)) (by rfl))))) (@pss_nil _))) (@pss_cons _ _ _ _ _ (@ps_if _ _ _ _ _ _ _ _ (@pt_cmpR _ _ _ _ _ _ _ _ op_lt (@pv _ 4 _ _ (by rfl) (by first | exact Or.inl rfl | exact Or.inr (Or.inl rfl) | exact Or.inr (Or.inr rfl)) (by decide) (by decide)) (@pe_int _ _ _ _) (@nomark _ _ (by decide) (by decide))) (@pss_one _ _ _ (@ps_ret _ _ _ _ (@pe_lst _ _ _ _ (@pa_cons _ _ _ _ _ (@pe_tup _ _ _ _ _ (@pa_cons _ _ _ _ _ (@pe_str _ _ _ _) (@pa_cons _ _ _ _ _ (@pe_ix _ _ _ _ _ _ _ ix_tup (@pv _ 1 _ _ (by rfl) (by first | exact Or.inl rfl | exact Or.inr (Or.inl rfl) | exact Or.inr (Or.inr rfl)) (by decide) (by decide)) (@pe_int _ _ _ _) (fun _ _ => rfl)) (@pa_cons _ _ _ _ _ (@pv _ 3 _ _ (by rfl) (by first | exact Or.inl rfl | exact Or.inr (Or.inl rfl) | exact Or.inr (Or.inr rfl)) (by decide) (by decide)) (@pa_cons _ _ _ _ _ (@pe_op _ _ _ _ _ _ _ _ op_catH (@pe_ix _ _ _ _ _ _ _ ix_tup (@pv _ 1 _ _ (by rfl) (by first | exact Or.inl rfl | exact Or.inr (Or.inl rfl) | exact Or.inr (Or.inr rfl)) (by decide) (by decide)) (@pe_int _ _ _ _) (fun _ _ => rfl)) (@pe_tup _ _ _ _ _ (@pa_cons _ _ _ _ _ (@pe_tup _ _ _ _ _ (@pa_cons _ _ _ _ _ (@pe_str _ _ _ _) (@pa_cons _ _ _ _ _ (@pe_str _ _ _ _) (@pa_nil _) (by rfl)) (by rfl))) (@pa_nil _) (by rfl)))) (@pa_nil _) (by rfl)) (by rfl)) (by rfl)) (by rfl))) (@pa_cons _ _ _ _ _ (@pe_tup _ _ _ _ _ (@pa_cons _ _ _ _ _ (@pe_str _ _ _ _) (@pa_cons _ _ _ _ _ (@pv _ 3 _ _ (by rfl) (by first | exact Or.inl rfl | exact Or.inr (Or.inl rfl) | exact Or.inr (Or.inr rfl)) (by decide) (by decide)) (@pa_nil _) (by rfl)) (by rfl))) (@pa_nil _) (by rfl)) (by rfl))))) (@pss_nil _)) (@pss_cons _ _ _ _ _ (@ps_set _ _ (5) _ _ _ _ scWrong.nd rfl (Or.inl rfl) (@pe_call _ _ _ _ _ _ _ _ _ _ _ _ _ _ _ _ GT hr rfl mT kT bT .nil pass0 (@pa_cons _ _ _ _ _ (@pv _ 0 _ _ (by rfl) (by first | exact Or.inl rfl | exact Or.inr (Or.inl rfl) | exact Or.inr (Or.inr rfl)) (by decide) (by decide)) (@pa_cons _ _ _ _ _ (@pe_callB _ _ _ _ _ _ _ _ _ call_len_str rfl ml PySem.boot_len (@pa_cons _ _ _ _ _ (@pv _ 3 _ _ (by rfl) (by first | exact Or.inl rfl | exact Or.inr (Or.inl rfl) | exact Or.inr (Or.inr rfl)) (by decide) (by decide)) (@pa_nil _) (by rfl)) (by decide) (by decide) (by rfl) (by rfl)) (@pa_nil _) (by rfl)) (by rfl)) (by decide) (by rfl) (by rfl)) (by rfl) (by first | exact .inl rfl | exact .inr rfl)) (@pss_cons _ _ _ _ _ (@ps_set _ _ (6) _ _ _ _ scWrong.nd rfl (Or.inl rfl) (@pe_op _ _ _ _ _ _ _ _ op_add_str (@pe_op _ _ _ _ _ _ _ _ op_add_str (@pe_slice _ _ _ _ _ _ _ _ _ _ sl_str (@pv _ 3 _ _ (by rfl) (by first | exact Or.inl rfl | exact Or.inr (Or.inl rfl) | exact Or.inr (Or.inr rfl)) (by decide) (by decide)) (@po_none _) (@po_some _ _ _ (@pv _ 5 _ _ (by rfl) (by first | exact Or.inl rfl | exact Or.inr (Or.inl rfl) | exact Or.inr (Or.inr rfl)) (by decide) (by decide)))) (@pe_ix _ _ _ _ _ _ _ ix_str (@pe_str _ _ _ _) (@pe_call _ _ _ _ _ _ _ _ _ _ _ _ _ _ _ _ GT hr rfl mT kT bT .nil pass0 (@pa_cons _ _ _ _ _ (@pv _ 0 _ _ (by rfl) (by first | exact Or.inl rfl | exact Or.inr (Or.inl rfl) | exact Or.inr (Or.inr rfl)) (by decide) (by decide)) (@pa_cons _ _ _ _ _ (@pe_int _ _ _ _) (@pa_nil _) (by rfl)) (by rfl)) (by decide) (by rfl) (by rfl)) (fun _ _ => rfl))) (@pe_slice _ _ _ _ _ _ _ _ _ _ sl_str (@pv _ 3 _ _ (by rfl) (by first | exact Or.inl rfl | exact Or.inr (Or.inl rfl) | exact Or.inr (Or.inr rfl)) (by decide) (by decide)) (@po_some _ _ _ (@pe_op _ _ _ _ _ _ _ _ op_add (@pv _ 5 _ _ (by rfl) (by first | exact Or.inl rfl | exact Or.inr (Or.inl rfl) | exact Or.inr (Or.inr rfl)) (by decide) (by decide)) (@pe_int _ _ _ _))) (@po_none _))) (by rfl) (by first | exact .inl rfl | exact .inr rfl)) (@pss_cons _ _ _ _ _ (@ps_mid _ _ _ (@ps_if _ _ _ _ _ _ _ _ (@PW.pt _ _ _ (@pw_and _ _ _ _ _ _ _ (@pt_cmpR _ _ _ _ _ _ _ _ op_eq (@pv _ 4 _ _ (by rfl) (by first | exact Or.inl rfl | exact Or.inr (Or.inl rfl) | exact Or.inr (Or.inr rfl)) (by decide) (by decide)) (@pe_int _ _ _ _) (@nomark _ _ (by decide) (by decide))) (@pw_and1 _ _ _ _ (@pt_cmpR _ _ _ _ _ _ _ _ op_lt (@pe_callB _ _ _ _ _ _ _ _ _ call_len_str rfl ml PySem.boot_len (@pa_cons _ _ _ _ _ (@pv _ 3 _ _ (by rfl) (by first | exact Or.inl rfl | exact Or.inr (Or.inl rfl) | exact Or.inr (Or.inr rfl)) (by decide) (by decide)) (@pa_nil _) (by rfl)) (by decide) (by decide) (by rfl) (by rfl)) (@pe_int _ _ _ _) (@nomark _ _ (by decide) (by decide)))))) (@pss_one _ _ _ (@ps_set _ _ (6) _ _ _ _ scWrong.nd rfl (Or.inl rfl) (@pe_op _ _ _ _ _ _ _ _ op_add_str (@pv _ 3 _ _ (by rfl) (by first | exact Or.inl rfl | exact Or.inr (Or.inl rfl) | exact Or.inr (Or.inr rfl)) (by decide) (by decide)) (@pe_str _ _ _ _)) (by rfl) (by first | exact .inl rfl | exact .inr rfl))) (@pss_nil _))) (@pss_cons _ _ _ _ _ (@ps_mid _ _ _ (@ps_if _ _ _ _ _ _ _ _ (@PW.pt _ _ _ (@pw_or _ _ _ _ _ _ _ (@pt_cmpR _ _ _ _ _ _ _ _ op_in_seq (@pv _ 6 _ _ (by rfl) (by first | exact Or.inl rfl | exact Or.inr (Or.inl rfl) | exact Or.inr (Or.inr rfl)) (by decide) (by decide)) (@pv _ 2 _ _ (by rfl) (by first | exact Or.inl rfl | exact Or.inr (Or.inl rfl) | exact Or.inr (Or.inr rfl)) (by decide) (by decide)) rfl) (@pw_or1 _ _ _ _ (@pt_cmpR _ _ _ _ _ _ _ _ op_in_seq (@pv _ 6 _ _ (by rfl) (by first | exact Or.inl rfl | exact Or.inr (Or.inl rfl) | exact Or.inr (Or.inr rfl)) (by decide) (by decide)) (@pe_tup _ _ _ _ _ (@pa_strs _ _ ["def", "set", "read", "write", "call", "if", "else", "while", "give", "end"] (by decide +kernel))) rfl)))) (@pss_cons _ _ _ _ _ (@ps_set _ _ (7) _ _ _ _ scWrong.nd rfl (Or.inl rfl) (@pe_str _ _ _ _) (by rfl) (by first | exact .inl rfl | exact .inr rfl)) (@pss_one _ _ _ (@ps_set _ _ (6) _ _ _ _ scWrong.nd rfl (Or.inl rfl) (@pe_ix _ _ _ _ _ _ _ ix_list (@pe_comp _ _ _ _ _ _ _ (["_law_letter", "_law_names_here"]) (1) ([2]) _ _ _ _ rfl (@pi_str _ _ _ _ (@pv _ 7 _ _ (by rfl) (by first | exact Or.inl rfl | exact Or.inr (Or.inl rfl) | exact Or.inr (Or.inr rfl)) (by decide) (by decide))) cs_w1 (fun _ _ _ _ _ => (@pg_name _ _ (0) _ nd_w1 rfl (Or.inl rfl) (by first | exact .inl rfl | exact .inr rfl))) (fun _ _ _ _ _ => (@pf_one _ _ _ (@pt_cmpR _ _ _ _ _ _ _ _ (op_notInK (K := K) rfl) (@pe_op _ _ _ _ _ _ _ _ op_mulS (@pv _ 0 _ _ (by rfl) (by first | exact Or.inl rfl | exact Or.inr (Or.inl rfl) | exact Or.inr (Or.inr rfl)) (by decide) (by decide)) (@pe_int _ _ _ _)) (@pv _ 1 _ _ (by rfl) (by first | exact Or.inl rfl | exact Or.inr (Or.inl rfl) | exact Or.inr (Or.inr rfl)) (by decide) (by decide)) rfl))) (fun _ _ _ _ _ => (@pe_op _ _ _ _ _ _ _ _ op_mulS (@pv _ 0 _ _ (by rfl) (by first | exact Or.inl rfl | exact Or.inr (Or.inl rfl) | exact Or.inr (Or.inr rfl)) (by decide) (by decide)) (@pe_int _ _ _ _))) (by intro _; rfl)) (@pe_int _ _ _ _) (fun _ _ => rfl)) (by rfl) (by first | exact .inl rfl | exact .inr rfl)))) (@pss_nil _))) (@pss_one _ _ _ (@ps_ret _ _ _ _ (@pe_lst _ _ _ _ (@pa_cons _ _ _ _ _ (@pe_tup _ _ _ _ _ (@pa_cons _ _ _ _ _ (@pe_str _ _ _ _) (@pa_cons _ _ _ _ _ (@pe_ix _ _ _ _ _ _ _ ix_tup (@pv _ 1 _ _ (by rfl) (by first | exact Or.inl rfl | exact Or.inr (Or.inl rfl) | exact Or.inr (Or.inr rfl)) (by decide) (by decide)) (@pe_int _ _ _ _) (fun _ _ => rfl)) (@pa_cons _ _ _ _ _ (@pv _ 6 _ _ (by rfl) (by first | exact Or.inl rfl | exact Or.inr (Or.inl rfl) | exact Or.inr (Or.inr rfl)) (by decide) (by decide)) (@pa_cons _ _ _ _ _ (@pe_ix _ _ _ _ _ _ _ ix_tup (@pv _ 1 _ _ (by rfl) (by first | exact Or.inl rfl | exact Or.inr (Or.inl rfl) | exact Or.inr (Or.inr rfl)) (by decide) (by decide)) (@pe_int _ _ _ _) (fun _ _ => rfl)) (@pa_nil _) (by rfl)) (by rfl)) (by rfl)) (by rfl))) (@pa_cons _ _ _ _ _ (@pe_tup _ _ _ _ _ (@pa_cons _ _ _ _ _ (@pe_str _ _ _ _) (@pa_cons _ _ _ _ _ (@pv _ 6 _ _ (by rfl) (by first | exact Or.inl rfl | exact Or.inr (Or.inl rfl) | exact Or.inr (Or.inr rfl)) (by decide) (by decide)) (@pa_nil _) (by rfl)) (by rfl))) (@pa_nil _) (by rfl)) (by rfl))))))))))))), ?_⟩
  try dsimp only [cxOf, Cx.nox, Cx.wish]
  have big := line24
  refine opq fun Gq kq => ?_
  obtain ⟨c0, x, t, ts, rfl, h1, h2, h3⟩ := hv
  refine kq ?_
  clear kq
  have gp : g ≠ p := by
    refine opq fun Gq kq => ?_
    obtain ⟨a, b, _, _, _, hp⟩ := B.ob
    refine kq ?_
    clear kq
    refine ne_of hg hp fun z => ?_
    injection z with z
    match ys, z with
    | [], z => cases z
    | y :: r, z => injection z with z1 _; cases z1
  refine ⟨_, rfl, c0, _, _, _, rfl, rfl, SqT.of h1, rfl, ?_⟩
  refine ⟨_, rfl, p, 5, rfl, B, by decide, by decide, fun d1 H1 d10 d11 B1 e1 => ?_⟩
  have k1 : But p H H1 := But.of_eq e1
  have g1 := k1.tm B _ _ h1
  have g2 := k1.tm B _ _ h2
  have fin : ∀ (H3 : Hp) (f' : Str) (tt : Addr) (ts' : List V) (w nm : Str), BoxAt H3 p → But p H H3 → H3 tt = some (.tup ts') → Fault ys cc (f', ts'.length) w nm → ∀ q1, H3 q1 = none → ∀ q2, upd H3 q1 (.tup [.str "call", x, .str f', .ref tt]) q2 = none → ∀ r, upd (upd H3 q1 (.tup [.str "call", x, .str f', .ref tt])) q2 (.tup [.str w, .str nm]) r = none → Q (.ref r) (upd (upd (upd H3 q1 (.tup [.str "call", x, .str f', .ref tt])) q2 (.tup [.str w, .str nm])) r (.lst [.ref q1, .ref q2])) :=
    fun H3 f' tt ts' w nm B3 k3 h3 hF q1 n1 q2 n2 r nr => by
      have s4 : Same H3 (upd (upd H3 q1 (.tup [.str "call", x, .str f', .ref tt])) q2 (.tup [.str w, .str nm])) := (same_upd n1).trans (same_upd n2)
      have s5 := s4.trans (same_upd (o := .lst [.ref q1, .ref q2]) nr)
      exact q r q1 q2 (f', ts'.length) w nm _ ((k3.trans (But.of_same s4)).none (B3.same s4) nr) upd_same ⟨q1, x, tt, ts', rfl, keepN (keepN upd_same n2) nr, s5 _ _ h3, rfl⟩ (keepN upd_same nr) hF (B3.same s5) (k3.trans (But.of_same s5))
  refine ⟨fun σ' H' => σ' = [some (.ref p), some (.ref c0), some (.ref g), some (.str cc.1), some (.int d1), none, none, none] ∧ H' = H1, ?_, ?_⟩
  · refine ⟨_, rfl, rfl, _, rfl, ?_⟩
    refine ite2 (fun c => ?_) (fun c => iteF ⟨rfl, rfl⟩)
    refine ⟨_, rfl, c0, _, _, _, rfl, rfl, SqT.of g1, rfl, t, ts, rfl, .inr (SqT.of g2), _, _, rfl, rfl, _, rfl, ?_⟩
    refine ite2 (fun c2 => ?_) (fun c2 => ⟨rfl, rfl⟩)
    have hpos : 0 < (ts.length : Int) := of_decide_eq_true c2
    refine ⟨_, rfl, c0, _, _, _, rfl, rfl, SqT.of g1, rfl, _, rfl, _, rfl, c0, _, _, _, rfl, rfl, SqT.of g1, rfl, _, rfl, t, ts, rfl, g2, fun r2 H2 hr2 s2 => ⟨(by show 4 ≤ sizeLine; decide), fun q1 n1 => ⟨_, rfl, (by show 2 ≤ sizeLine; decide), fun q2 n2 => ⟨(by show 2 ≤ sizeLine; decide), fun r nr => ?_⟩⟩⟩⟩
    refine fin H2 cc.1 r2 _ "count" cc.1 (B1.same s2) (k1.trans (But.of_same s2)) hr2 (.inl ⟨rfl, rfl, rfl, ?_⟩) q1 n1 q2 n2 r nr
    cases hts : ts with
    | nil => rw [hts] at hpos; exact absurd hpos (by decide)
    | cons z zs =>
      have e1 : cutV (z :: zs) (some 1) none = zs := cut1
      show (cutV (z :: zs) (some 1) none).length ≠ cc.2
      rw [e1, ← h3, hts, List.length_cons]
      omega
  rintro _ H1' ⟨rfl, e⟩
  rw [e]
  refine ⟨_, rfl, _, _, rfl, rfl, _, rfl, ?_⟩
  refine ite2 (fun c => ?_) (fun c => ?_)
  · refine ⟨_, rfl, c0, _, _, _, rfl, rfl, SqT.of g1, rfl, _, rfl, _, rfl, c0, _, _, _, rfl, rfl, SqT.of g1, rfl, (by show 2 ≤ sizeLine; decide), fun u1 nu1 => ⟨(by show 1 ≤ sizeLine; decide), fun u2 nu2 => ?_⟩⟩
    have s3 : Same H1 (upd (upd H1 u1 (.tup [.str "var", .str "y"])) u2 (.tup [.ref u1])) := (same_upd nu1).trans (same_upd nu2)
    refine ⟨t, u2, ts, _, rfl, rfl, s3 _ _ g2, upd_same, by show ts.length + 1 ≤ _; omega, fun r2 H2 hr2 s2 => ⟨(by show 4 ≤ sizeLine; decide), fun q1 n1 => ⟨_, rfl, (by show 2 ≤ sizeLine; decide), fun q2 n2 => ⟨(by show 2 ≤ sizeLine; decide), fun r nr => ?_⟩⟩⟩⟩
    refine fin H2 cc.1 r2 _ "count" cc.1 (B1.same (s3.trans s2)) (k1.trans (But.of_same (s3.trans s2))) hr2 (.inl ⟨rfl, rfl, rfl, ?_⟩) q1 n1 q2 n2 r nr
    show (ts ++ [V.ref u1]).length ≠ cc.2
    rw [List.length_append, ← h3]
    show ts.length + 1 ≠ ts.length
    omega
  -- by another name
  refine ⟨_, rfl, _, rfl, _, rfl, by omega, p, _, rfl, B1, by omega, by omega, fun d5 H2 d50 d51 B2 e2 => ?_⟩
  have k2 := k1.trans (But.of_eq e2)
  refine ⟨_, rfl, _, rfl, _, rfl, _, rfl, by omega, fun z1 hz1 => ?_⟩
  refine ⟨_, rfl, p, 26, rfl, B2, by decide, by decide, fun d6 H3 d60 d61 B3 e3 => ?_⟩
  have k3 := k2.trans (But.of_eq e3)
  obtain ⟨ch, hch⟩ := let_at d60 d61
  refine ⟨_, _, ch, rfl, rfl, (by show letters.length ≤ sizeLine; rw [letters_len]; omega), hch, ?_⟩
  have one : (⟨#[ch]⟩ : Str).length = 1 := rfl
  refine ⟨_, _, rfl, rfl, by omega, ?_⟩
  refine ⟨_, rfl, _, rfl, _, _, rfl, rfl, _, rfl, _, rfl, by omega, fun z2 hz2 => ?_⟩
  have l12 : (z1 ++ (⟨#[ch]⟩ : Str)).length = z1.length + 1 := slen _ _
  refine ⟨_, _, rfl, rfl, by omega, ?_⟩
  have l13 : (z1 ++ (⟨#[ch]⟩ : Str) ++ z2).length = z1.length + 1 + z2.length := by rw [slen, l12]
  generalize z1 ++ (⟨#[ch]⟩ : Str) ++ z2 = oth at l13
  refine ⟨fun σ' H' => H' = H3 ∧ ∃ o6 : Str, σ' = [some (.ref p), some (.ref c0), some (.ref g), some (.str cc.1), some (.int d1), some (.int d5), some (.str o6), none], ?_, ?_⟩
  · refine ⟨_, rfl, rfl, _, rfl, ?_⟩
    refine ite2 (fun c => ?_) (fun c => iteF ⟨rfl, _, rfl⟩)
    refine ⟨_, rfl, _, rfl, by omega, _, _, rfl, rfl, _, rfl, ?_⟩
    refine ite2 (fun c2 => ?_) (fun c2 => ⟨rfl, _, rfl⟩)
    have la : ("a" : Str).length = 1 := by decide +kernel
    exact ⟨_, rfl, _, _, rfl, rfl, by omega, rfl, _, rfl⟩
  intro _ H3' hq'
  refine opq fun Gq kq => ?_
  obtain ⟨e, o6, rfl⟩ := hq'
  refine kq ?_
  clear kq
  rw [e]
  have hg3 := k3 _ _ gp hg
  have g13 := k3.tm B _ _ h1
  have g23 := k3.tm B _ _ h2
  refine ⟨fun σ' H' => ∃ (o6 : Str) (o7 : Option V), σ' = [some (.ref p), some (.ref c0), some (.ref g), some (.str cc.1), some (.int d1), some (.int d5), some (.str o6), o7] ∧ o6 ∉ ys ∧ Same H3 H', ?_, ?_⟩
  · refine ⟨_, rfl, _, rfl, g, _, rfl, .inl (SqL.of hg3), rfl, flat_strs _, _, rfl, ?_⟩
    refine opq fun Gq kq => ?_
    obtain ⟨cz, czs, hfl, hfree⟩ := eight_free hyl
    refine kq ?_
    clear kq
    refine ite2 (fun c => iteT ?_) (fun c => ?_)
    · refine ⟨_, rfl, _, rfl, ?_⟩
      refine compR_strF (x := letters) (fun c => .str (mul8 c)) (fun c => !inV (.str (mul8 c)) (ys.map V.str)) (by rw [letters_len]; omega) ?_ ?_ ?_
      · intro c' Q' hq
        exact ⟨_, rfl, _, _, rfl, rfl, mulOk_of rfl (by decide) (by decide), _, rfl, g, _, rfl, .inl (SqL.of hg3), rfl, flat_strs _, _, rfl, hq⟩
      · intro c' Q' hq
        exact ⟨_, rfl, _, _, rfl, rfl, mulOk_of rfl (by decide) (by decide), hq⟩
      · intro l' nl'
        refine ⟨l', _, _, _, rfl, rfl, SqL.of upd_same, (by rw [hfl, List.map_cons]; exact at0), ?_⟩
        exact ⟨mul8 cz, _, rfl, hfree, same_upd nl'⟩
    · have hno : o6 ∉ ys := fun hm => c (by rw [inV_str]; exact decide_eq_true hm)
      refine ⟨_, rfl, (by show 10 ≤ sizeLine; decide), fun l nl => ?_⟩
      have sl : Same H3 (upd H3 l (.tup ((["def", "set", "read", "write", "call", "if", "else", "while", "give", "end"] : List Str).map V.str))) := same_upd nl
      refine ⟨l, _, rfl, .inr (SqT.of upd_same), rfl, flat_strs _, _, rfl, ?_⟩
      refine ite2 (fun c2 => ?_) (fun c2 => ⟨o6, _, rfl, hno, sl⟩)
      refine ⟨_, rfl, _, rfl, ?_⟩
      refine compR_strF (x := letters) (fun c => .str (mul8 c)) (fun c => !inV (.str (mul8 c)) (ys.map V.str)) (by rw [letters_len]; omega) ?_ ?_ ?_
      · intro c' Q' hq
        exact ⟨_, rfl, _, _, rfl, rfl, mulOk_of rfl (by decide) (by decide), _, rfl, g, _, rfl, .inl (SqL.of (sl _ _ hg3)), rfl, flat_strs _, _, rfl, hq⟩
      · intro c' Q' hq
        exact ⟨_, rfl, _, _, rfl, rfl, mulOk_of rfl (by decide) (by decide), hq⟩
      · intro l' nl'
        refine ⟨l', _, _, _, rfl, rfl, SqL.of upd_same, (by rw [hfl, List.map_cons]; exact at0), ?_⟩
        exact ⟨mul8 cz, _, rfl, hfree, sl.trans (same_upd nl')⟩
  intro _ H4 hq'
  refine opq fun Gq kq => ?_
  obtain ⟨o6', o7, rfl, hno, s4⟩ := hq'
  refine kq ?_
  clear kq
  have g14 := s4 _ _ g13
  refine ⟨_, rfl, c0, _, _, _, rfl, rfl, SqT.of g14, rfl, _, rfl, _, rfl, c0, _, _, _, rfl, rfl, SqT.of g14, rfl, (by show 4 ≤ sizeLine; decide), fun q1 n1 => ⟨_, rfl, (by show 2 ≤ sizeLine; decide), fun q2 n2 => ⟨(by show 2 ≤ sizeLine; decide), fun r nr => ?_⟩⟩⟩
  exact fin H4 o6' t ts "name" o6' (B3.same s4) (k3.trans (But.of_same s4)) (s4 _ _ g23) (.inr ⟨rfl, rfl, hno⟩) q1 n1 q2 n2 r nr
end
end K9

set_option Elab.async false
set_option linter.all false
set_option maxRecDepth 100000
set_option maxHeartbeats 4000000
namespace K9
open PySem PySem.Spec PyProof.Rows L2
/-! ### what is found: none, or the first wrong call -/
theorem dupF_none : ∀ {ys seen : List Str}, (seen ++ ys).Nodup → dupF seen ys = none
  | [], _, _ => rfl
  | y :: ys, seen, h => by
    have hy : ¬ y ∈ seen := fun m => by
      have := (List.nodup_append.mp h).2.2 y m y (List.mem_cons_self ..)
      exact this rfl
    show (if y ∈ seen then some y else dupF (seen ++ [y]) ys) = none
    rw [if_neg hy]
    refine dupF_none ?_
    rw [List.append_assoc]
    exact h
noncomputable def Right (ds : List Df) (c : Str × Nat) : Prop := cnt ds c.1 = some c.2
noncomputable def Bad (ds : List Df) (c : Str × Nat) (v : Vd) : Prop := (cnt ds c.1 = none ∧ v = .name c.1) ∨ ∃ m, cnt ds c.1 = some m ∧ c.2 ≠ m ∧ v = .count c.1
theorem vcalls_none {ds : List Df} : ∀ {cs : List (Str × Nat)}, (∀ c ∈ cs, Right ds c) → vcalls ds cs = none
  | [], _ => rfl
  | (f, n) :: r, h => by
    have e : cnt ds f = some n := h _ (List.mem_cons_self ..)
    show (match cnt ds f with | none => some (.name f) | some m => if n = m then vcalls ds r else some (.count f)) = none
    rw [e]
    show (if n = n then vcalls ds r else some (.count f)) = none
    rw [if_pos rfl]
    exact vcalls_none fun c hc => h c (List.mem_cons_of_mem _ hc)
theorem vcalls_bad {ds : List Df} {v : Vd} : ∀ {cs : List (Str × Nat)} {j : Nat} {c : Str × Nat}, cs[j]? = some c → (∀ i c', i < j → cs[i]? = some c' → Right ds c') → Bad ds c v → vcalls ds cs = some v
  | [], j, c, h, _, _ => by simp at h
  | (f, n) :: r, 0, c, h, _, b => by
    cases h
    show (match cnt ds f with | none => some (.name f) | some m => if n = m then vcalls ds r else some (.count f)) = some v
    rcases b with ⟨e, rfl⟩ | ⟨m, e, ne, rfl⟩
    · rw [show cnt ds f = none from e]
    · rw [show cnt ds f = some m from e]
      exact if_neg ne
  | (f, n) :: r, j + 1, c, h, hr, b => by
    have e : cnt ds f = some n := hr 0 _ (Nat.succ_pos _) rfl
    show (match cnt ds f with | none => some (.name f) | some m => if n = m then vcalls ds r else some (.count f)) = some v
    rw [e]
    show (if n = n then vcalls ds r else some (.count f)) = some v
    rw [if_pos rfl]
    exact vcalls_bad (j := j) (by simpa using h) (fun i c' hi hc => hr (i + 1) c' (by omega) (by simpa using hc)) b
theorem vdefs_ok {all : List Df} : ∀ {ds : List Df}, (∀ d ∈ ds, dupF [] d.ps = none ∧ ∀ c ∈ d.b.calls, Right all c) → vdefs all ds = .ok
  | [], _ => rfl
  | d :: r, h => by
    have h0 := h d (List.mem_cons_self ..)
    show (match dupF [] d.ps with | some x => .twice x | none => match vcalls all d.b.calls with | some v => v | none => vdefs all r) = Vd.ok
    rw [h0.1, vcalls_none h0.2]
    exact vdefs_ok fun d' hd => h d' (List.mem_cons_of_mem _ hd)
theorem vdefs_bad {all : List Df} {v : Vd} : ∀ {ds : List Df} {k : Nat} {d : Df}, ds[k]? = some d → (∀ i d', i ≤ k → ds[i]? = some d' → dupF [] d'.ps = none) → (∀ i d', i < k → ds[i]? = some d' → ∀ c ∈ d'.b.calls, Right all c) →
    vcalls all d.b.calls = some v → vdefs all ds = v
  | [], k, d, h, _, _, _ => by simp at h
  | d0 :: r, 0, d, h, hp, _, b => by
    cases h
    show (match dupF [] d0.ps with | some x => .twice x | none => match vcalls all d0.b.calls with | some v => v | none => vdefs all r) = v
    rw [hp 0 _ (Nat.le_refl _) rfl, b]
  | d0 :: r, k + 1, d, h, hp, hr, b => by
    show (match dupF [] d0.ps with | some x => .twice x | none => match vcalls all d0.b.calls with | some v => v | none => vdefs all r) = v
    rw [hp 0 _ (Nat.zero_le _) rfl, vcalls_none (hr 0 _ (Nat.succ_pos _) rfl)]
    exact vdefs_bad (k := k) (by simpa using h) (fun i d' hi hd => hp (i + 1) d' (by omega) (by simpa using hd)) (fun i d' hi hd => hr (i + 1) d' (by omega) (by simpa using hd)) b
theorem verdict_ok {ds : List Df} (hn : (ds.map Df.f).Nodup) (hp : ∀ d ∈ ds, d.ps.Nodup) (hc : ∀ d ∈ ds, ∀ c ∈ d.b.calls, Right ds c) : verdict ds = .ok := by
  unfold verdict
  rw [dupF_none (seen := []) hn]
  exact vdefs_ok fun d hd => ⟨dupF_none (seen := []) (hp d hd), hc d hd⟩
/-- the first wrong call, by def and place -/
theorem verdict_bad {ds : List Df} {k j : Nat} {d : Df} {c : Str × Nat} {v : Vd} (hn : (ds.map Df.f).Nodup) (hp : ∀ d ∈ ds, d.ps.Nodup) (hk : ds[k]? = some d) (hj : d.b.calls[j]? = some c)
    (h1 : ∀ i d', i < k → ds[i]? = some d' → ∀ c ∈ d'.b.calls, Right ds c) (h2 : ∀ i c', i < j → d.b.calls[i]? = some c' → Right ds c') (b : Bad ds c v) : verdict ds = v := by
  unfold verdict
  rw [dupF_none (seen := []) hn]
  exact vdefs_bad hk (fun i d' _ hd => dupF_none (seen := []) (hp d' (List.mem_of_getElem? hd))) h1 (vcalls_bad hj h2 b)
/-- a def's count by its name -/
theorem cnt_of {ds : List Df} {k : Nat} {d : Df} (hn : (ds.map Df.f).Nodup) (hk : ds[k]? = some d) : cnt ds d.f = some d.ps.length := by
  induction ds generalizing k with
  | nil => simp at hk
  | cons d0 r ih =>
    rw [List.map_cons, List.nodup_cons] at hn
    cases k with
    | zero =>
      cases hk
      unfold cnt
      rw [List.find?_cons_of_pos (by simp)]
      rfl
    | succ k =>
      have hm : d ∈ r := List.mem_of_getElem? (by simpa using hk)
      have ne : ¬ d0.f = d.f := fun e => hn.1 (by rw [e]; exact List.mem_map.mpr ⟨d, hm, rfl⟩)
      have := ih hn.2 (k := k) (by simpa using hk)
      unfold cnt at this ⊢
      rw [List.find?_cons_of_neg (by simp [ne])]
      exact this
theorem cnt_not {ds : List Df} {f : Str} (h : ¬ f ∈ ds.map Df.f) : cnt ds f = none := by
  unfold cnt
  have : ds.find? (fun d => decide (d.f = f)) = none := by
    rw [List.find?_eq_none]
    intro d hd
    simp only [decide_eq_true_eq]
    exact fun e => h (List.mem_map.mpr ⟨d, hd, e⟩)
  rw [this]
  rfl
end K9

set_option Elab.async false
set_option linter.all false
set_option maxRecDepth 100000
set_option maxHeartbeats 4000000
namespace K9
open PySem PySem.Spec PyProof.Rows L2
/-! ### calls that are right, calls that are wrong, by names and counts -/
noncomputable def RightY (ys : List Str) (ns : List Nat) (c : Str × Nat) : Prop := ∃ j : Nat, ys[j]? = some c.1 ∧ ns[j]? = some c.2
noncomputable def BadY (ys : List Str) (ns : List Nat) (c : Str × Nat) (v : Vd) : Prop := (c.1 ∉ ys ∧ v = .name c.1) ∨ ∃ (j : Nat) (m : Nat), ys[j]? = some c.1 ∧ ns[j]? = some m ∧ c.2 ≠ m ∧ v = .count c.1
theorem fault_bad {ys : List Str} {ns : List Nat} {c c' : Str × Nat} {w nm : Str} (r : RightY ys ns c) (f : Fault ys c c' w nm) : ∃ v, BadY ys ns c' v ∧ vdV v = [.str w, .str nm] := by
  rcases f with ⟨rfl, rfl, e1, e2⟩ | ⟨rfl, rfl, e⟩
  · obtain ⟨j, h1, h2⟩ := r
    exact ⟨.count c.1, .inr ⟨j, c.2, by rw [e1]; exact h1, h2, e2, by rw [e1]⟩, rfl⟩
  · exact ⟨.name c'.1, .inl ⟨e, rfl⟩, rfl⟩
noncomputable abbrev Du := (Nat × Nat) × Vd
structure PlOk (ys : List Str) (ns : List Nat) (css : List (List (Str × Nat))) (dd : List Du) : Prop where
  right : ∀ (k : Nat) (cs : List (Str × Nat)) (j : Nat) (c : Str × Nat), css[k]? = some cs → cs[j]? = some c → (∀ d ∈ dd, d.1 ≠ (k, j)) → RightY ys ns c
  bad : ∀ d ∈ dd, ∃ (cs : List (Str × Nat)) (c : Str × Nat), css[d.1.1]? = some cs ∧ cs[d.1.2]? = some c ∧ BadY ys ns c d.2
theorem PlOk.snoc {ys : List Str} {ns : List Nat} {css : List (List (Str × Nat))} {cs : List (Str × Nat)} (h : PlOk ys ns css []) (r : ∀ c ∈ cs, RightY ys ns c) : PlOk ys ns (css ++ [cs]) [] := by
  refine ⟨fun k cs' j c h1 h2 _ => ?_, fun d hd => by cases hd⟩
  rcases Nat.lt_or_ge k css.length with hl | hl
  · rw [List.getElem?_append_left hl] at h1
    exact h.right k cs' j c h1 h2 fun d hd => by cases hd
  · rw [List.getElem?_append_right hl] at h1
    cases e : k - css.length with
    | zero => rw [e] at h1; cases h1; exact r c (List.mem_of_getElem? h2)
    | succ m => rw [e] at h1; cases h1
theorem PlOk.step {ys : List Str} {ns : List Nat} {css : List (List (Str × Nat))} {dd : List Du} {k j : Nat} {cs : List (Str × Nat)} {c' : Str × Nat} {v : Vd} (h : PlOk ys ns css dd) (hk : css[k]? = some cs) (hj : j < cs.length) (b : BadY ys ns c' v)
    (hd : ∀ d ∈ dd, d.1 ≠ (k, j)) : PlOk ys ns (css.set k (cs.set j c')) (dd ++ [((k, j), v)]) := by
  have hkl : k < css.length := by
    rcases Nat.lt_or_ge k css.length with z | z
    · exact z
    · rw [List.getElem?_eq_none z] at hk; cases hk
  refine ⟨fun k2 cs2 j2 c2 h1 h2 hn => ?_, fun d hm => ?_⟩
  · have hn1 : ∀ d ∈ dd, d.1 ≠ (k2, j2) := fun d hm => hn d (List.mem_append_left _ hm)
    have hn2 : (k, j) ≠ (k2, j2) := hn ((k, j), v) (List.mem_append_right _ (List.mem_singleton.mpr rfl))
    by_cases ek : k = k2
    · subst ek
      rw [List.getElem?_set_self hkl] at h1
      cases h1
      have ej : j ≠ j2 := fun e => hn2 (by rw [e])
      rw [List.getElem?_set_ne ej] at h2
      exact h.right k cs j2 c2 hk h2 hn1
    · rw [List.getElem?_set_ne ek] at h1
      exact h.right k2 cs2 j2 c2 h1 h2 hn1
  · rcases List.mem_append.mp hm with hm' | hm'
    · obtain ⟨cs2, c2, h1, h2, b2⟩ := h.bad d hm'
      by_cases ek : k = d.1.1
      · subst ek
        rw [hk] at h1
        cases h1
        have ej : j ≠ d.1.2 := fun e => hd d hm' (by rw [e])
        exact ⟨_, c2, List.getElem?_set_self hkl, by rw [List.getElem?_set_ne ej]; exact h2, b2⟩
      · exact ⟨cs2, c2, by rw [List.getElem?_set_ne ek]; exact h1, h2, b2⟩
    · have e := List.mem_singleton.mp hm'
      subst e
      exact ⟨_, c', List.getElem?_set_self hkl, List.getElem?_set_self hj, b⟩
structure Built (ys : List Str) (ns : List Nat) (css : List (List (Str × Nat))) (ds : List Df) : Prop where
  f : ds.map Df.f = ys
  n : ds.map (fun d => d.ps.length) = ns
  c : ds.map (fun d => d.b.calls) = css
  p : ∀ d ∈ ds, d.ps.Nodup
section
variable {ys : List Str} {ns : List Nat} {css : List (List (Str × Nat))} {ds : List Df} {dd : List Du}
theorem right_of (B : Built ys ns css ds) (hn : ys.Nodup) {c : Str × Nat} (h : RightY ys ns c) : Right ds c := by
  obtain ⟨j, h1, h2⟩ := h
  rw [← B.f, List.getElem?_map] at h1
  rw [← B.n, List.getElem?_map] at h2
  cases hd : ds[j]? with
  | none => rw [hd] at h1; cases h1
  | some d =>
    rw [hd] at h1 h2
    have e1 : d.f = c.1 := by simpa using h1
    have e2 : d.ps.length = c.2 := by simpa using h2
    have := cnt_of (ds := ds) (by rw [B.f]; exact hn) hd
    rw [e1, e2] at this
    exact this
theorem bad_of (B : Built ys ns css ds) (hn : ys.Nodup) {c : Str × Nat} {v : Vd} (h : BadY ys ns c v) : Bad ds c v := by
  rcases h with ⟨e, rfl⟩ | ⟨j, m, h1, h2, ne, rfl⟩
  · exact .inl ⟨cnt_not (by rw [B.f]; exact e), rfl⟩
  · exact .inr ⟨m, right_of B hn (c := (c.1, m)) ⟨j, h1, h2⟩, ne, rfl⟩
noncomputable def ltP (p q : Nat × Nat) : Prop := p.1 < q.1 ∨ (p.1 = q.1 ∧ p.2 < q.2)
theorem verdict_first (B : Built ys ns css ds) (hn : ys.Nodup) (P : PlOk ys ns css dd) {d : Du} (hd : d ∈ dd) (hf : ∀ e ∈ dd, ¬ ltP e.1 d.1) : verdict ds = d.2 := by
  obtain ⟨cs, c, h1, h2, b⟩ := P.bad d hd
  have at' : ∀ (i : Nat) (d' : Df), ds[i]? = some d' → css[i]? = some d'.b.calls := fun i d' h => by rw [← B.c, List.getElem?_map, h]; rfl
  cases hk : ds[d.1.1]? with
  | none =>
    rw [← B.c, List.getElem?_map, hk] at h1
    cases h1
  | some df =>
    have e : df.b.calls = cs := by
      have := at' _ _ hk
      rw [h1] at this
      injection this with this
      exact this.symm
    refine verdict_bad (by rw [B.f]; exact hn) B.p hk (by rw [e]; exact h2) (fun i d' hi hd' c' hc' => ?_) (fun i c' hi hc' => ?_) (bad_of B hn b)
    · obtain ⟨j', hj'⟩ := List.mem_iff_getElem?.mp hc'
      exact right_of B hn (P.right i d'.b.calls j' c' (at' _ _ hd') hj' fun e he ee => hf e he (by rw [ee]; exact .inl hi))
    · exact right_of B hn (P.right d.1.1 df.b.calls i c' (at' _ _ hk) hc' fun e he ee => hf e he (by rw [ee]; exact .inr ⟨rfl, hi⟩))
theorem verdict_none (B : Built ys ns css ds) (hn : ys.Nodup) (P : PlOk ys ns css []) : verdict ds = .ok := by
  refine verdict_ok (by rw [B.f]; exact hn) B.p fun d hd c hc => ?_
  obtain ⟨i, hi⟩ := List.mem_iff_getElem?.mp hd
  obtain ⟨j, hj⟩ := List.mem_iff_getElem?.mp hc
  exact right_of B hn (P.right i d.b.calls j c (by rw [← B.c, List.getElem?_map, hi]; rfl) hj fun e he => by cases he)
end
/-! ### the lists of calls -/
structure CLs (H0 H : Hp) (ls : List Addr) (css : List (List (Str × Nat))) : Prop where
  len : ls.length = css.length
  at' : ∀ (k : Nat) (l : Addr), ls[k]? = some l → ∃ (cs : List (Str × Nat)) (vs : List V), css[k]? = some cs ∧ H l = some (.lst vs) ∧ CallsV H cs vs ∧ 1 ≤ cs.length ∧ cs.length ≤ 3
  fresh : ∀ l ∈ ls, H0 l = none
  nd : ls.Nodup
theorem CLs.nil {H0 H : Hp} : CLs H0 H [] [] := ⟨rfl, fun k l h => by simp at h, fun l h => absurd h List.not_mem_nil, List.nodup_nil⟩
theorem CLs.keep {H0 H H' : Hp} {ls : List Addr} {css : List (List (Str × Nat))} (h : CLs H0 H ls css) (k : ∀ l ∈ ls, ∀ o, H l = some o → H' l = some o) (t : TMono H H') : CLs H0 H' ls css := by
  refine ⟨h.len, fun i l hl => ?_, h.fresh, h.nd⟩
  obtain ⟨cs, vs, h1, h2, h3, h4⟩ := h.at' i l hl
  exact ⟨cs, vs, h1, k l (List.mem_of_getElem? hl) _ h2, h3.mono t, h4⟩
theorem CLs.snoc {H0 H : Hp} {ls : List Addr} {css : List (List (Str × Nat))} (h : CLs H0 H ls css) {l : Addr} {cs : List (Str × Nat)} {vs : List V} (n : H0 l = none) (nl : l ∉ ls) (hl : H l = some (.lst vs)) (hc : CallsV H cs vs) (h1 : 1 ≤ cs.length) (h3 : cs.length ≤ 3) :
    CLs H0 H (ls ++ [l]) (css ++ [cs]) := by
  refine ⟨by simp [h.len], fun i b hb => ?_, fun b hb => ?_, ?_⟩
  · rcases Nat.lt_or_ge i ls.length with z | z
    · rw [List.getElem?_append_left z] at hb
      obtain ⟨cs', vs', e1, e2⟩ := h.at' i b hb
      exact ⟨cs', vs', by rw [List.getElem?_append_left (by rw [← h.len]; exact z)]; exact e1, e2⟩
    · rw [List.getElem?_append_right z] at hb
      cases e : i - ls.length with
      | zero =>
        rw [e] at hb
        cases hb
        exact ⟨cs, vs, by rw [List.getElem?_append_right (by rw [← h.len]; exact z), ← h.len, e]; rfl, hl, hc, h1, h3⟩
      | succ m => rw [e] at hb; cases hb
  · rcases List.mem_append.mp hb with hb | hb
    · exact h.fresh b hb
    · rw [List.mem_singleton.mp hb]; exact n
  · rw [List.nodup_append]
    exact ⟨h.nd, List.nodup_cons.mpr ⟨List.not_mem_nil, List.nodup_nil⟩, fun a ha b hb e => nl (by rw [← List.mem_singleton.mp hb, ← e]; exact ha)⟩
theorem CallsV.set {H : Hp} {c : Str × Nat} {v : V} (hv : CallV H c v) {cs : List (Str × Nat)} : ∀ {vs : List V} {j : Nat}, CallsV H cs vs → CallsV H (cs.set j c) (vs.set j v) := by
  induction cs with
  | nil => intro vs j h; have e : vs = [] := h; rw [e]; rfl
  | cons d ds ih =>
    rintro vs j ⟨u, r, e, h1, h4⟩
    subst e
    cases j with
    | zero => exact ⟨v, r, rfl, hv, h4⟩
    | succ j => exact ⟨u, r.set j v, rfl, h1, ih h4⟩
theorem CLs.set {H0 H H' : Hp} {ls : List Addr} {css : List (List (Str × Nat))} (h : CLs H0 H ls css) {k j : Nat} {l : Addr} {cs : List (Str × Nat)} {vs : List V} {c : Str × Nat} {v : V} (hl : ls[k]? = some l) (hk : css[k]? = some cs) (hvs : H l = some (.lst vs)) (hc : CallsV H cs vs)
    (t : TMono H H') (kp : ∀ b ∈ ls, b ≠ l → ∀ o, H b = some o → H' b = some o) (hn : H' l = some (.lst (vs.set j v))) (hv : CallV H' c v) : CLs H0 H' ls (css.set k (cs.set j c)) := by
  refine ⟨by rw [List.length_set]; exact h.len, fun i b hb => ?_, h.fresh, h.nd⟩
  obtain ⟨cs2, vs2, e1, e2, e3, e4, e5⟩ := h.at' i b hb
  have hkl : k < css.length := by
    rcases Nat.lt_or_ge k css.length with z | z
    · exact z
    · rw [List.getElem?_eq_none z] at hk; cases hk
  by_cases ek : k = i
  · subst ek
    rw [hl] at hb
    cases hb
    rw [hk] at e1
    cases e1
    exact ⟨_, _, List.getElem?_set_self hkl, hn, CallsV.set hv (hc.mono t), by rw [List.length_set]; exact e4, by rw [List.length_set]; exact e5⟩
  · have nb : b ≠ l := fun e => by
      subst e
      exact ek ((List.getElem?_inj (by
        rcases Nat.lt_or_ge k ls.length with z | z
        · exact z
        · rw [List.getElem?_eq_none z] at hl; cases hl) h.nd).mp (by rw [hl, hb]))
    exact ⟨cs2, vs2, by rw [List.getElem?_set_ne ek]; exact e1, kp b (List.mem_of_getElem? hb) nb _ e2, e3.mono t, e4, e5⟩
/-! ### what is due -/
noncomputable def DuV (L : List Addr) (H : Hp) (d : Du) (x : Addr) : Prop := ∃ q t : Addr, H x = some (.lst [.ref q, .ref t]) ∧ H q = some (.lst [.int (d.1.1 : Int), .int (d.1.2 : Int)]) ∧ H t = some (.tup (vdV d.2)) ∧ x ∉ L ∧ q ∉ L
theorem DuV.keep {L : List Addr} {H H' : Hp} {d : Du} {x : Addr} (h : DuV L H d x) (k : ∀ b, b ∉ L → ∀ o, H b = some o → H' b = some o) (t : TMono H H') : DuV L H' d x := by
  obtain ⟨q, u, h1, h2, h3, h4, h5⟩ := h
  exact ⟨q, u, k _ h4 _ h1, k _ h5 _ h2, t _ _ h3, h4, h5⟩
inductive DusV (L : List Addr) (H : Hp) : List Du → List Addr → Prop
  | none : DusV L H [] []
  | one {d : Du} {x : Addr} (h : DuV L H d x) : DusV L H [d] [x]
  | two {d e : Du} {x y : Addr} (h : DuV L H d x) (g : DuV L H e y) (n : d.1 ≠ e.1) : DusV L H [d, e] [x, y]
theorem DusV.keep {L : List Addr} {H H' : Hp} {dd : List Du} {xs : List Addr} (h : DusV L H dd xs) (k : ∀ b, b ∉ L → ∀ o, H b = some o → H' b = some o) (t : TMono H H') : DusV L H' dd xs := by
  cases h with
  | none => exact .none
  | one h => exact .one (h.keep k t)
  | two h g n => exact .two (h.keep k t) (g.keep k t) n
theorem call_tupleK {X : Cx} {K : PySem.W.Frag} (hK : X.K = K) : CallR X (.type "tuple") (fun xs H Q => ∃ p ys, xs = [.ref p] ∧ ((SqL K H p ys ∧ ∀ l, H l = none → Q (.ref l) (upd H l (.tup ys))) ∨ (SqT K H p ys ∧ Q (.ref p) H))) := by
  subst hK
  exact call_tuple_of
end K9

set_option Elab.async false
set_option linter.all false
set_option maxRecDepth 100000
set_option maxHeartbeats 4000000
namespace K9
open PySem PySem.Spec PyProof.Rows L2
noncomputable abbrev sLaw : Stmt := top 24
noncomputable abbrev sInitW : Stmt := inClass (top 3) 0
noncomputable abbrev sInitN : Stmt := inClass (top 4) 0
noncomputable abbrev sInitC : Stmt := inClass (top 5) 0
noncomputable def spLaw (K : PySem.W.Frag) : Sp := fun vs H Q _ => ∃ (a : Addr) (ns : List Int), vs = [.ref a] ∧ SqL K H a (ns.map V.int) ∧ ns.length ≤ 63 ∧ ∀ H', Q (.bl true) H'
theorem vd_flat (v : Vd) : (vdV v).all flatV = true := by cases v <;> rfl
theorem eqV_str (x : Str) : eqV (.str x) (.str x) = true := by simp [eqV]
theorem vd_eq (v : Vd) : eqTs (vdV v) (vdV v) = true := by
  have two : ∀ (x y : Str), eqTs [.str x, .str y] [.str x, .str y] = true := fun x y => by
    show ((List.range 2).all (fun j => eqV (([.str x, .str y] : List V).getD j .non) (([.str x, .str y] : List V).getD j .non)) && (2 == 2)) = true
    show ((eqV (.str x) (.str x) && (eqV (.str y) (.str y) && true)) && true) = true
    rw [eqV_str, eqV_str]
    rfl
  cases v with
  | ok => decide +kernel
  | twice x => exact two _ x
  | name x => exact two _ x
  | count x => exact two _ x
theorem op_neE {X : Cx} (hu : X.A.units < cLine) : OpR X (compareOp .NotEq) (fun x y H Q => ∃ a b xs, x = .ref a ∧ y = .ref b ∧ H a = some (.lst xs) ∧ H b = some (.lst []) ∧ Q (.bl (!xs.isEmpty)) H) := by
  intro pins s σ H x y v u Q I rx ry h
  refine opq fun Gq kq => ?_
  obtain ⟨a, b, xs, rfl, rfl, ha, hb, q⟩ := h
  refine kq ?_
  clear kq
  cases rx
  cases ry
  refine opq fun Gq kq => ?_
  obtain ⟨ia, ra, pa, _⟩ := I.list (SqL.of ha)
  refine kq ?_
  clear kq
  refine opq fun Gq kq => ?_
  obtain ⟨ib, rb, pb, _⟩ := I.list (SqL.of hb)
  refine kq ?_
  clear kq
  have eb : ib = [] := rb.nil_iff.mpr rfl
  subst eb
  cases hx : xs with
  | nil =>
    subst hx
    have ea : ia = [] := ra.nil_iff.mpr rfl
    subst ea
    refine PySem.SeqAt.RcNeAt.lists (e := fun _ => true) pa.isList pb.isList rfl hu (fun j h1 h2 => absurd h1 (by simp)) X.prog X.w _ _ ?_
    exact ⟨.bl false, H, I, rfl, q⟩
  | cons z r =>
    subst hx
    have la := ra.length
    refine PySem.SeqAt.RcNeAt.lists_lengths pa.isList pb.isList (by simp [← la]) hu X.prog X.w _ _ ?_
    exact ⟨.bl true, H, I, rfl, q⟩
theorem compR_lst {K : PySem.W.Frag} {a : Addr} {xs : List V} {te : TE} {Qf : List V → Hp → Prop} {σt : L2.St} {H : Hp} (hz : xs.length ≤ sizeLine) (Pv : Nat → List V → Hp → Prop) (h0 : Pv 0 [] H)
    (hk : ∀ i ys H', Pv i ys H' → SqL K H' a xs ∧ ys.length ≤ i) (hs : ∀ i x ys H', xs[i]? = some x → Pv i ys H' → te (some x :: σt) H' fun y H2 => Pv (i + 1) (ys ++ [y]) H2) (hd : ∀ ys H', Pv xs.length ys H' → Qf ys H') :
    CompR (Itl K a) 1 σt (gName 0) tAll te Qf H := by
  refine ⟨fun i m ys H' => m = xs.length - i ∧ i ≤ xs.length ∧ Pv i ys H', ⟨xs.length, by simp, Nat.zero_le _, h0⟩, ?_⟩
  intro i m ys H' hq'
  refine opq fun Gq kq => ?_
  obtain ⟨rfl, hi, p⟩ := hq'
  refine kq ?_
  clear kq
  obtain ⟨hq, hy⟩ := hk i ys H' p
  by_cases hlt : i < xs.length
  · refine .inr ⟨⟨xs, xs[i], hq, List.getElem?_eq_getElem hlt⟩, by omega, Pv (i + 1), fun ys' H2 p' => ⟨xs.length - (i + 1), by omega, rfl, hlt, p'⟩, fun v H2 ts hts y => ?_⟩
    obtain ⟨e, y⟩ := y
    subst e
    obtain ⟨w, rfl⟩ := len1 hts
    exact ⟨⟨[some _], rfl, rfl⟩, hs i v ys H2 (y xs hq) p⟩
  · have e : i = xs.length := by omega
    subst e
    exact .inl ⟨⟨xs, hq, Nat.le_refl _⟩, hd ys H' p⟩
section
variable {P : Program} {w : World} {K : PySem.W.Frag} {mg : Str → Option Value} {base : Heap}
theorem scInitW : FnScope ["self", "name"] ["self", "name"] (defScope sInitW) := ⟨rfl, rfl, rfl, by decide +kernel, rfl, by decide +kernel, by decide +kernel⟩
theorem ok_initW {f  : Addr} {fd  : FuncData} (F : Fun K "__init__" "Twice.__init__" sInitW f fd) {C : Addr} (xi : XIn K C "name") : FnOk P w K mg base CX0 1 f fd ["self", "name"] (spInit C "name") := by
  refine F.ok scInitW (fun vs H Q E h => ?_) (fun cdv A outer s H vs Q E hr h => ?_)
  · refine opq fun Gq kq => ?_
    obtain ⟨x, v, rfl, _⟩ := h
    refine kq ?_
    clear kq
    rfl
  refine opq fun Gq kq => ?_
  obtain ⟨x, v, rfl, hx, q⟩ := h
  refine kq ?_
  clear kq
  refine ⟨_, (@pss_one _ _ _ (@ps_fldX _ _ _ _ _ _ _ _ (@pv _ 0 _ _ (by rfl) (by first | exact Or.inl rfl | exact Or.inr (Or.inl rfl) | exact Or.inr (Or.inr rfl)) (by decide) (by decide)) (@pv _ 1 _ _ (by rfl) (by first | exact Or.inl rfl | exact Or.inr (Or.inl rfl) | exact Or.inr (Or.inr rfl)) (by decide) (by decide)) (by rfl))), ?_⟩
  try dsimp only [cxOf, Cx.nox, Cx.wish]
  refine opq fun Gq kq => ?_
  obtain ⟨cd, h1, h2, h3⟩ := xi.cd
  refine kq ?_
  clear kq
  exact ⟨_, rfl, _, rfl, x, C, cd, rfl, hx, xi.x, xi.no, h1, h2, h3, fun dx n => q dx n⟩
theorem scInitN : FnScope ["self", "name"] ["self", "name"] (defScope sInitN) := ⟨rfl, rfl, rfl, by decide +kernel, rfl, by decide +kernel, by decide +kernel⟩
theorem ok_initN {f  : Addr} {fd  : FuncData} (F : Fun K "__init__" "NoName.__init__" sInitN f fd) {C : Addr} (xi : XIn K C "name") : FnOk P w K mg base CX0 1 f fd ["self", "name"] (spInit C "name") := by
  refine F.ok scInitN (fun vs H Q E h => ?_) (fun cdv A outer s H vs Q E hr h => ?_)
  · refine opq fun Gq kq => ?_
    obtain ⟨x, v, rfl, _⟩ := h
    refine kq ?_
    clear kq
    rfl
  refine opq fun Gq kq => ?_
  obtain ⟨x, v, rfl, hx, q⟩ := h
  refine kq ?_
  clear kq
  refine ⟨_, (@pss_one _ _ _ (@ps_fldX _ _ _ _ _ _ _ _ (@pv _ 0 _ _ (by rfl) (by first | exact Or.inl rfl | exact Or.inr (Or.inl rfl) | exact Or.inr (Or.inr rfl)) (by decide) (by decide)) (@pv _ 1 _ _ (by rfl) (by first | exact Or.inl rfl | exact Or.inr (Or.inl rfl) | exact Or.inr (Or.inr rfl)) (by decide) (by decide)) (by rfl))), ?_⟩
  try dsimp only [cxOf, Cx.nox, Cx.wish]
  refine opq fun Gq kq => ?_
  obtain ⟨cd, h1, h2, h3⟩ := xi.cd
  refine kq ?_
  clear kq
  exact ⟨_, rfl, _, rfl, x, C, cd, rfl, hx, xi.x, xi.no, h1, h2, h3, fun dx n => q dx n⟩
theorem scInitC : FnScope ["self", "name"] ["self", "name"] (defScope sInitC) := ⟨rfl, rfl, rfl, by decide +kernel, rfl, by decide +kernel, by decide +kernel⟩
theorem ok_initC {f  : Addr} {fd  : FuncData} (F : Fun K "__init__" "NoCount.__init__" sInitC f fd) {C : Addr} (xi : XIn K C "name") : FnOk P w K mg base CX0 1 f fd ["self", "name"] (spInit C "name") := by
  refine F.ok scInitC (fun vs H Q E h => ?_) (fun cdv A outer s H vs Q E hr h => ?_)
  · refine opq fun Gq kq => ?_
    obtain ⟨x, v, rfl, _⟩ := h
    refine kq ?_
    clear kq
    rfl
  refine opq fun Gq kq => ?_
  obtain ⟨x, v, rfl, hx, q⟩ := h
  refine kq ?_
  clear kq
  refine ⟨_, (@pss_one _ _ _ (@ps_fldX _ _ _ _ _ _ _ _ (@pv _ 0 _ _ (by rfl) (by first | exact Or.inl rfl | exact Or.inr (Or.inl rfl) | exact Or.inr (Or.inr rfl)) (by decide) (by decide)) (@pv _ 1 _ _ (by rfl) (by first | exact Or.inl rfl | exact Or.inr (Or.inl rfl) | exact Or.inr (Or.inr rfl)) (by decide) (by decide)) (by rfl))), ?_⟩
  try dsimp only [cxOf, Cx.nox, Cx.wish]
  refine opq fun Gq kq => ?_
  obtain ⟨cd, h1, h2, h3⟩ := xi.cd
  refine kq ?_
  clear kq
  exact ⟨_, rfl, _, rfl, x, C, cd, rfl, hx, xi.x, xi.no, h1, h2, h3, fun dx n => q dx n⟩
end
end K9

set_option Elab.async false
set_option linter.all false
set_option maxRecDepth 100000
set_option maxHeartbeats 4000000
namespace K9
open PySem PySem.Spec PyProof.Rows L2
/-! ### the law: what is drawn first -/
noncomputable abbrev iV (n : Nat) : V := .int (n : Int)
structure Bs (H4 : Hp) (p wd g ct : Addr) (ws : List Str) (N : Nat) (ns : List Nat) : Prop where
  hw : H4 wd = some (.lst (ws.map V.str))
  hg : H4 g = some (.lst ((ws.take N).map V.str))
  hc : H4 ct = some (.lst (ns.map iV))
  nw : wd ≠ p
  ng : g ≠ p
  nc : ct ≠ p
  l14 : ws.length = 14
  nd : NdP ws
  le : ∀ y ∈ ws, y.length ≤ 20
  n2 : 2 ≤ N
  n8 : N ≤ 8
  nl : ns.length = N
  n6 : ∀ n ∈ ns, n ≤ 6
theorem map_at {α : Type} {f : α → V} {xs : List α} {i : Nat} {x : V} (h : (xs.map f)[i]? = some x) : ∃ a, xs[i]? = some a ∧ x = f a := by
  rw [List.getElem?_map] at h
  cases e : xs[i]? with
  | none => rw [e] at h; cases h
  | some a => rw [e] at h; cases h; exact ⟨a, rfl, rfl⟩
theorem at_map {α : Type} {f : α → V} {xs : List α} {i : Nat} {a : α} (h : xs[i]? = some a) : atI (xs.map f) (i : Int) = some (f a) := atI_nat (by rw [List.getElem?_map, h]; rfl)
theorem some_at {α : Type} {xs : List α} {i : Nat} (h : i < xs.length) : ∃ a, xs[i]? = some a := ⟨_, List.getElem?_eq_getElem h⟩
theorem len_take {ws : List Str} {N : Nat} (h : ws.length = 14) (h8 : N ≤ 8) : (ws.take N).length = N := by rw [List.length_take]; omega
noncomputable def tSome (K : PySem.W.Frag) : TS := fun D σ H => tComp (iRng1 (tCons (tOp (rI0 fun i j => V.int (i + j)) (tC (V.int 1)) (tCall spTake [] E0 (tCons (tVar 1) (tCons (tC (V.int 3)) tNil)))) tNil)) 1 [1, 3] (gName 0) tAll
  (tCall spTake [] E0 (tCons (tVar 1) (tCons (tCB (rLenK K) (tCons (tVar 2) tNil)) tNil))) σ H fun v H1 => D.nx (List.set σ 8 (some v)) H1
inductive JI (p : Addr) (N : Nat) (H : Hp) (i : Nat) (vs : List V) (H' : Hp) : Prop
  | mk (js : List Nat) (e0 : vs = js.map iV) (e1 : js.length = i) (e2 : ∀ j ∈ js, j < N) (e3 : BoxAt H' p) (e4 : But p H H') : JI p N H i vs H'
theorem some_ok {K : PySem.W.Frag} {D : Ends} {H : Hp} {p g : Addr} {ys : List Str} {o0 o2 o4 o5 o6 o7 o8 o9 o10 o11 o12 o13 o14 o15 : Option V} (B : BoxAt H p) (hg : H g = some (.lst (ys.map V.str))) (ng : g ≠ p) (n2 : 2 ≤ ys.length) (n8 : ys.length ≤ 8)
    (q : ∀ (sl : Addr) (js : List Nat) (H' : Hp), H sl = none → H' sl = some (.lst (js.map iV)) → 1 ≤ js.length → js.length ≤ 3 → (∀ j ∈ js, j < ys.length) → BoxAt H' p → But p H H' → D.nx [o0, some (.ref p), o2, some (.ref g), o4, o5, o6, o7, some (.ref sl), o9, o10, o11, o12, o13, o14, o15] H') :
    tSome K D [o0, some (.ref p), o2, some (.ref g), o4, o5, o6, o7, o8, o9, o10, o11, o12, o13, o14, o15] H := by
  refine ⟨_, rfl, p, 3, rfl, B, by decide, by decide, fun d H1 d0 d1 B1 e1 => ⟨_, _, rfl, rfl, _, rfl, by omega, by omega, ?_⟩⟩
  have k1 : But p H H1 := But.of_eq e1
  have big : 100 ≤ sizeLine := by decide
  refine compR_range (JI p ys.length H) ⟨[], rfl, rfl, (fun _ h => absurd h List.not_mem_nil), B1, k1⟩ (by omega) (fun i vs H' h => ?_) (fun i vs H' hi h => ?_) (fun vs H' h l nl => ?_)
  · obtain ⟨js, rfl, h1, _⟩ := h
    rw [List.length_map, h1]
    exact Nat.le_refl _
  · refine opq fun Gq kq => ?_
    obtain ⟨js, rfl, h1, h2, B2, k2⟩ := h
    refine kq ?_
    clear kq
    have lg : ((ys.map V.str).length : Int) = (ys.length : Int) := by rw [List.length_map]
    refine ⟨_, rfl, _, rfl, g, _, rfl, .inl (SqL.of (k2 _ _ ng hg)), p, _, rfl, B2, by omega, by omega, fun e H3 e0 e1 B3 e3 => ⟨js ++ [e.toNat], ?_, by rw [List.length_append, h1]; rfl, fun j hj => ?_, B3, k2.trans (But.of_eq e3)⟩⟩
    · rw [List.map_append]
      show _ ++ [V.int e] = _ ++ [V.int ((e.toNat : Nat) : Int)]
      rw [Int.toNat_of_nonneg e0]
    · rcases List.mem_append.mp hj with hj | hj
      · exact h2 j hj
      · rw [List.mem_singleton.mp hj]
        omega
  · refine opq fun Gq kq => ?_
    obtain ⟨js, rfl, h1, h2, B2, k2⟩ := h
    refine kq ?_
    clear kq
    exact q l js _ (k2.none B2 nl) upd_same (by omega) (by omega) h2 (B2.upd_new nl) (k2.upd_new nl)
noncomputable def rTup (K : PySem.W.Frag) : List V → Hp → VK → Prop := fun xs H Q => ∃ p ys, xs = [V.ref p] ∧ ((SqL K H p ys ∧ ∀ (l : Addr), H l = none → Q (V.ref l) (upd H l (HO.tup ys))) ∨ SqT K H p ys ∧ Q (V.ref p) H)
noncomputable def tCl (K : PySem.W.Frag) : TE := tTup (tCons (tC (V.str "call")) (tCons (tC (V.str "x")) (tCons (tOp (rIxL K) (tVar 2) (tVar 0)) (tCons (tCB (rTup K)
  (tCons (tComp (iRng1 (tCons (tOp (rIxL K) (tVar 1) (tVar 0)) tNil)) 1 [] (gName 0) tAll (tTup (tCons (tC (V.str "num")) (tCons (tVar 0) tNil)))) tNil)) tNil))))
theorem cl_ok {K : PySem.W.Frag} {H : Hp} {g ct : Addr} {ys : List Str} {ns : List Nat} {j m : Nat} {y : Str} {Q : VK} (hg : H g = some (.lst (ys.map V.str))) (hc : H ct = some (.lst (ns.map iV))) (hj : ys[j]? = some y) (hm : ns[j]? = some m) (m6 : m ≤ 6)
    (q : ∀ (r : Addr) (H' : Hp), CallV H' (y, m) (.ref r) → Same H H' → Q (.ref r) H') : tCl K [some (iV j), some (.ref ct), some (.ref g)] H Q := by
  have big : 100 ≤ sizeLine := by decide
  refine ⟨_, rfl, _, rfl, g, _, _, _, rfl, rfl, SqL.of hg, at_map hj, ?_⟩
  refine ⟨_, rfl, _, rfl, ct, _, _, _, rfl, rfl, SqL.of hc, at_map hm, _, rfl, by omega, by omega, ?_⟩
  refine compR_range (fun i vs H2 => vs.length = i ∧ Same H H2) ⟨rfl, Same.refl _⟩ (by omega) (fun i vs H' h => Nat.le_of_eq h.1) (fun i vs H' hi h => ?_) (fun vs H' h l nl => ?_)
  · exact ⟨_, rfl, (by show 2 ≤ sizeLine; decide), fun r nr => ⟨by rw [List.length_append, h.1]; rfl, h.2.trans (same_upd nr)⟩⟩
  · refine ⟨l, vs, rfl, .inl ⟨SqL.of upd_same, fun t nt => ⟨(by show 4 ≤ sizeLine; decide), fun r nr => ?_⟩⟩⟩
    refine q r _ ⟨r, .str "x", t, vs, rfl, upd_same, keepN upd_same nr, ?_⟩ (((h.2.trans (same_upd nl)).trans (same_upd nt)).trans (same_upd nr))
    show vs.length = m
    rw [h.1]
    exact Int.toNat_natCast m
noncomputable def tCls (K : PySem.W.Frag) : TS := tDrop (tBM K "list" rAppend (tVar 5) (tCons (tComp (iList K (tVar 8)) 1 [4, 3] (gName 0) tAll (tCl K)) tNil))
inductive CI (ys : List Str) (ns : List Nat) (H : Hp) (i : Nat) (vs : List V) (H' : Hp) : Prop
  | mk (cs : List (Str × Nat)) (e0 : CallsV H' cs vs) (e1 : cs.length = i) (e2 : ∀ c ∈ cs, RightY ys ns c) (e3 : Same H H') : CI ys ns H i vs H'
theorem cls_ok {K : PySem.W.Frag} {D : Ends} {H : Hp} {g ct ca sl : Addr} {ys : List Str} {ns js : List Nat} {ls : List Addr} {o0 o1 o2 o6 o7 o9 o10 o11 o12 o13 o14 o15 : Option V}
    (hg : H g = some (.lst (ys.map V.str))) (hc : H ct = some (.lst (ns.map iV))) (hl : ns.length = ys.length) (n6 : ∀ n ∈ ns, n ≤ 6) (hs : H sl = some (.lst (js.map iV))) (j3 : js.length ≤ 3) (hj : ∀ j ∈ js, j < ys.length)
    (hca : H ca = some (.lst (ls.map V.ref))) (l8 : ls.length ≤ 8)
    (q : ∀ (l : Addr) (cs : List (Str × Nat)) (vs : List V) (H' : Hp), Same H H' → H' l = none → CallsV H' cs vs → cs.length = js.length → (∀ c ∈ cs, RightY ys ns c) →
      D.nx [o0, o1, o2, some (.ref g), some (.ref ct), some (.ref ca), o6, o7, some (.ref sl), o9, o10, o11, o12, o13, o14, o15] (upd (upd H' l (.lst vs)) ca (.lst ((ls ++ [l]).map V.ref)))) :
    tCls K D [o0, o1, o2, some (.ref g), some (.ref ct), some (.ref ca), o6, o7, some (.ref sl), o9, o10, o11, o12, o13, o14, o15] H := by
  have big : 100 ≤ sizeLine := by decide
  refine ⟨_, rfl, .inl ⟨rfl, _, SqL.of hca⟩, _, rfl, sl, rfl, ⟨_, SqL.of hs⟩, ?_⟩
  refine compR_lst (K := K) (xs := js.map iV) (by rw [List.length_map]; omega) (CI ys ns H) ⟨[], rfl, rfl, (fun _ h => absurd h List.not_mem_nil), Same.refl _⟩ (fun i vs H' h => ?_) (fun i x vs H' hx h => ?_) (fun vs H' h l nl => ?_)
  · obtain ⟨cs, h1, h2, _, s⟩ := h
    exact ⟨SqL.of (s _ _ hs), by rw [h1.len, h2]; exact Nat.le_refl _⟩
  · refine opq fun Gq kq => ?_
    obtain ⟨cs, h1, h2, h3, s⟩ := h
    refine kq ?_
    clear kq
    obtain ⟨j, e1, rfl⟩ := map_at hx
    have hjl := hj j (List.mem_of_getElem? e1)
    obtain ⟨y, ey⟩ := some_at hjl
    obtain ⟨m, em⟩ := some_at (hl ▸ hjl : j < ns.length)
    refine cl_ok (s _ _ hg) (s _ _ hc) ey em (n6 m (List.mem_of_getElem? em)) fun r H2 hr s2 => ⟨cs ++ [(y, m)], CallsV.snoc hr (h1.mono (Same.tm s2)), by rw [List.length_append, h2]; rfl, fun c hm => ?_, s.trans s2⟩
    rcases List.mem_append.mp hm with hm | hm
    · exact h3 c hm
    · rw [List.mem_singleton.mp hm]
      exact ⟨j, ey, em⟩
  · refine opq fun Gq kq => ?_
    obtain ⟨cs, h1, h2, h3, s⟩ := h
    refine kq ?_
    clear kq
    have := q l cs vs H' s nl h1 (by rw [h2, List.length_map]) h3
    rw [List.map_append] at this
    exact ⟨ca, _, _, rfl, rfl, keepN (s _ _ hca) nl, by rw [List.length_map]; omega, this⟩
noncomputable def tLen3 (K : PySem.W.Frag) : TI := iRng1 (tCons (tCB (fun xs H Q => ∃ p ys, xs = [V.ref p] ∧ (SqL K H p ys ∨ SqT K H p ys) ∧ Q (V.int ys.length) H) (tCons (tVar 3) tNil)) tNil)
noncomputable def tL1 (K : PySem.W.Frag) : TS := tFor (tLen3 K) (gName 6) (tSeq (tSome K) (tCls K))
inductive L1 (a p wd g ct ca : Addr) (H4 : Hp) (ys : List Str) (ns : List Nat) (i : Nat) (σ : L2.St) (H : Hp) : Prop
  | mk (o6 o8 : Option V) (ls : List Addr) (css : List (List (Str × Nat))) (e0 : σ = [some (.ref a), some (.ref p), some (.ref wd), some (.ref g), some (.ref ct), some (.ref ca), o6, none, o8, none, none, none, none, none, none, none])
    (e1 : H ca = some (.lst (ls.map V.ref))) (e2 : ls.length = i) (e3 : CLs H4 H ls css) (e4 : PlOk ys ns css []) (e5 : BoxAt H p) (e6 : But p H4 H) (e7 : ca ∉ ls) (e8 : p ∉ ls) : L1 a p wd g ct ca H4 ys ns i σ H
theorem l1_ok {K : PySem.W.Frag} {D : Ends} {a p wd g ct ca : Addr} {H4 H : Hp} {ws : List Str} {N : Nat} {ns : List Nat} (Z : Bs H4 p wd g ct ws N ns) (nca : H4 ca = none) (np : ca ≠ p) (hca : H ca = some (.lst [])) (B : BoxAt H p) (k : But p H4 H)
    (q : ∀ σ' H', L1 a p wd g ct ca H4 (ws.take N) ns N σ' H' → D.nx σ' H') : tL1 K D [some (.ref a), some (.ref p), some (.ref wd), some (.ref g), some (.ref ct), some (.ref ca), none, none, none, none, none, none, none, none, none, none] H := by
  have ly := len_take Z.l14 Z.n8
  have n2 := Z.n2
  have n8 := Z.n8
  refine forE fun F kF => ⟨_, rfl, g, _, rfl, .inl (SqL.of (k _ _ Z.ng Z.hg)), _, rfl, by rw [List.length_map, ly]; omega, by rw [List.length_map, ly]; omega, kF _ _ ?_⟩
  clear kF
  have en : ((((ws.take N).map V.str).length : Nat) : Int).toNat = N := by rw [List.length_map, ly]; exact Int.toNat_natCast N
  rw [en]
  refine for_rangeE (lo := 0) (L1 a p wd g ct ca H4 (ws.take N) ns) ⟨none, none, [], [], rfl, hca, rfl, CLs.nil, ⟨fun k cs j c h => by simp at h, fun d h => absurd h List.not_mem_nil⟩, B, k, List.not_mem_nil, List.not_mem_nil⟩ ?_ q
  intro E _ i σ H1 hi fE Gq kq h
  obtain ⟨o6, o8, ls, css, rfl, h1, h2, h3, h4, B1, k1, nl, npl⟩ := h
  refine kq ?_
  clear kq q
  show tSeq (tSome K) (tCls K) E [some (.ref a), some (.ref p), some (.ref wd), some (.ref g), some (.ref ct), some (.ref ca), some (.int (0 + (i : Int))), none, o8, none, none, none, none, none, none, none] H1
  refine seqF fun F1 f1 => ?_
  refine some_ok B1 (k1 _ _ Z.ng Z.hg) Z.ng (by omega) (by omega) fun sl js H2 ns2 hs2 j1 j3 hj B2 k2 => f1 _ _ ?_
  clear f1
  have k12 := k1.trans k2
  have hca2 := k2 _ _ np h1
  refine cls_ok (k12 _ _ Z.ng Z.hg) (k12 _ _ Z.nc Z.hc) (by rw [Z.nl, ly]) Z.n6 hs2 j3 hj hca2 (by omega) fun l cs vs H3 s3 nl3 hcv hcl hr => ?_
  refine fE _ _ ?_
  clear fE
  have hca3 := s3 _ _ hca2
  have ncl : l ≠ ca := fun e => by rw [e, hca3] at nl3; cases nl3
  have tm : TMono H3 (upd (upd H3 l (.lst vs)) ca (.lst ((ls ++ [l]).map V.ref))) := fun b xs e => by
    rw [upd_ne (ne_of e hca3 (by intro z; cases z)), upd_ne (ne_of_none e nl3)]
    exact e
  have kp : ∀ b o, b ≠ p → b ≠ ca → H1 b = some o → upd (upd H3 l (.lst vs)) ca (.lst ((ls ++ [l]).map V.ref)) b = some o := fun b o n1 n2 e => by
    have e3 := s3 _ _ (k2 b o n1 e)
    rw [upd_ne n2, upd_ne (ne_of_none e3 nl3)]
    exact e3
  have k13 : But p H4 H3 := k12.trans (But.of_same s3)
  have l0 : H4 l = none := k13.none (B2.same s3) nl3
  have lnl : l ∉ ls := fun hm => by
    obtain ⟨m, hm⟩ := List.mem_iff_getElem?.mp hm
    obtain ⟨cs', vs', _, e2, _⟩ := h3.at' m l hm
    have := s3 _ _ (k2 l _ (fun e => npl (e ▸ List.mem_of_getElem? hm)) e2)
    rw [nl3] at this
    cases this
  have lp : l ≠ p := (B2.same s3).ne nl3
  refine ⟨_, _, ls ++ [l], css ++ [cs], rfl, upd_same, by rw [List.length_append, h2]; rfl, ?_, h4.snoc hr, ?_, ?_, ?_, ?_⟩
  · refine CLs.snoc (h3.keep (fun b hb o e => kp b o (fun e => npl (e ▸ hb)) (fun e => nl (e ▸ hb)) e) fun b xs e => tm _ _ (s3 _ _ (k2.tm B1 _ _ e))) l0 lnl ?_ (hcv.mono tm) (by omega) (by omega)
    rw [upd_ne ncl, upd_same]
  · exact (B2.same s3).eq (by rw [upd_ne (Ne.symm np), upd_ne (Ne.symm lp)])
  · exact (k13.upd_new nl3).upd_own nca
  · intro hm
    rcases List.mem_append.mp hm with hm | hm
    · exact nl hm
    · exact ncl (List.mem_singleton.mp hm).symm
  · intro hm
    rcases List.mem_append.mp hm with hm | hm
    · exact npl hm
    · exact lp (List.mem_singleton.mp hm).symm
end K9

set_option Elab.async false
set_option linter.all false
set_option maxRecDepth 100000
set_option maxHeartbeats 4000000
namespace K9
open PySem PySem.Spec PyProof.Rows L2
/-! ### the law: what is made wrong -/
noncomputable def rNot1 (K : PySem.W.Frag) : R2 := fun x y H Q => ∃ (a p : Addr) (zs : List Int), x = .ref a ∧ y = .ref p ∧ SqL K H a (zs.map V.int) ∧ ((SqL K H p [] ∧ Q (.bl true) H) ∨ ∃ (q : Addr) (l : List Int), q ≠ a ∧ SqL K H p [.ref q] ∧ SqL K H q (l.map V.int) ∧ Q (.bl (!decide (l = zs))) H)
noncomputable def tPl (K : PySem.W.Frag) : TE := tComp (iList K (tVar 9)) 1 [] (gName 0) tAll (tOp (rIxL K) (tVar 0) (tC (V.int 0)))
noncomputable def tTst (K : PySem.W.Frag) : TT := tTest (tOp (rNot1 K) (tLst (tCons (tVar 6) (tCons (tVar 7) tNil))) (tPl K))
noncomputable def tKs (K : PySem.W.Frag) : TS := tAsg (tCall spTake [] E0 (tCons (tVar 1) (tCons (tCB (rLenK K) (tCons (tVar 3) tNil)) tNil))) (gName 6)
noncomputable def tJs (K : PySem.W.Frag) : TS := tAsg (tCall spTake [] E0 (tCons (tVar 1) (tCons (tCB (rLenK K) (tCons (tOp (rIxL K) (tVar 5) (tVar 6)) tNil)) tNil))) (gName 7)
noncomputable def tWr (K : PySem.W.Frag) : TS := tAsg (tCall spWrong [] E0 (tCons (tVar 1) (tCons (tOp (rIxL K) (tOp (rIxL K) (tVar 5) (tVar 6)) (tVar 7)) (tCons (tVar 3) tNil)))) (gL2 K (gCons (gName 12) (gCons (gName 13) gNil)))
noncomputable def tSt (K : PySem.W.Frag) : TS := tAsg (tVar 12) (gSub (tOp (rIxL K) (tVar 5) (tVar 6)) (tVar 7) rSetL)
noncomputable def tAp (K : PySem.W.Frag) : TS := tDrop (tBM K "list" rAppend (tVar 9) (tCons (tLst (tCons (tLst (tCons (tVar 6) (tCons (tVar 7) tNil))) (tCons (tVar 13) tNil))) tNil))
noncomputable def tL2 (K : PySem.W.Frag) : TS := tFor (iRng1 (tCons (tCall spTake [] E0 (tCons (tVar 1) (tCons (tC (V.int 3)) tNil))) tNil)) (gName 10) (tSeq (tKs K) (tSeq (tJs K) (tMid (tIfS (tTst K) (tSeq (tWr K) (tSeq (tSt K) (tAp K))) tNext))))
theorem ixN_nat {n j : Nat} (h : j < n) : ixN n (j : Int) = some j := by
  unfold ixN
  rw [if_pos (by omega), if_pos (by omega)]
  rfl
theorem pl_ok {K : PySem.W.Frag} {H : Hp} {du : Addr} {xs qs : List Addr} {σ : L2.St} {Q : VK} (hσ : σ[9]? = some (some (.ref du))) (hd : H du = some (.lst (xs.map V.ref))) (l : xs.length = qs.length) (l2 : xs.length ≤ 2)
    (h : ∀ (i : Nat) (x : Addr), xs[i]? = some x → ∃ (q : Addr) (t : V), qs[i]? = some q ∧ H x = some (.lst [.ref q, t])) (q : ∀ r, H r = none → Q (.ref r) (upd H r (.lst (qs.map V.ref)))) : tPl K σ H Q := by
  have big : 100 ≤ sizeLine := by decide
  refine ⟨_, hσ, du, rfl, ⟨_, SqL.of hd⟩, ?_⟩
  refine compR_lst (K := K) (xs := xs.map V.ref) (by rw [List.length_map]; omega) (fun i vs H' => i ≤ xs.length ∧ H' = H ∧ vs = (qs.take i).map V.ref) ⟨Nat.zero_le _, rfl, rfl⟩ (fun i vs H' p => ?_) (fun i x vs H' hx p => ?_) (fun vs H' p r nr => ?_)
  · obtain ⟨_, rfl, rfl⟩ := p
    exact ⟨SqL.of hd, by rw [List.length_map, List.length_take]; omega⟩
  · obtain ⟨hi, rfl, rfl⟩ := p
    obtain ⟨y, e1, rfl⟩ := map_at hx
    obtain ⟨q', t, e2, e3⟩ := h i y e1
    refine ⟨_, rfl, y, _, 0, _, rfl, rfl, SqL.of e3, rfl, ?_, rfl, ?_⟩
    · rcases Nat.lt_or_ge i xs.length with z | z
      · exact z
      · rw [List.getElem?_eq_none z] at e1; cases e1
    · rw [List.take_add_one, e2, List.map_append]
      rfl
  · obtain ⟨_, rfl, rfl⟩ := p
    rw [List.length_map, l, List.take_length]
    exact q r nr
theorem DusV.snoc {L : List Addr} {H : Hp} {dd : List Du} {xs : List Addr} {d : Du} {x : Addr} (h : DusV L H dd xs) (l : dd.length ≤ 1) (hx : DuV L H d x) (n : ∀ e ∈ dd, e.1 ≠ d.1) : DusV L H (dd ++ [d]) (xs ++ [x]) := by
  cases h with
  | none => exact .one hx
  | one h => exact .two h hx (n _ (List.mem_singleton.mpr rfl))
  | two h g m => exact absurd l (by show ¬ 2 ≤ 1; omega)
theorem DusV.len {L : List Addr} {H : Hp} {dd : List Du} {xs : List Addr} (h : DusV L H dd xs) : xs.length = dd.length := by
  cases h <;> rfl
/-- the places of what is due, and whether one is among them -/
theorem tst_ok {K : PySem.W.Frag} {H : Hp} {du : Addr} {L xs : List Addr} {dd : List Du} {kk jj : Nat} {o0 o1 o2 o3 o4 o5 o8 o10 o11 o12 o13 o14 o15 : Option V} {F : Bool → Hp → Prop} (hd : H du = some (.lst (xs.map V.ref))) (D : DusV L H dd xs) (l1 : dd.length ≤ 1)
    (qT : ∀ H', Same H H' → (∀ d ∈ dd, d.1 ≠ (kk, jj)) → F true H') (qF : ∀ H', Same H H' → F false H') :
    tTst K [o0, o1, o2, o3, o4, o5, some (iV kk), some (iV jj), o8, some (.ref du), o10, o11, o12, o13, o14, o15] H F := by
  refine ⟨_, rfl, _, rfl, (by show 2 ≤ sizeLine; decide), fun z nz => ?_⟩
  have sz : Same H (upd H z (.lst [iV kk, iV jj])) := same_upd nz
  have hz : upd H z (.lst [iV kk, iV jj]) z = some (.lst [iV kk, iV jj]) := upd_same
  cases D with
  | none =>
    refine pl_ok (qs := []) rfl (sz _ _ hd) rfl (by decide) (fun i x h => by simp at h) fun r nr => ?_
    exact ⟨z, r, [(kk : Int), (jj : Int)], rfl, rfl, SqL.of (keepN hz nr), .inl ⟨SqL.of upd_same, _, rfl, qT _ (sz.trans (same_upd nr)) fun d h => absurd h List.not_mem_nil⟩⟩
  | one h =>
    rename_i d x
    obtain ⟨q, t, h1, h2, h3, h4, h5⟩ := h
    have nq : q ≠ z := ne_of_none h2 nz
    refine pl_ok (qs := [q]) rfl (sz _ _ hd) rfl (by show 1 ≤ 2; decide) (fun i y h => ?_) fun r nr => ?_
    · cases i with
      | zero => cases h; exact ⟨q, .ref t, rfl, sz _ _ h1⟩
      | succ i => simp at h
    · refine ⟨z, r, [(kk : Int), (jj : Int)], rfl, rfl, SqL.of (keepN hz nr), .inr ⟨q, [(d.1.1 : Int), (d.1.2 : Int)], nq, SqL.of upd_same, SqL.of (keepN (sz _ _ h2) nr), _, rfl, ?_⟩⟩
      by_cases e : ([(d.1.1 : Int), (d.1.2 : Int)] : List Int) = [(kk : Int), (jj : Int)]
      · rw [decide_eq_true e]
        exact qF _ (sz.trans (same_upd nr))
      · rw [decide_eq_false e]
        refine qT _ (sz.trans (same_upd nr)) fun d' hd' e' => e ?_
        rw [List.mem_singleton.mp hd'] at e'
        rw [e']
  | two h g n => exact absurd l1 (by show ¬ 2 ≤ 1; omega)
structure Ls (p ca du : Addr) (H4 : Hp) (ls : List Addr) : Prop where
  ca_p : ca ≠ p
  du_p : du ≠ p
  du_ca : du ≠ ca
  ca_l : ca ∉ ls
  p_l : p ∉ ls
  du_l : du ∉ ls
  ca0 : H4 ca = none
  du0 : H4 du = none
inductive I2 (a p wd g ct ca du : Addr) (H4 : Hp) (ys : List Str) (ns : List Nat) (ls : List Addr) (i : Nat) (σ : L2.St) (H : Hp) : Prop
  | mk (o6 o7 o8 o10 o12 o13 : Option V) (css : List (List (Str × Nat))) (dd : List Du) (xs : List Addr) (e0 : σ = [some (.ref a), some (.ref p), some (.ref wd), some (.ref g), some (.ref ct), some (.ref ca), o6, o7, o8, some (.ref du), o10, none, o12, o13, none, none])
    (e1 : H ca = some (.lst (ls.map V.ref))) (e3 : CLs H4 H ls css) (e4 : PlOk ys ns css dd) (e5 : BoxAt H p) (e6 : But p H4 H) (e7 : H du = some (.lst (xs.map V.ref))) (e8 : DusV (p :: du :: ca :: ls) H dd xs) (e9 : dd.length ≤ i) : I2 a p wd g ct ca du H4 ys ns ls i σ H
/-- a new thing is none of these -/
theorem new_not {p ca du : Addr} {H4 H : Hp} {ls : List Addr} {css : List (List (Str × Nat))} {vs us : List V} {z : Addr} (B : BoxAt H p) (h1 : H ca = some (.lst vs)) (h2 : H du = some (.lst us)) (h3 : CLs H4 H ls css) (nz : H z = none) : z ∉ p :: du :: ca :: ls := by
  intro hm
  rcases List.mem_cons.mp hm with e | hm
  · exact B.ne nz e
  · rcases List.mem_cons.mp hm with e | hm
    · rw [e, h2] at nz; cases nz
    · rcases List.mem_cons.mp hm with e | hm
      · rw [e, h1] at nz; cases nz
      · obtain ⟨m, hm⟩ := List.mem_iff_getElem?.mp hm
        obtain ⟨_, _, _, e2, _⟩ := h3.at' m z hm
        rw [nz] at e2
        cases e2
theorem But.out {p : Addr} {H H' : Hp} (k : But p H H') {L : List Addr} : ∀ b, b ∉ p :: L → ∀ o, H b = some o → H' b = some o := fun b nb o e => k b o (fun z => nb (z ▸ List.mem_cons_self ..)) e
theorem I2.but {p ca du : Addr} {H4 H H' : Hp} {ls : List Addr} {css : List (List (Str × Nat))} {dd : List Du} {xs : List Addr} (S : Ls p ca du H4 ls) (k : But p H H') (B : BoxAt H p)
    (e1 : H ca = some (.lst (ls.map V.ref))) (e3 : CLs H4 H ls css) (e7 : H du = some (.lst (xs.map V.ref))) (e8 : DusV (p :: du :: ca :: ls) H dd xs) :
    H' ca = some (.lst (ls.map V.ref)) ∧ CLs H4 H' ls css ∧ H' du = some (.lst (xs.map V.ref)) ∧ DusV (p :: du :: ca :: ls) H' dd xs :=
  ⟨k _ _ S.ca_p e1, e3.keep (fun b hb o e => k b o (fun z => S.p_l (z ▸ hb)) e) (k.tm B), k _ _ S.du_p e7, e8.keep k.out (k.tm B)⟩
theorem then_ok {K : PySem.W.Frag} {D : Ends} {a p wd g ct ca du : Addr} {H4 H : Hp} {ws : List Str} {N : Nat} {ns : List Nat} {ls : List Addr} {i kk jj : Nat} {o8 o10 o12 o13 : Option V} {css : List (List (Str × Nat))} {dd : List Du} {xs : List Addr} {l : Addr} {cs : List (Str × Nat)}
    (Z : Bs H4 p wd g ct ws N ns) (S : Ls p ca du H4 ls)
    (e1 : H ca = some (.lst (ls.map V.ref))) (e3 : CLs H4 H ls css) (e4 : PlOk (ws.take N) ns css dd) (e5 : BoxAt H p) (e6 : But p H4 H) (e7 : H du = some (.lst (xs.map V.ref))) (e8 : DusV (p :: du :: ca :: ls) H dd xs) (e9 : dd.length ≤ i) (i1 : i ≤ 1)
    (hl : ls[kk]? = some l) (hcs : css[kk]? = some cs) (hjj : jj < cs.length) (hno : ∀ d ∈ dd, d.1 ≠ (kk, jj))
    (q : ∀ σ' H', I2 a p wd g ct ca du H4 (ws.take N) ns ls (i + 1) σ' H' → D.nx σ' H') :
    tSeq (tWr K) (tSeq (tSt K) (tAp K)) D [some (.ref a), some (.ref p), some (.ref wd), some (.ref g), some (.ref ct), some (.ref ca), some (iV kk), some (iV jj), o8, some (.ref du), o10, none, o12, o13, none, none] H := by
  have ly := len_take Z.l14 Z.n8
  have n8 := Z.n8
  obtain ⟨cs', vs, f1, f2, f3, f4, f5⟩ := e3.at' kk l hl
  rw [hcs] at f1
  cases f1
  have hml : l ∈ ls := List.mem_of_getElem? hl
  have vl := f3.len
  obtain ⟨v, hv⟩ := some_at (xs := vs) (i := jj) (by omega)
  obtain ⟨c, hc, hcv⟩ := f3.at jj v hv
  have hR := e4.right kk cs jj c hcs hc hno
  have hy : c.1 ∈ ws.take N ∧ c.2 ∈ ns := by
    obtain ⟨j, h1, h2⟩ := hR
    exact ⟨List.mem_of_getElem? h1, List.mem_of_getElem? h2⟩
  have hyw := List.mem_of_mem_take hy.1
  have c6 := Z.n6 _ hy.2
  refine seqF fun F1 g1 => ?_
  refine ⟨_, rfl, _, rfl, _, rfl, ca, _, _, _, rfl, rfl, SqL.of e1, at_map hl, _, rfl, l, _, _, _, rfl, rfl, SqL.of f2, atI_nat hv, _, rfl, p, g, v, c, ws.take N, rfl, e5, hcv, e6 _ _ Z.ng Z.hg, by omega, Z.nd.2 _ hyw, Z.le _ hyw, by omega, ?_⟩
  intro r q' t c' w nm H6 nr hr hq ht hF B6 k6
  refine ⟨r, .ref q', .ref t, rfl, SqL.of hr, _, _, rfl, _, _, rfl, rfl, g1 _ _ ?_⟩
  clear g1
  obtain ⟨x1, x3, x7, x8⟩ := I2.but S k6 e5 e1 e3 e7 e8
  have x6 : But p H4 H6 := e6.trans k6
  have f26 : H6 l = some (.lst vs) := k6 _ _ (fun z => S.p_l (z ▸ hml)) f2
  have f36 : CallsV H6 cs vs := f3.mono (k6.tm e5)
  obtain ⟨v0, hbad, hv0⟩ := fault_bad hR hF
  rw [← hv0] at ht
  refine seqF fun F1 g1 => ?_
  refine ⟨_, rfl, _, rfl, _, rfl, ca, _, _, _, rfl, rfl, SqL.of x1, at_map hl, _, rfl, l, vs, _, jj, rfl, rfl, f26, ixN_nat (by omega), g1 _ _ ?_⟩
  clear g1
  have ncal : ca ≠ l := fun z => S.ca_l (z ▸ hml)
  have ndul : du ≠ l := fun z => S.du_l (z ▸ hml)
  have npl : p ≠ l := fun z => S.p_l (z ▸ hml)
  have t7 : TMono H6 (upd H6 l (.lst (vs.set jj (.ref q')))) := fun b ys e => by rw [upd_ne (ne_of e f26 (by intro z; cases z))]; exact e
  have y1 : upd H6 l (.lst (vs.set jj (.ref q'))) ca = some (.lst (ls.map V.ref)) := by rw [upd_ne ncal]; exact x1
  have y7 : upd H6 l (.lst (vs.set jj (.ref q'))) du = some (.lst (xs.map V.ref)) := by rw [upd_ne ndul]; exact x7
  have y5 : BoxAt (upd H6 l (.lst (vs.set jj (.ref q')))) p := B6.eq (upd_ne npl)
  have y6 : But p H4 (upd H6 l (.lst (vs.set jj (.ref q')))) := x6.upd_own (e3.fresh l hml)
  have y3 : CLs H4 (upd H6 l (.lst (vs.set jj (.ref q')))) ls (css.set kk (cs.set jj c')) := x3.set hl hcs f26 f36 t7 (fun b _ nb o e => by rw [upd_ne nb]; exact e) upd_same (hq.mono t7)
  have y8 : DusV (p :: du :: ca :: ls) (upd H6 l (.lst (vs.set jj (.ref q')))) dd xs := x8.keep (fun b nb o e => by rw [upd_ne (show b ≠ l from fun z => nb (by rw [z]; exact List.mem_cons_of_mem _ (List.mem_cons_of_mem _ (List.mem_cons_of_mem _ hml))))]; exact e) t7
  have yt := t7 _ _ ht
  generalize upd H6 l (.lst (vs.set jj (.ref q'))) = H7 at y1 y3 y5 y6 y7 y8 yt
  clear t7
  refine ⟨_, rfl, .inl ⟨rfl, _, SqL.of y7⟩, _, rfl, _, rfl, (by show 2 ≤ sizeLine; decide), fun z nz => ⟨_, rfl, (by show 2 ≤ sizeLine; decide), fun x nx => ?_⟩⟩
  have s9 : Same H7 (upd (upd H7 z (.lst [iV kk, iV jj])) x (.lst [.ref z, .ref t])) := (same_upd nz).trans (same_upd nx)
  have nz' := new_not y5 y1 y7 y3 nz
  have hx9 : upd (upd H7 z (.lst [iV kk, iV jj])) x (.lst [.ref z, .ref t]) x = some (.lst [.ref z, .ref t]) := upd_same
  have hz9 : upd (upd H7 z (.lst [iV kk, iV jj])) x (.lst [.ref z, .ref t]) z = some (.lst [iV kk, iV jj]) := keepN upd_same nx
  have nx7 : H7 x = none := by
    cases e : H7 x with
    | none => rfl
    | some o => rw [same_upd (o := .lst [iV kk, iV jj]) nz _ _ e] at nx; cases nx
  have nx' := new_not y5 y1 y7 y3 nx7
  generalize upd (upd H7 z (.lst [iV kk, iV jj])) x (.lst [.ref z, .ref t]) = H9 at s9 hx9 hz9
  have w7 := s9 _ _ y7
  have xl := e8.len
  have big : 100 ≤ sizeLine := by decide
  refine ⟨du, _, _, rfl, rfl, w7, by rw [List.length_map]; omega, ?_⟩
  have t10 : TMono H7 (upd H9 du (.lst (xs.map V.ref ++ [.ref x]))) := fun b ys e => by
    have e9 := s9 _ _ e
    rw [upd_ne (ne_of e9 w7 (by intro z; cases z))]
    exact e9
  have k10 : ∀ b, b ≠ du → ∀ o, H9 b = some o → upd H9 du (.lst (xs.map V.ref ++ [.ref x])) b = some o := fun b nb o e => by rw [upd_ne nb]; exact e
  have dm : du ∈ p :: du :: ca :: ls := List.mem_cons_of_mem _ (List.mem_cons_self ..)
  refine q _ _ ⟨_, _, _, _, _, _, css.set kk (cs.set jj c'), dd ++ [((kk, jj), v0)], xs ++ [x], rfl, k10 _ (Ne.symm S.du_ca) _ (s9 _ _ y1), ?_, e4.step hcs hjj hbad hno, ?_, ?_, ?_, ?_, by rw [List.length_append]; show dd.length + 1 ≤ i + 1; omega⟩
  · exact y3.keep (fun b hb o e => k10 b (fun z => S.du_l (z ▸ hb)) o (s9 _ _ e)) t10
  · exact (y5.same s9).eq (upd_ne (Ne.symm S.du_p))
  · exact (y6.trans (But.of_same s9)).upd_own S.du0
  · rw [List.map_append]; exact upd_same
  · refine DusV.snoc (y8.keep (fun b nb o e => k10 b (fun z => nb (z ▸ dm)) o (s9 _ _ e)) t10) (by omega) ⟨z, t, k10 _ (fun e => nx' (by rw [e]; exact dm)) _ hx9, k10 _ (fun e => nz' (by rw [e]; exact dm)) _ hz9, t10 _ _ yt, nx', nz'⟩ hno
theorem l2_ok {K : PySem.W.Frag} {D : Ends} {a p wd g ct ca du : Addr} {H4 H : Hp} {ws : List Str} {N : Nat} {ns : List Nat} {ls : List Addr} {o6 o8 : Option V} {css : List (List (Str × Nat))} (Z : Bs H4 p wd g ct ws N ns) (S : Ls p ca du H4 ls) (hN : ls.length = N)
    (e1 : H ca = some (.lst (ls.map V.ref))) (e3 : CLs H4 H ls css) (e4 : PlOk (ws.take N) ns css []) (e5 : BoxAt H p) (e6 : But p H4 H) (e7 : H du = some (.lst []))
    (q : ∀ i σ' H', i ≤ 2 → I2 a p wd g ct ca du H4 (ws.take N) ns ls i σ' H' → D.nx σ' H') :
    tL2 K D [some (.ref a), some (.ref p), some (.ref wd), some (.ref g), some (.ref ct), some (.ref ca), o6, none, o8, some (.ref du), none, none, none, none, none, none] H := by
  have ly := len_take Z.l14 Z.n8
  have n2 := Z.n2
  have n8 := Z.n8
  refine forE fun F kF => ⟨_, rfl, p, 3, rfl, e5, by decide, by decide, fun d H1 d0 d1 B1 h1 => ⟨_, rfl, by omega, by omega, kF _ _ ?_⟩⟩
  clear kF
  have k1 : But p H H1 := But.of_eq h1
  obtain ⟨y1, y3, y7, y8⟩ := I2.but (dd := []) (xs := []) S k1 e5 e1 e3 e7 .none
  refine for_rangeE (lo := 0) (I2 a p wd g ct ca du H4 (ws.take N) ns ls) ⟨_, _, _, _, _, _, css, [], [], rfl, y1, y3, e4, B1, e6.trans k1, y7, y8, Nat.zero_le _⟩ ?_ (fun σ' H' h => q _ σ' H' (by omega) h)
  clear y1 y3 y7 y8 e1 e3 e4 e5 e6 e7 k1 B1 h1 q
  intro E _ i σ H1 hi fE Gq kq h
  obtain ⟨o6, o7, o8, o10, o12, o13, css, dd, xs, rfl, e1, e3, e4, e5, e6, e7, e8, e9⟩ := h
  refine kq ?_
  clear kq
  show tSeq (tKs K) (tSeq (tJs K) (tMid (tIfS (tTst K) (tSeq (tWr K) (tSeq (tSt K) (tAp K))) tNext))) E [some (.ref a), some (.ref p), some (.ref wd), some (.ref g), some (.ref ct), some (.ref ca), o6, o7, o8, some (.ref du), some (.int (0 + (i : Int))), none, o12, o13, none, none] H1
  refine seqF fun F1 f1 => ⟨_, rfl, _, rfl, g, _, rfl, .inl (SqL.of (e6 _ _ Z.ng Z.hg)), p, _, rfl, e5, by rw [List.length_map, ly]; omega, by rw [List.length_map, ly]; omega, fun d2 H2 d20 d21 B2 h2 => f1 _ _ ?_⟩
  clear f1
  obtain ⟨kk, rfl⟩ : ∃ n : Nat, d2 = (n : Int) := ⟨d2.toNat, by omega⟩
  have hkk : kk < ls.length := by rw [List.length_map, ly] at d21; omega
  have k2 : But p H1 H2 := But.of_eq h2
  obtain ⟨y1, y3, y7, y8⟩ := I2.but S k2 e5 e1 e3 e7 e8
  have y6 := e6.trans k2
  clear e1 e3 e7 e8 e6 e5 h2 k2 d20 d21
  obtain ⟨l, hl⟩ := some_at hkk
  obtain ⟨cs, vs, g1, g2, g3, g4, g5⟩ := y3.at' kk l hl
  have vl := g3.len
  refine seqF fun F1 f1 => ⟨_, rfl, _, rfl, _, rfl, ca, _, _, _, rfl, rfl, SqL.of y1, at_map hl, l, _, rfl, .inl (SqL.of g2), p, _, rfl, B2, by omega, by omega, fun d3 H3 d30 d31 B3 h3 => f1 _ _ ?_⟩
  clear f1
  obtain ⟨jj, rfl⟩ : ∃ n : Nat, d3 = (n : Int) := ⟨d3.toNat, by omega⟩
  have hjj : jj < cs.length := by omega
  have k3 : But p H2 H3 := But.of_eq h3
  obtain ⟨z1, z3, z7, z8⟩ := I2.but S k3 B2 y1 y3 y7 y8
  have z6 := y6.trans k3
  clear y1 y3 y7 y8 y6 B2 h3 k3 g2 g3 vl
  refine midE (I2 a p wd g ct ca du H4 (ws.take N) ns ls (i + 1)) (fun E2 _ fm => ?_) fun σ' H7 hq' => fE _ _ hq'
  clear fE
  refine ifE fun F kT kF => ?_
  refine tst_ok z7 z8 (by omega) (fun H5 s5 hno => kT _ ?_) (fun H5 s5 => kF _ ?_)
  · clear kF kT
    obtain ⟨w1, w3, w7, w8⟩ := I2.but S (But.of_same s5) B3 z1 z3 z7 z8
    exact then_ok Z S w1 w3 e4 (B3.same s5) (z6.trans (But.of_same s5)) w7 w8 e9 (by omega) hl g1 hjj hno fm
  · clear kF kT
    obtain ⟨w1, w3, w7, w8⟩ := I2.but S (But.of_same s5) B3 z1 z3 z7 z8
    exact fm _ _ ⟨_, _, _, _, _, _, css, dd, xs, rfl, w1, w3, e4, B3.same s5, z6.trans (But.of_same s5), w7, w8, by omega⟩
end K9

set_option Elab.async false
set_option linter.all false
set_option maxRecDepth 100000
set_option maxHeartbeats 4000000
namespace K9
open PySem PySem.Spec PyProof.Rows L2
/-! ### the law: the program -/
noncomputable def tBo (K : PySem.W.Frag) : TS := tAsg (tCB (rTup K) (tCons (tComp (iList K (tOp (rIxL K) (tVar 5) (tVar 6))) 1 [1] (gName 0) tAll (tCall spWrap [] E0 (tCons (tVar 1) (tCons (tVar 0) tNil)))) tNil)) (gName 15)
noncomputable def tPr (K : PySem.W.Frag) : TS := tDrop (tBM K "list" rAppend (tVar 14) (tCons (tTup (tCons (tOp (rIxL K) (tVar 3) (tVar 6)) (tCons (tCB (rTup K) (tCons (tSl (rSlL K) (tVar 2) (tPart (tC (V.int 8))) (tPart (tOp (rI0 fun i j => V.int (i + j)) (tC (V.int 8)) (tOp (rIxL K) (tVar 4) (tVar 6))))) tNil)) (tCons (tVar 15) tNil)))) tNil))
noncomputable def tL3 (K : PySem.W.Frag) : TS := tFor (tLen3 K) (gName 6) (tSeq (tBo K) (tPr K))
theorem cut8 {ws : List Str} {m : Nat} (h : ws.length = 14) (h6 : m ≤ 6) : cutV (ws.map V.str) (some 8) (some (8 + (m : Int))) = ((ws.drop 8).take m).map V.str := by
  unfold cutV
  have e1 : (8 : Int) = ((8 : Nat) : Int) := rfl
  have e2 : (8 : Int) + (m : Int) = ((8 + m : Nat) : Int) := by omega
  rw [e2, e1, HT.sIx_nat, HT.sIx_nat, List.length_map, h]
  have e3 : min 8 14 = 8 := rfl
  have e4 : min (8 + m) 14 - 8 = m := by omega
  rw [e3, e4, ← List.map_drop, ← List.map_take]
theorem cutN {xs : List V} {k : Nat} (h : k ≤ xs.length) : cutV xs none (some (k : Int)) = xs.take k := by
  unfold cutV
  rw [HT.sIx_nat, HT.sIx_none]
  have e : min k xs.length = k := by omega
  rw [e]
  rfl
inductive WI (p : Addr) (cs : List (Str × Nat)) (H : Hp) (i : Nat) (us : List V) (H' : Hp) : Prop
  | mk (b : Bd) (e0 : BdV H' b us) (e1 : us.length = i) (e2 : b.calls = cs.take i) (e3 : b.size ≤ 11 * i) (e4 : BoxAt H' p) (e5 : But p H H') : WI p cs H i us H'
theorem bo_ok {K : PySem.W.Frag} {D : Ends} {H : Hp} {p ca l : Addr} {i : Nat} {ls : List Addr} {cs : List (Str × Nat)} {vs : List V} {o0 o2 o3 o4 o7 o8 o9 o10 o11 o12 o13 o14 o15 : Option V}
    (B : BoxAt H p) (h1 : H ca = some (.lst (ls.map V.ref))) (hl : ls[i]? = some l) (nl : l ≠ p) (h2 : H l = some (.lst vs)) (h3 : CallsV H cs vs) (c3 : cs.length ≤ 3)
    (q : ∀ (t : Addr) (b : Bd) (us : List V) (H' : Hp), H' t = some (.tup us) → BdV H' b us → b.calls = cs → b.size ≤ 33 → BoxAt H' p → But p H H' → D.nx [o0, some (.ref p), o2, o3, o4, some (.ref ca), some (iV i), o7, o8, o9, o10, o11, o12, o13, o14, some (.ref t)] H') :
    tBo K D [o0, some (.ref p), o2, o3, o4, some (.ref ca), some (iV i), o7, o8, o9, o10, o11, o12, o13, o14, o15] H := by
  have big : 100 ≤ sizeLine := by decide
  have vl := h3.len
  refine ⟨_, rfl, _, rfl, ca, _, _, _, rfl, rfl, SqL.of h1, at_map hl, l, rfl, ⟨_, SqL.of h2⟩, ?_⟩
  refine compR_lst (K := K) (xs := vs) (by omega) (WI p cs H) ⟨.nil, rfl, rfl, rfl, Nat.zero_le _, B, But.refl⟩ (fun i us H' h => ?_) (fun i x us H' hx h => ?_) (fun us H' h l2 nl2 => ?_)
  · obtain ⟨b, _, e1, _, _, _, k⟩ := h
    exact ⟨SqL.of (k _ _ nl h2), Nat.le_of_eq e1⟩
  · refine opq fun Gq kq => ?_
    obtain ⟨b, e0, e1, e2, e3, B1, k1⟩ := h
    obtain ⟨c, hc, p0, x0, t, ts, rfl, g1, g2, g3⟩ := h3.at i x hx
    refine kq ?_
    clear kq
    have tm := k1.tm B
    refine ⟨_, rfl, _, rfl, p, p0, .call c.1 c.2 .nil, rfl, B1, ⟨p0, x0, t, ts, [], rfl, tm _ _ g1, tm _ _ g2, g3, rfl⟩, fun v' b' H2 hb hcl hsz B2 k2 => ?_⟩
    refine ⟨b.app b', BdV.app hb (e0.mono (k2.tm B1)), by rw [List.length_append, e1]; rfl, ?_, ?_, B2, k1.trans k2⟩
    · rw [calls_app, hcl, e2, List.take_add_one, hc]
      rfl
    · rw [size_app]
      have : b'.size ≤ 0 + 1 + 10 := hsz
      omega
  · refine opq fun Gq kq => ?_
    obtain ⟨b, e0, e1, e2, e3, B1, k1⟩ := h
    refine kq ?_
    clear kq
    refine ⟨l2, us, rfl, .inl ⟨SqL.of upd_same, fun t nt => ?_⟩⟩
    have s : Same H' (upd (upd H' l2 (.lst us)) t (.tup us)) := (same_upd nl2).trans (same_upd nt)
    exact q t b us _ upd_same (e0.mono (Same.tm s)) (by rw [e2, vl, List.take_length]) (by omega) (B1.same s) (k1.trans (But.of_same s))
theorem pr_ok {K : PySem.W.Frag} {D : Ends} {H : Hp} {wd g ct pr bt : Addr} {ws ys : List Str} {ns : List Nat} {y : Str} {m i : Nat} {b : Bd} {bs us : List V} {o0 o1 o5 o7 o8 o9 o10 o11 o12 o13 : Option V}
    (hw : H wd = some (.lst (ws.map V.str))) (hg : H g = some (.lst (ys.map V.str))) (hc : H ct = some (.lst (ns.map iV))) (hy : ys[i]? = some y) (hm : ns[i]? = some m) (l14 : ws.length = 14) (m6 : m ≤ 6) (hb : H bt = some (.tup bs)) (hB : BdV H b bs)
    (hp : H pr = some (.lst us)) (u8 : us.length ≤ 8)
    (q : ∀ (r : Addr) (H' : Hp), Same H H' → DfV H' ⟨y, (ws.drop 8).take m, b⟩ (.ref r) → D.nx [o0, o1, some (.ref wd), some (.ref g), some (.ref ct), o5, some (iV i), o7, o8, o9, o10, o11, o12, o13, some (.ref pr), some (.ref bt)] (upd H' pr (.lst (us ++ [.ref r])))) :
    tPr K D [o0, o1, some (.ref wd), some (.ref g), some (.ref ct), o5, some (iV i), o7, o8, o9, o10, o11, o12, o13, some (.ref pr), some (.ref bt)] H := by
  have big : 100 ≤ sizeLine := by decide
  refine ⟨_, rfl, .inl ⟨rfl, _, SqL.of hp⟩, _, rfl, _, rfl, g, _, _, _, rfl, rfl, SqL.of hg, at_map hy, ?_⟩
  refine ⟨_, rfl, _, rfl, _, rfl, _, rfl, ct, _, _, _, rfl, rfl, SqL.of hc, at_map hm, _, _, rfl, rfl, _, rfl, wd, _, rfl, SqL.of hw, fun s ns => ?_⟩
  rw [cut8 l14 m6]
  refine ⟨s, _, rfl, .inl ⟨SqL.of upd_same, fun t nt => ⟨_, rfl, (by show 3 ≤ sizeLine; decide), fun r nr => ?_⟩⟩⟩
  have s1 : Same H (upd (upd (upd H s (.lst (((ws.drop 8).take m).map V.str))) t (.tup (((ws.drop 8).take m).map V.str))) r (.tup [.str y, .ref t, .ref bt])) := ((same_upd ns).trans (same_upd nt)).trans (same_upd nr)
  refine ⟨pr, us, _, rfl, rfl, s1 _ _ hp, by omega, q r _ s1 ⟨r, t, bt, bs, rfl, upd_same, keepN upd_same nr, s1 _ _ hb, hB.mono (Same.tm s1)⟩⟩
theorem Built.nil : Built [] [] [] [] := ⟨rfl, rfl, rfl, fun d h => absurd h List.not_mem_nil⟩
theorem Built.snoc {ys : List Str} {ns : List Nat} {css : List (List (Str × Nat))} {ds : List Df} {i : Nat} {d : Df} (h : Built (ys.take i) (ns.take i) (css.take i) ds) (h1 : ys[i]? = some d.f) (h2 : ns[i]? = some d.ps.length) (h3 : css[i]? = some d.b.calls) (h4 : d.ps.Nodup) :
    Built (ys.take (i + 1)) (ns.take (i + 1)) (css.take (i + 1)) (ds ++ [d]) := by
  refine ⟨?_, ?_, ?_, fun e he => ?_⟩
  · rw [List.map_append, h.f, List.take_add_one, h1]; rfl
  · rw [List.map_append, h.n, List.take_add_one, h2]; rfl
  · rw [List.map_append, h.c, List.take_add_one, h3]; rfl
  · rcases List.mem_append.mp he with he | he
    · exact h.p e he
    · rw [List.mem_singleton.mp he]; exact h4
structure Ps (p ca du pr : Addr) (H4 : Hp) (ls : List Addr) : Prop where
  pr_p : pr ≠ p
  pr_ca : pr ≠ ca
  pr_du : pr ≠ du
  pr_l : pr ∉ ls
  pr0 : H4 pr = none
inductive I3 (a p wd g ct ca du pr : Addr) (H4 : Hp) (ys : List Str) (ns : List Nat) (ls : List Addr) (css : List (List (Str × Nat))) (dd : List Du) (xs : List Addr) (o7 o8 o10 o12 o13 : Option V) (i : Nat) (σ : L2.St) (H : Hp) : Prop
  | mk (o6 o15 : Option V) (ds : List Df) (us : List V) (e0 : σ = [some (.ref a), some (.ref p), some (.ref wd), some (.ref g), some (.ref ct), some (.ref ca), o6, o7, o8, some (.ref du), o10, none, o12, o13, some (.ref pr), o15])
    (e1 : H ca = some (.lst (ls.map V.ref))) (e3 : CLs H4 H ls css) (e5 : BoxAt H p) (e6 : But p H4 H) (e7 : H du = some (.lst (xs.map V.ref))) (e8 : DusV [p, pr] H dd xs) (e9 : H pr = some (.lst us)) (e10 : DfsV H ds us) (e11 : ds.length = i)
    (e12 : Built (ys.take i) (ns.take i) (css.take i) ds) (e13 : ∀ d ∈ ds, d.ps.length ≤ 1000 ∧ d.b.size ≤ 10000000) : I3 a p wd g ct ca du pr H4 ys ns ls css dd xs o7 o8 o10 o12 o13 i σ H
theorem l3_ok {K : PySem.W.Frag} {D : Ends} {a p wd g ct ca du pr : Addr} {H4 H : Hp} {ws : List Str} {N : Nat} {ns : List Nat} {ls : List Addr} {css : List (List (Str × Nat))} {dd : List Du} {xs : List Addr} {o6 o7 o8 o10 o12 o13 : Option V} (Z : Bs H4 p wd g ct ws N ns) (S : Ls p ca du H4 ls) (T : Ps p ca du pr H4 ls) (hN : ls.length = N)
    (e1 : H ca = some (.lst (ls.map V.ref))) (e3 : CLs H4 H ls css) (e5 : BoxAt H p) (e6 : But p H4 H) (e7 : H du = some (.lst (xs.map V.ref))) (e8 : DusV [p, pr] H dd xs) (e9 : H pr = some (.lst []))
    (q : ∀ σ' H', I3 a p wd g ct ca du pr H4 (ws.take N) ns ls css dd xs o7 o8 o10 o12 o13 N σ' H' → D.nx σ' H') :
    tL3 K D [some (.ref a), some (.ref p), some (.ref wd), some (.ref g), some (.ref ct), some (.ref ca), o6, o7, o8, some (.ref du), o10, none, o12, o13, some (.ref pr), none] H := by
  have ly := len_take Z.l14 Z.n8
  have n2 := Z.n2
  have n8 := Z.n8
  refine forE fun F kF => ⟨_, rfl, g, _, rfl, .inl (SqL.of (e6 _ _ Z.ng Z.hg)), _, rfl, by rw [List.length_map, ly]; omega, by rw [List.length_map, ly]; omega, kF _ _ ?_⟩
  clear kF
  have en : ((((ws.take N).map V.str).length : Nat) : Int).toNat = N := by rw [List.length_map, ly]; exact Int.toNat_natCast N
  rw [en]
  refine for_rangeE (lo := 0) (I3 a p wd g ct ca du pr H4 (ws.take N) ns ls css dd xs o7 o8 o10 o12 o13) ⟨_, _, [], [], rfl, e1, e3, e5, e6, e7, e8, e9, rfl, rfl, Built.nil, fun d h => absurd h List.not_mem_nil⟩ ?_ q
  clear e1 e3 e5 e6 e7 e8 e9 q
  intro E _ i σ H1 hi fE Gq kq h
  obtain ⟨o6, o15, ds, us, rfl, e1, e3, e5, e6, e7, e8, e9, e10, e11, e12, e13⟩ := h
  refine kq ?_
  clear kq
  rw [Int.zero_add]
  show tSeq (tBo K) (tPr K) E [some (.ref a), some (.ref p), some (.ref wd), some (.ref g), some (.ref ct), some (.ref ca), some (iV i), o7, o8, some (.ref du), o10, none, o12, o13, some (.ref pr), o15] H1
  obtain ⟨l, hl⟩ := some_at (show i < ls.length by omega)
  obtain ⟨cs, vs, g1, g2, g3, g4, g5⟩ := e3.at' i l hl
  have hml : l ∈ ls := List.mem_of_getElem? hl
  obtain ⟨y, hy⟩ := some_at (show i < (ws.take N).length by omega)
  obtain ⟨m, hm⟩ := some_at (show i < ns.length by rw [Z.nl]; exact hi)
  have m6 := Z.n6 m (List.mem_of_getElem? hm)
  have ul := e10.len
  refine seqF fun F1 f1 => bo_ok e5 e1 hl (fun z => S.p_l (z ▸ hml)) g2 g3 g5 fun t b bs H2 ht hb hcl hsz B2 k2 => f1 _ _ ?_
  clear f1
  have k6 := e6.trans k2
  refine pr_ok (k6 _ _ Z.nw Z.hw) (k6 _ _ Z.ng Z.hg) (k6 _ _ Z.nc Z.hc) hy hm Z.l14 m6 ht hb (k2 _ _ T.pr_p e9) (by omega) fun r H3 s3 hD => fE _ _ ?_
  clear fE
  have w9 := s3 _ _ (k2 _ _ T.pr_p e9)
  have tm3 : TMono H3 (upd H3 pr (.lst (us ++ [.ref r]))) := fun b ys e => by rw [upd_ne (ne_of e w9 (by intro z; cases z))]; exact e
  have tm : TMono H1 (upd H3 pr (.lst (us ++ [.ref r]))) := fun b ys e => tm3 _ _ (s3 _ _ (k2.tm e5 _ _ e))
  have kk : ∀ b, b ≠ p → b ≠ pr → ∀ o, H1 b = some o → upd H3 pr (.lst (us ++ [.ref r])) b = some o := fun b n1 n2 o e => by rw [upd_ne n2]; exact s3 _ _ (k2 _ _ n1 e)
  refine ⟨_, _, ds ++ [⟨y, (ws.drop 8).take m, b⟩], us ++ [.ref r], rfl, kk _ S.ca_p (Ne.symm T.pr_ca) _ e1, ?_, ?_, ?_, kk _ S.du_p (Ne.symm T.pr_du) _ e7, ?_, upd_same, ?_, ?_, ?_, ?_⟩
  · exact e3.keep (fun b hb o e => kk b (fun z => S.p_l (z ▸ hb)) (fun z => T.pr_l (z ▸ hb)) o e) tm
  · exact (B2.same s3).eq (upd_ne (Ne.symm T.pr_p))
  · exact (k6.trans (But.of_same s3)).upd_own T.pr0
  · exact e8.keep (fun b nb o e => kk b (fun z => nb (by rw [z]; exact List.mem_cons_self ..)) (fun z => nb (by rw [z]; exact List.mem_cons_of_mem _ (List.mem_cons_self ..))) o e) tm
  · exact DfsV.snoc (hD.mono tm3) (e10.mono tm)
  · rw [List.length_append, e11]; rfl
  · have lp : ((ws.drop 8).take m).length = m := by rw [List.length_take, List.length_drop, Z.l14]; omega
    refine e12.snoc hy (by rw [hm]; show some m = some ((ws.drop 8).take m).length; rw [lp]) (by rw [g1]; show some cs = some b.calls; rw [hcl]) ?_
    exact List.Nodup.sublist ((List.take_sublist _ _).trans (List.drop_sublist _ _)) Z.nd.1
  · intro d hd
    rcases List.mem_append.mp hd with hd | hd
    · exact e13 d hd
    · rw [List.mem_singleton.mp hd]
      exact ⟨by show ((ws.drop 8).take m).length ≤ 1000; rw [List.length_take]; omega, by show b.size ≤ 10000000; omega⟩
end K9

set_option Elab.async false
set_option linter.all false
set_option maxRecDepth 100000
set_option maxHeartbeats 4000000
namespace K9
open PySem PySem.Spec PyProof.Rows L2
/-! ### the law: what is due, and what is said -/
noncomputable def rNeE : R2 := fun x y H Q => ∃ a b xs, x = .ref a ∧ y = .ref b ∧ H a = some (.lst xs) ∧ H b = some (.lst []) ∧ Q (.bl (!xs.isEmpty)) H
noncomputable def tFi (K : PySem.W.Frag) : TS := tAsg (tOp (rIxL K) (tOp (rIxL K) (tCB (rSort K) (tCons (tVar 9) tNil)) (tC (V.int 0))) (tC (V.int 1))) (gName 11)
noncomputable def tSo (K : PySem.W.Frag) : TS := tMid (tIfS (tTest (tOp rNeE (tVar 9) (tLst tNil))) (tFi K) tNext)
noncomputable def rEqT (K : PySem.W.Frag) : R2 := fun x y H Q => ∃ a b xs ys, x = .ref a ∧ y = .ref b ∧ SqT K H a xs ∧ SqT K H b ys ∧ xs.all flatV = true ∧ ys.all flatV = true ∧ Q (.bl (eqTs xs ys)) H
noncomputable def tSay (K : PySem.W.Frag) : TE := tOp (rEqT K) (tCall spSaid [] E0 (tCons (tCB (rTup K) (tCons (tVar 14) tNil)) tNil)) (tVar 11)
theorem say_ok {K : PySem.W.Frag} {H : Hp} {pr dt : Addr} {ds : List Df} {us : List V} {o0 o1 o2 o3 o4 o5 o6 o7 o8 o9 o10 o12 o13 o15 : Option V} {Q : VK} (hp : H pr = some (.lst us)) (hD : DfsV H ds us) (l8 : ds.length ≤ 8) (ok : ∀ d ∈ ds, d.ps.length ≤ 1000 ∧ d.b.size ≤ 10000000)
    (hd : H dt = some (.tup (vdV (verdict ds)))) (q : ∀ H', Kp H H' → Q (.bl true) H') : tSay K [o0, o1, o2, o3, o4, o5, o6, o7, o8, o9, o10, some (.ref dt), o12, o13, some (.ref pr), o15] H Q := by
  refine ⟨_, rfl, pr, us, rfl, .inl ⟨SqL.of hp, fun t nt => ?_⟩⟩
  have s : Same H (upd H t (.tup us)) := same_upd nt
  refine ⟨t, ds, us, rfl, upd_same, hD.mono (Same.tm s), by omega, ok, fun r H' hr k => ?_⟩
  refine ⟨_, rfl, r, dt, _, _, rfl, rfl, SqT.of hr, SqT.of (k _ _ rfl (s _ _ hd)), vd_flat _, vd_flat _, ?_⟩
  rw [vd_eq]
  exact q _ ((Kp.same s).trans k)
theorem fi_ok {K : PySem.W.Frag} {D : Ends} {H : Hp} {du : Addr} {L xs : List Addr} {dd : List Du} {v : Vd} {o0 o1 o2 o3 o4 o5 o6 o7 o8 o10 o11 o12 o13 o14 o15 : Option V} (hd : H du = some (.lst (xs.map V.ref))) (X : DusV L H dd xs) (ne : dd ≠ [])
    (hv : ∀ d ∈ dd, (∀ e ∈ dd, ¬ ltP e.1 d.1) → v = d.2)
    (q : ∀ (t : Addr) (H' : Hp), Same H H' → H' t = some (.tup (vdV v)) → D.nx [o0, o1, o2, o3, o4, o5, o6, o7, o8, some (.ref du), o10, some (.ref t), o12, o13, o14, o15] H') :
    tFi K D [o0, o1, o2, o3, o4, o5, o6, o7, o8, some (.ref du), o10, o11, o12, o13, o14, o15] H := by
  cases X with
  | none => exact absurd rfl ne
  | one h =>
    rename_i d x
    obtain ⟨p, t, h1, h2, h3, h4, h5⟩ := h
    refine ⟨_, rfl, du, rfl, .inl ⟨x, SqL.of hd, fun r nr => ?_⟩⟩
    have s : Same H (upd H r (.lst [.ref x])) := same_upd nr
    refine ⟨r, _, 0, _, rfl, rfl, SqL.of upd_same, rfl, x, _, 1, _, rfl, rfl, SqL.of (s _ _ h1), rfl, q t _ s ?_⟩
    rw [hv d (List.mem_singleton.mpr rfl) fun e he l => by
      rw [List.mem_singleton.mp he] at l
      rcases l with l | ⟨_, l⟩ <;> exact absurd l (Nat.lt_irrefl _)]
    exact s _ _ h3
  | two h g n =>
    rename_i d e x y
    obtain ⟨p, t, h1, h2, h3, h4, h5⟩ := h
    obtain ⟨p', t', g1, g2, g3, g4, g5⟩ := g
    have nn : (((e.1.1 : Int), (e.1.2 : Int)) : Int × Int) ≠ ((d.1.1 : Int), (d.1.2 : Int)) := fun z => n (by
      injection z with z1 z2
      exact Prod.ext (Int.ofNat.inj z1).symm (Int.ofNat.inj z2).symm)
    have np : p' ≠ p := fun z => by
      rw [z, h2] at g2
      injection g2 with g2
      injection g2 with g2
      injection g2 with z1 g2
      injection g2 with z2 g2
      injection z1 with z1
      injection z2 with z2
      exact nn (by rw [z1, z2])
    refine ⟨_, rfl, du, rfl, .inr ⟨x, y, p, p', _, _, _, _, _, _, SqL.of hd, SqL.of h1, SqL.of g1, SqL.of h2, SqL.of g2, nn, np, fun r nr => ?_⟩⟩
    have fst : ∀ (a b : Du), a ∈ [d, e] → (∀ c ∈ [d, e], c = a ∨ c = b) → ¬ ltP b.1 a.1 → v = a.2 := fun a b ha hc hb => hv a ha fun c hm l => by
      rcases hc c hm with z | z
      · rw [z] at l
        rcases l with l | ⟨_, l⟩ <;> exact absurd l (Nat.lt_irrefl _)
      · rw [z] at l; exact hb l
    by_cases hlt : lt2 ((e.1.1 : Int), (e.1.2 : Int)) ((d.1.1 : Int), (d.1.2 : Int)) = true
    · rw [if_pos hlt]
      have s : Same H (upd H r (.lst [.ref y, .ref x])) := same_upd nr
      refine ⟨r, _, 0, _, rfl, rfl, SqL.of upd_same, rfl, y, _, 1, _, rfl, rfl, SqL.of (s _ _ g1), rfl, q t' _ s ?_⟩
      rw [fst e d (by simp) (fun c hm => by simpa [or_comm] using hm) (fun l => by
        unfold lt2 at hlt
        rcases l with l | ⟨l1, l2⟩
        · split at hlt
          · rename_i z; have z' : ((e.1.1 : Nat) : Int) = (d.1.1 : Int) := z; omega
          · have := of_decide_eq_true hlt; have z' : ((e.1.1 : Nat) : Int) < (d.1.1 : Int) := this; omega
        · split at hlt
          · have := of_decide_eq_true hlt; have z' : ((e.1.2 : Nat) : Int) < (d.1.2 : Int) := this; omega
          · rename_i z; exact z (by show ((e.1.1 : Nat) : Int) = (d.1.1 : Int); omega))]
      exact s _ _ g3
    · rw [if_neg hlt]
      have s : Same H (upd H r (.lst [.ref x, .ref y])) := same_upd nr
      refine ⟨r, _, 0, _, rfl, rfl, SqL.of upd_same, rfl, x, _, 1, _, rfl, rfl, SqL.of (s _ _ h1), rfl, q t _ s ?_⟩
      rw [fst d e (by simp) (fun c hm => by simpa using hm) (fun l => hlt (by
        unfold lt2
        rcases l with l | ⟨l1, l2⟩
        · rw [if_neg (show ¬ ((e.1.1 : Nat) : Int) = (d.1.1 : Int) by omega)]
          exact decide_eq_true (show ((e.1.1 : Nat) : Int) < (d.1.1 : Int) by omega)
        · rw [if_pos (show ((e.1.1 : Nat) : Int) = (d.1.1 : Int) by omega)]
          exact decide_eq_true (show ((e.1.2 : Nat) : Int) < (d.1.2 : Int) by omega)))]
      exact s _ _ h3
theorem so_ok {K : PySem.W.Frag} {D : Ends} {H : Hp} {du dt : Addr} {L xs : List Addr} {dd : List Du} {v : Vd} {o0 o1 o2 o3 o4 o5 o6 o7 o8 o10 o12 o13 o14 o15 : Option V} (hd : H du = some (.lst (xs.map V.ref))) (X : DusV L H dd xs) (hdt : H dt = some (.tup (vdV .ok)))
    (h0 : dd = [] → v = .ok) (hv : ∀ d ∈ dd, (∀ e ∈ dd, ¬ ltP e.1 d.1) → v = d.2)
    (q : ∀ (t : Addr) (H' : Hp), Same H H' → H' t = some (.tup (vdV v)) → D.nx [o0, o1, o2, o3, o4, o5, o6, o7, o8, some (.ref du), o10, some (.ref t), o12, o13, o14, o15] H') :
    tSo K D [o0, o1, o2, o3, o4, o5, o6, o7, o8, some (.ref du), o10, some (.ref dt), o12, o13, o14, o15] H := by
  refine midE (fun σ' H' => ∃ t : Addr, σ' = [o0, o1, o2, o3, o4, o5, o6, o7, o8, some (.ref du), o10, some (.ref t), o12, o13, o14, o15] ∧ Same H H' ∧ H' t = some (.tup (vdV v))) (fun E2 _ fm => ?_) fun σ' H7 h => ?_
  · refine ifE fun F kT kF => ⟨_, rfl, (by show 0 ≤ sizeLine; decide), fun z nz => ?_⟩
    have s : Same H (upd H z (.lst [])) := same_upd nz
    refine ⟨du, z, _, rfl, rfl, s _ _ hd, upd_same, _, rfl, ?_⟩
    cases hxs : xs with
    | nil =>
      have e0 : dd = [] := by
        have := X.len
        rw [hxs] at this
        exact List.length_eq_zero_iff.mp this.symm
      refine kF _ (fm _ _ ⟨dt, rfl, s, ?_⟩)
      rw [h0 e0]
      exact s _ _ hdt
    | cons x0 r0 =>
      have ne : dd ≠ [] := fun e => by
        have := X.len
        rw [hxs, e] at this
        cases this
      refine kT _ (fi_ok (s _ _ hd) (X.keep (fun b _ o e => s _ _ e) (Same.tm s)) ne hv fun t H' s' ht => fm _ _ ⟨t, rfl, s.trans s', ht⟩)
  · obtain ⟨t, rfl, s, ht⟩ := h
    exact q t H7 s ht
end K9

set_option Elab.async false
set_option linter.all false
set_option maxRecDepth 100000
set_option maxHeartbeats 4000000
namespace K9
open PySem PySem.Spec PyProof.Rows L2
/-! ### the law -/
noncomputable def tCt (K : PySem.W.Frag) : TS := tAsg (tComp (iList K (tVar 3)) 1 [1] (gName 0) tAll (tCall spTake [] E0 (tCons (tVar 1) (tCons (tC (V.int 7)) tNil)))) (gName 4)
noncomputable def tEnd (K : PySem.W.Frag) : TS := tSeq (tAsg (tTup (tCons (tC (V.str "sound")) (tCons (tC (V.bl true)) tNil))) (gName 11)) (tSeq (tSo K) (tRet (tAndV (tSay K) (tSay K))))
noncomputable def tRest (K : PySem.W.Frag) : TS := tSeq (tAsg (tLst tNil) (gName 5)) (tSeq (tL1 K) (tSeq (tAsg (tLst tNil) (gName 9)) (tSeq (tL2 K) (tSeq (tAsg (tLst tNil) (gName 14)) (tSeq (tL3 K) (tEnd K))))))
noncomputable def tLaw (K : PySem.W.Frag) : TS := tSeq (tAsg (tCall (spBox K) [] E0 (tCons (tVar 0) (tCons (tC (V.int 0)) tNil))) (gName 1)) (tSeq (tAsg (tCall spNames [] E0 (tCons (tVar 1) (tCons (tC (V.int 14)) tNil))) (gName 2))
  (tSeq (tAsg (tSl (rSlL K) (tVar 2) tNoPart (tPart (tOp (rI0 fun i j => V.int (i + j)) (tC (V.int 2)) (tCall spTake [] E0 (tCons (tVar 1) (tCons (tC (V.int 7)) tNil)))))) (gName 3)) (tSeq (tCt K) (tRest K))))
theorem ct_ok {K : PySem.W.Frag} {D : Ends} {H : Hp} {p g : Addr} {ys : List Str} {o0 o2 o4 o5 o6 o7 o8 o9 o10 o11 o12 o13 o14 o15 : Option V} (B : BoxAt H p) (hg : H g = some (.lst (ys.map V.str))) (ng : g ≠ p) (n8 : ys.length ≤ 8)
    (q : ∀ (ct : Addr) (ns : List Nat) (H' : Hp), H' ct = some (.lst (ns.map iV)) → ct ≠ p → ns.length = ys.length → (∀ n ∈ ns, n ≤ 6) → BoxAt H' p → But p H H' → D.nx [o0, some (.ref p), o2, some (.ref g), some (.ref ct), o5, o6, o7, o8, o9, o10, o11, o12, o13, o14, o15] H') :
    tCt K D [o0, some (.ref p), o2, some (.ref g), o4, o5, o6, o7, o8, o9, o10, o11, o12, o13, o14, o15] H := by
  have big : 100 ≤ sizeLine := by decide
  refine ⟨_, rfl, g, rfl, ⟨_, SqL.of hg⟩, ?_⟩
  refine compR_lst (K := K) (xs := ys.map V.str) (by rw [List.length_map]; omega) (JI p 7 H) ⟨[], rfl, rfl, (fun _ h => absurd h List.not_mem_nil), B, But.refl⟩ (fun i vs H' h => ?_) (fun i x vs H' hx h => ?_) (fun vs H' h l nl => ?_)
  · obtain ⟨js, rfl, h1, _, _, k⟩ := h
    exact ⟨SqL.of (k _ _ ng hg), by rw [List.length_map, h1]; exact Nat.le_refl _⟩
  · refine opq fun Gq kq => ?_
    obtain ⟨js, rfl, h1, h2, B2, k2⟩ := h
    refine kq ?_
    clear kq
    refine ⟨_, rfl, p, 7, rfl, B2, by decide, by decide, fun e H3 e0 e1 B3 e3 => ⟨js ++ [e.toNat], ?_, by rw [List.length_append, h1]; rfl, fun j hj => ?_, B3, k2.trans (But.of_eq e3)⟩⟩
    · rw [List.map_append]
      show _ ++ [V.int e] = _ ++ [V.int ((e.toNat : Nat) : Int)]
      rw [Int.toNat_of_nonneg e0]
    · rcases List.mem_append.mp hj with hj | hj
      · exact h2 j hj
      · rw [List.mem_singleton.mp hj]
        omega
  · refine opq fun Gq kq => ?_
    obtain ⟨js, rfl, h1, h2, B2, k2⟩ := h
    refine kq ?_
    clear kq
    exact q l js _ upd_same (B2.ne nl) (by rw [h1, List.length_map]) (fun n hn => Nat.le_of_lt_succ (h2 n hn)) (B2.upd_new nl) (k2.upd_new nl)
theorem end_ok {K : PySem.W.Frag} {D : Ends} {a p wd g ct ca du pr : Addr} {H4 H : Hp} {ws : List Str} {N : Nat} {ns : List Nat} {ls : List Addr} {css : List (List (Str × Nat))} {dd : List Du} {xs : List Addr} {o7 o8 o10 o12 o13 : Option V} {σ : L2.St} (Z : Bs H4 p wd g ct ws N ns) (hN : ls.length = N) (P : PlOk (ws.take N) ns css dd)
    (h : I3 a p wd g ct ca du pr H4 (ws.take N) ns ls css dd xs o7 o8 o10 o12 o13 N σ H) (q : ∀ H', D.rt (.bl true) H') : tEnd K D σ H := by
  have ly := len_take Z.l14 Z.n8
  have n8 := Z.n8
  obtain ⟨o6, o15, ds, us, rfl, e1, e3, e5, e6, e7, e8, e9, e10, e11, e12, e13⟩ := h
  have cl := e3.len
  rw [List.take_of_length_le (Nat.le_of_eq ly), List.take_of_length_le (Nat.le_of_eq Z.nl), List.take_of_length_le (show css.length ≤ N by omega)] at e12
  have hnd : (ws.take N).Nodup := List.Nodup.sublist (List.take_sublist _ _) Z.nd.1
  refine seqF fun F1 f1 => ⟨(by show 2 ≤ sizeLine; decide), fun dt ndt => f1 _ _ ?_⟩
  clear f1
  have s : Same H (upd H dt (.tup [.str "sound", .bl true])) := same_upd ndt
  refine seqF fun F1 f1 => so_ok (v := verdict ds) (s _ _ e7) (e8.keep (fun b _ o e => s _ _ e) (Same.tm s)) upd_same (fun e => verdict_none e12 hnd (e ▸ P)) (fun d hd hf => verdict_first e12 hnd P hd hf) fun t H5 s5 ht => f1 _ _ ?_
  clear f1
  have s5 := s.trans s5
  refine say_ok (s5 _ _ e9) (e10.mono (Same.tm s5)) (by omega) e13 ht fun H6 k6 => ⟨_, rfl, iteT ?_⟩
  have k := (Kp.same s5).trans k6
  exact say_ok (k _ _ rfl e9) (e10.mono k.tm) (by omega) e13 (k6 _ _ rfl ht) fun H7 _ => q H7
theorem DuV.more {p pr : Addr} {L : List Addr} {H : Hp} {d : Du} {x : Addr} (h : DuV (p :: L) H d x) (n : H pr = none) : DuV [p, pr] H d x := by
  obtain ⟨q, t, h1, h2, h3, h4, h5⟩ := h
  have go : ∀ (b : Addr) (o : HO), H b = some o → b ∉ p :: L → b ∉ [p, pr] := fun b o e nb hm => by
    rcases List.mem_cons.mp hm with z | hm
    · exact nb (by rw [z]; exact List.mem_cons_self ..)
    · exact ne_of_none e n (List.mem_singleton.mp hm)
  exact ⟨q, t, h1, h2, h3, go _ _ h1 h4, go _ _ h2 h5⟩
theorem DusV.more {p pr : Addr} {L : List Addr} {H : Hp} {dd : List Du} {xs : List Addr} (h : DusV (p :: L) H dd xs) (n : H pr = Option.none) : DusV [p, pr] H dd xs := by
  cases h with
  | none => exact .none
  | one h => exact .one (h.more n)
  | two h g m => exact .two (h.more n) (g.more n) m
theorem CLs.same {H0 H H' : Hp} {ls : List Addr} {css : List (List (Str × Nat))} (h : CLs H0 H ls css) (s : Same H H') : CLs H0 H' ls css := h.keep (fun _ _ o e => s _ _ e) (Same.tm s)
theorem CLs.not {H0 H : Hp} {ls : List Addr} {css : List (List (Str × Nat))} {z : Addr} (h : CLs H0 H ls css) (n : H z = none) : z ∉ ls := fun hm => by
  obtain ⟨m, hm⟩ := List.mem_iff_getElem?.mp hm
  obtain ⟨_, _, _, e2, _⟩ := h.at' m z hm
  rw [n] at e2
  cases e2
theorem rest_ok {K : PySem.W.Frag} {D : Ends} {a p wd g ct : Addr} {H4 : Hp} {ws : List Str} {N : Nat} {ns : List Nat} (Z : Bs H4 p wd g ct ws N ns) (B : BoxAt H4 p) (q : ∀ H', D.rt (.bl true) H') :
    tRest K D [some (.ref a), some (.ref p), some (.ref wd), some (.ref g), some (.ref ct), none, none, none, none, none, none, none, none, none, none, none] H4 := by
  refine seqF fun F1 f1 => ⟨(by show 0 ≤ sizeLine; decide), fun ca nca => f1 _ _ ?_⟩
  clear f1
  refine seqF fun F1 f1 => l1_ok Z nca (B.ne nca) upd_same (B.upd_new nca) (But.refl.upd_new nca) fun σ' H1 h => f1 _ _ ?_
  clear f1
  obtain ⟨o6, o8, ls, css, rfl, e1, e2, e3, e4, e5, e6, e7, e8⟩ := h
  refine seqF fun F1 f1 => ⟨(by show 0 ≤ sizeLine; decide), fun du ndu => f1 _ _ ?_⟩
  clear f1
  have s1 : Same H1 (upd H1 du (.lst [])) := same_upd ndu
  have S : Ls p ca du H4 ls := ⟨B.ne nca, e5.ne ndu, fun z => (by rw [z, e1] at ndu; cases ndu), e7, e8, e3.not ndu, nca, e6.none e5 ndu⟩
  refine seqF fun F1 f1 => l2_ok Z S e2 (s1 _ _ e1) (e3.same s1) e4 (e5.same s1) (e6.trans (But.of_same s1)) upd_same fun i σ' H2 hi h => f1 _ _ ?_
  clear f1 e1 e3 e4 e5 e6 e7 e8 s1
  obtain ⟨o6, o7, o8, o10, o12, o13, css, dd, xs, rfl, e1, e3, e4, e5, e6, e7, e8, e9⟩ := h
  refine seqF fun F1 f1 => ⟨(by show 0 ≤ sizeLine; decide), fun pr npr => f1 _ _ ?_⟩
  clear f1
  have s1 : Same H2 (upd H2 pr (.lst [])) := same_upd npr
  have T : Ps p ca du pr H4 ls := ⟨e5.ne npr, fun z => (by rw [z, e1] at npr; cases npr), fun z => (by rw [z, e7] at npr; cases npr), e3.not npr, e6.none e5 npr⟩
  refine seqF fun F1 f1 => l3_ok Z S T e2 (s1 _ _ e1) (e3.same s1) (e5.same s1) (e6.trans (But.of_same s1)) (s1 _ _ e7) ((e8.more npr).keep (fun b _ o e => s1 _ _ e) (Same.tm s1)) upd_same fun σ' H3 h => f1 _ _ ?_
  exact end_ok Z e2 e4 h q
theorem law_ok {K : PySem.W.Frag} {D : Ends} {a : Addr} {zs : List Int} {H : Hp} (hS : SqL K H a (zs.map V.int)) (q : ∀ H', D.rt (.bl true) H') :
    tLaw K D [some (.ref a), none, none, none, none, none, none, none, none, none, none, none, none, none, none, none] H := by
  refine seqF fun F1 f1 => ⟨_, rfl, a, zs, 0, rfl, hS, by decide, by decide, fun p H1 np B1 e1 => f1 _ _ ?_⟩
  clear f1
  refine seqF fun F1 f1 => ⟨_, rfl, p, 14, rfl, B1, by decide, by decide, fun wd ws H2 nwd hw hl hle hnd B2 k2 => f1 _ _ ?_⟩
  clear f1
  have nw := B1.ne nwd
  have l14 : ws.length = 14 := by omega
  refine seqF fun F1 f1 => ⟨_, rfl, _, rfl, p, 7, rfl, B2, by decide, by decide, fun d H3 d0 d1 B3 e3 => ⟨_, _, rfl, rfl, _, rfl, wd, _, rfl, SqL.of ((But.of_eq e3 : But p H2 H3) _ _ nw hw), fun g ng => f1 _ _ ?_⟩⟩
  clear f1
  have k3 : But p H2 H3 := But.of_eq e3
  have hw3 := k3 _ _ nw hw
  obtain ⟨N, hN⟩ : ∃ N : Nat, 2 + d = (N : Int) := ⟨(2 + d).toNat, by omega⟩
  have n2 : 2 ≤ N := by omega
  have n8 : N ≤ 8 := by omega
  have ec : cutV (ws.map V.str) none (some (2 + d)) = (ws.take N).map V.str := by rw [hN, cutN (by rw [List.length_map]; omega), ← List.map_take]
  rw [ec]
  have s : Same H3 (upd H3 g (.lst ((ws.take N).map V.str))) := same_upd ng
  have nng := B3.ne ng
  have ly := len_take l14 n8
  refine seqF fun F1 f1 => ct_ok (B3.same s) upd_same nng (by omega) fun ct ns H5 hc nc hcl hn B5 k5 => f1 _ _ ?_
  exact rest_ok ⟨k5 _ _ nw (s _ _ hw3), k5 _ _ nng upd_same, hc, nw, nng, nc, l14, hnd, hle, n2, n8, by rw [hcl, ly], hn⟩ B5 q
section
variable {P : Program} {w : World} {K : PySem.W.Frag} {mg : Str → Option Value} {base : Heap}
theorem scLaw : FnScope ["_law_script", "_law_box_here", "_law_words", "_law_names_here", "_law_counts", "_law_calls", "_law_k", "_law_j", "_law_some", "_law_dues", "_law_turn", "_law_due", "_law_call", "_law_fault", "_law_program", "_law_body"] ["_law_script"] (defScope sLaw) := ⟨rfl, rfl, rfl, by decide +kernel, rfl, by decide +kernel, by decide +kernel⟩
noncomputable def scope_c1 : Scope := { kind := .function, names := [(".0", .local), ("_law_f", .local), ("_law_take", .globalImplicit), ("_law_box_here", .free)], isGenerator := false, isCoroutine := false }
theorem nd_c1 : (["_law_f", "_law_box_here"] : List Str).Nodup := by decide +kernel
theorem cs_c1 : CompSc ["_law_script", "_law_box_here", "_law_words", "_law_names_here", "_law_counts", "_law_calls", "_law_k", "_law_j", "_law_some", "_law_dues", "_law_turn", "_law_due", "_law_call", "_law_fault", "_law_program", "_law_body"] (defScope sLaw) scope_c1 ["_law_f", "_law_box_here"] 1 [1] := ⟨by decide +kernel, rfl, by decide +kernel, by decide +kernel, by decide +kernel, rfl, by decide +kernel⟩
noncomputable def scope_c2 : Scope := { kind := .function, names := [(".0", .local), ("_law_j", .local), ("_law_take", .globalImplicit), ("len", .globalImplicit), ("_law_box_here", .free), ("_law_names_here", .free)], isGenerator := false, isCoroutine := false }
theorem nd_c2 : (["_law_j", "_law_box_here", "_law_names_here"] : List Str).Nodup := by decide +kernel
theorem cs_c2 : CompSc ["_law_script", "_law_box_here", "_law_words", "_law_names_here", "_law_counts", "_law_calls", "_law_k", "_law_j", "_law_some", "_law_dues", "_law_turn", "_law_due", "_law_call", "_law_fault", "_law_program", "_law_body"] (defScope sLaw) scope_c2 ["_law_j", "_law_box_here", "_law_names_here"] 1 [1, 3] := ⟨by decide +kernel, rfl, by decide +kernel, by decide +kernel, by decide +kernel, rfl, by decide +kernel⟩
noncomputable def scope_c3 : Scope := { kind := .function, names := [(".0", .local), ("_law_j", .local), ("tuple", .globalImplicit), ("range", .globalImplicit), ("_law_counts", .free), ("_law_names_here", .free)], isGenerator := false, isCoroutine := false }
theorem nd_c3 : (["_law_j", "_law_counts", "_law_names_here"] : List Str).Nodup := by decide +kernel
theorem cs_c3 : CompSc ["_law_script", "_law_box_here", "_law_words", "_law_names_here", "_law_counts", "_law_calls", "_law_k", "_law_j", "_law_some", "_law_dues", "_law_turn", "_law_due", "_law_call", "_law_fault", "_law_program", "_law_body"] (defScope sLaw) scope_c3 ["_law_j", "_law_counts", "_law_names_here"] 1 [4, 3] := ⟨by decide +kernel, rfl, by decide +kernel, by decide +kernel, by decide +kernel, rfl, by decide +kernel⟩
noncomputable def scope_c4 : Scope := { kind := .function, names := [(".0", .local), ("_law_i", .local)], isGenerator := false, isCoroutine := false }
theorem nd_c4 : (["_law_i"] : List Str).Nodup := by decide +kernel
theorem cs_c4 {N : List Str} {sc : Scope} : CompSc N sc scope_c4 ["_law_i"] 1 [] := ⟨by decide +kernel, rfl, by decide +kernel, fun y hy e => (NameKind.noConfusion (((by decide +kernel : ∀ y ∈ scope_c4.names, y.2 = .local) y hy).symm.trans e) : False).elim, rfl, rfl, fun i hi => absurd hi List.not_mem_nil⟩
noncomputable def scope_c5 : Scope := { kind := .function, names := [(".0", .local), ("_law_due", .local)], isGenerator := false, isCoroutine := false }
theorem nd_c5 : (["_law_due"] : List Str).Nodup := by decide +kernel
theorem cs_c5 : CompSc ["_law_script", "_law_box_here", "_law_words", "_law_names_here", "_law_counts", "_law_calls", "_law_k", "_law_j", "_law_some", "_law_dues", "_law_turn", "_law_due", "_law_call", "_law_fault", "_law_program", "_law_body"] (defScope sLaw) scope_c5 ["_law_due"] 1 [] := ⟨by decide +kernel, rfl, by decide +kernel, by decide +kernel, by decide +kernel, rfl, by decide +kernel⟩
noncomputable def scope_c6 : Scope := { kind := .function, names := [(".0", .local), ("_law_call", .local), ("_law_wrapped", .globalImplicit), ("_law_box_here", .free)], isGenerator := false, isCoroutine := false }
theorem nd_c6 : (["_law_call", "_law_box_here"] : List Str).Nodup := by decide +kernel
theorem cs_c6 : CompSc ["_law_script", "_law_box_here", "_law_words", "_law_names_here", "_law_counts", "_law_calls", "_law_k", "_law_j", "_law_some", "_law_dues", "_law_turn", "_law_due", "_law_call", "_law_fault", "_law_program", "_law_body"] (defScope sLaw) scope_c6 ["_law_call", "_law_box_here"] 1 [1] := ⟨by decide +kernel, rfl, by decide +kernel, by decide +kernel, by decide +kernel, rfl, by decide +kernel⟩
theorem ok_law {f  : Addr} {fd  : FuncData} (F : Fun K "law" "law" sLaw f fd) (GT : FnOk P w K mg base CX0 1 fT fdT ["_law_box_here", "_law_wide"] spTake) (bT : Binds K fdT ["_law_box_here", "_law_wide"] []) (kT : PySem.W.keepIn K (.ref fT) = true) (mT : mg "_law_take" = some (.ref fT)) (GB : FnOk P w K mg base CX0 1 fB fdB ["_law_script", "_law_k"] (spBox K)) (bB : Binds K fdB ["_law_script", "_law_k"] []) (kB : PySem.W.keepIn K (.ref fB) = true) (mB : mg "_law_box" = some (.ref fB)) (GN : FnOk P w K mg base CX0 2 fN fdN ["_law_box_here", "_law_total"] spNames) (bN : Binds K fdN ["_law_box_here", "_law_total"] []) (kN : PySem.W.keepIn K (.ref fN) = true) (mN : mg "_law_names" = some (.ref fN)) (GW : FnOk P w K mg base CX0 2 fW fdW ["_law_box_here", "_law_one"] spWrap) (bW : Binds K fdW ["_law_box_here", "_law_one"] []) (kW : PySem.W.keepIn K (.ref fW) = true) (mW : mg "_law_wrapped" = some (.ref fW)) (GR : FnOk P w K mg base CX0 2 fR fdR ["_law_box_here", "_law_call", "_law_names_here"] spWrong) (bR : Binds K fdR ["_law_box_here", "_law_call", "_law_names_here"] []) (kR : PySem.W.keepIn K (.ref fR) = true) (mR : mg "_law_wrong" = some (.ref fR)) (GS : FnOk P w K mg base CX0 5 fS fdS ["_law_program"] spSaid) (bS : Binds K fdS ["_law_program"] []) (kS : PySem.W.keepIn K (.ref fS) = true) (mS : mg "_law_said" = some (.ref fS)) (mr : mg "range" = none) (ml : mg "len" = none) (mtu : mg "tuple" = none) (mso : mg "sorted" = none) : FnOk P w K mg base CX0 6 f fd ["_law_script"] (spLaw K) := by
  refine F.ok scLaw (fun vs H Q E h => ?_) (fun cdv A outer s H vs Q E hr h => ?_)
  · obtain ⟨a, ns, rfl, _⟩ := h
    rfl
  obtain ⟨a, zs, rfl, hS, h63, q⟩ := h
  refine ⟨_, (@pss_cons _ _ _ _ _ (@ps_set _ _ (1) _ _ _ _ scLaw.nd rfl (Or.inr rfl) (@pe_call _ _ _ _ _ _ _ _ _ _ _ _ _ _ _ _ GB (hr.mono (by decide)) rfl mB kB bB .nil pass0 (@pa_cons _ _ _ _ _ (@pv _ 0 _ _ (by rfl) (by first | exact Or.inl rfl | exact Or.inr (Or.inl rfl) | exact Or.inr (Or.inr rfl)) (by decide) (by decide)) (@pa_cons _ _ _ _ _ (@pe_int _ _ _ _) (@pa_nil _) (by rfl)) (by rfl)) (by decide) (by rfl) (by rfl)) (by rfl) (by first | exact .inl rfl | exact .inr rfl)) (@pss_cons _ _ _ _ _ (@ps_set _ _ (2) _ _ _ _ scLaw.nd rfl (Or.inl rfl) (@pe_call _ _ _ _ _ _ _ _ _ _ _ _ _ _ _ _ GN (hr.mono (by decide)) rfl mN kN bN .nil pass0 (@pa_cons _ _ _ _ _ (@pv _ 1 _ _ (by rfl) (by first | exact Or.inl rfl | exact Or.inr (Or.inl rfl) | exact Or.inr (Or.inr rfl)) (by decide) (by decide)) (@pa_cons _ _ _ _ _ (@pe_int _ _ _ _) (@pa_nil _) (by rfl)) (by rfl)) (by decide) (by rfl) (by rfl)) (by rfl) (by first | exact .inl rfl | exact .inr rfl)) (@pss_cons _ _ _ _ _ (@ps_set _ _ (3) _ _ _ _ scLaw.nd rfl (Or.inr rfl) (@pe_slice _ _ _ _ _ _ _ _ _ _ sl_list (@pv _ 2 _ _ (by rfl) (by first | exact Or.inl rfl | exact Or.inr (Or.inl rfl) | exact Or.inr (Or.inr rfl)) (by decide) (by decide)) (@po_none _) (@po_some _ _ _ (@pe_op _ _ _ _ _ _ _ _ op_add (@pe_int _ _ _ _) (@pe_call _ _ _ _ _ _ _ _ _ _ _ _ _ _ _ _ GT (hr.mono (by decide)) rfl mT kT bT .nil pass0 (@pa_cons _ _ _ _ _ (@pv _ 1 _ _ (by rfl) (by first | exact Or.inl rfl | exact Or.inr (Or.inl rfl) | exact Or.inr (Or.inr rfl)) (by decide) (by decide)) (@pa_cons _ _ _ _ _ (@pe_int _ _ _ _) (@pa_nil _) (by rfl)) (by rfl)) (by decide) (by rfl) (by rfl))))) (by rfl) (by first | exact .inl rfl | exact .inr rfl)) (@pss_cons _ _ _ _ _ (@ps_set _ _ (4) _ _ _ _ scLaw.nd rfl (Or.inr rfl) (@pe_comp _ _ _ _ _ _ _ (["_law_f", "_law_box_here"]) (1) ([1]) _ _ _ _ rfl (@pi_list _ _ _ _ (@pv _ 3 _ _ (by rfl) (by first | exact Or.inl rfl | exact Or.inr (Or.inl rfl) | exact Or.inr (Or.inr rfl)) (by decide) (by decide))) cs_c1 (fun _ _ _ _ _ => (@pg_name _ _ (0) _ nd_c1 rfl (Or.inl rfl) (by first | exact .inl rfl | exact .inr rfl))) (fun _ _ _ _ _ => (@pf_nil _)) (fun _ _ _ _ _ => (@pe_call _ _ _ _ _ _ _ _ _ _ _ _ _ _ _ _ GT (hr.mono (by decide)) rfl mT kT bT .nil pass0 (@pa_cons _ _ _ _ _ (@pv _ 1 _ _ (by rfl) (by first | exact Or.inl rfl | exact Or.inr (Or.inl rfl) | exact Or.inr (Or.inr rfl)) (by decide) (by decide)) (@pa_cons _ _ _ _ _ (@pe_int _ _ _ _) (@pa_nil _) (by rfl)) (by rfl)) (by decide) (by rfl) (by rfl))) (by intro _; rfl)) (by rfl) (by first | exact .inl rfl | exact .inr rfl)) (@pss_cons _ _ _ _ _ (@ps_set _ _ (5) _ _ _ _ scLaw.nd rfl (Or.inl rfl) (@pe_lst _ _ _ _ (@pa_nil _)) (by rfl) (by first | exact .inl rfl | exact .inr rfl)) (@pss_cons _ _ _ _ _ (@ps_for _ _ _ _ _ _ _ _ PassesOwn.never rfl (@pi_range1 _ _ _ _ _ _ rfl mr (@pa_cons _ _ _ _ _ (@pe_callB _ _ _ _ _ _ _ _ _ call_len_seq rfl ml PySem.boot_len (@pa_cons _ _ _ _ _ (@pv _ 3 _ _ (by rfl) (by first | exact Or.inl rfl | exact Or.inr (Or.inl rfl) | exact Or.inr (Or.inr rfl)) (by decide) (by decide)) (@pa_nil _) (by rfl)) (by decide) (by decide) (by rfl) (by rfl)) (@pa_nil _) (by rfl)) (by rfl)) (@pg_name _ _ (6) _ scLaw.nd rfl (Or.inl rfl) (by first | exact .inl rfl | exact .inr rfl)) (@pss_cons _ _ _ _ _ (@ps_setC _ _ _ _ _ _ _ _ _ _ (8) (["_law_j", "_law_box_here", "_law_names_here"]) (1) ([1, 3]) _ _ _ _ scLaw.nd rfl (Or.inl rfl) rfl (@pi_range1 _ _ _ _ _ _ rfl mr (@pa_cons _ _ _ _ _ (@pe_op _ _ _ _ _ _ _ _ op_add (@pe_int _ _ _ _) (@pe_call _ _ _ _ _ _ _ _ _ _ _ _ _ _ _ _ GT (hr.mono (by decide)) rfl mT kT bT .nil pass0 (@pa_cons _ _ _ _ _ (@pv _ 1 _ _ (by rfl) (by first | exact Or.inl rfl | exact Or.inr (Or.inl rfl) | exact Or.inr (Or.inr rfl)) (by decide) (by decide)) (@pa_cons _ _ _ _ _ (@pe_int _ _ _ _) (@pa_nil _) (by rfl)) (by rfl)) (by decide) (by rfl) (by rfl))) (@pa_nil _) (by rfl)) (by rfl)) cs_c2 (fun _ _ _ _ _ => (@pg_name _ _ (0) _ nd_c2 rfl (Or.inl rfl) (by first | exact .inl rfl | exact .inr rfl))) (fun _ _ _ _ _ => (@pf_nil _)) (fun _ _ _ _ _ => (@pe_call _ _ _ _ _ _ _ _ _ _ _ _ _ _ _ _ GT (hr.mono (by decide)) rfl mT kT bT .nil pass0 (@pa_cons _ _ _ _ _ (@pv _ 1 _ _ (by rfl) (by first | exact Or.inl rfl | exact Or.inr (Or.inl rfl) | exact Or.inr (Or.inr rfl)) (by decide) (by decide)) (@pa_cons _ _ _ _ _ (@pe_callB _ _ _ _ _ _ _ _ _ (call_lenK (K := K) rfl) rfl ml PySem.boot_len (@pa_cons _ _ _ _ _ (@pv _ 2 _ _ (by rfl) (by first | exact Or.inl rfl | exact Or.inr (Or.inl rfl) | exact Or.inr (Or.inr rfl)) (by decide) (by decide)) (@pa_nil _) (by rfl)) (by decide) (by decide) (by rfl) (by rfl)) (@pa_nil _) (by rfl)) (by rfl)) (by decide) (by rfl) (by rfl))) (by rfl) (by first | exact .inl rfl | exact .inr rfl) (by intro _; rfl)) (@pss_one _ _ _ (@ps_expr _ _ _ _ (@pe_bm _ _ _ _ _ _ _ _ _ _ _ _ PySem.F.plainAttrs_list PySem.F.slot_list_append PySem.F.type_list_append mt_append (@pv _ 5 _ _ (by rfl) (by first | exact Or.inl rfl | exact Or.inr (Or.inl rfl) | exact Or.inr (Or.inr rfl)) (by decide) (by decide)) (@pa_cons _ _ _ _ _ (@pe_comp _ _ _ _ _ _ _ (["_law_j", "_law_counts", "_law_names_here"]) (1) ([4, 3]) _ _ _ _ rfl (@pi_list _ _ _ _ (@pv _ 8 _ _ (by rfl) (by first | exact Or.inl rfl | exact Or.inr (Or.inl rfl) | exact Or.inr (Or.inr rfl)) (by decide) (by decide))) cs_c3 (fun _ _ _ _ _ => (@pg_name _ _ (0) _ nd_c3 rfl (Or.inl rfl) (by first | exact .inl rfl | exact .inr rfl))) (fun _ _ _ _ _ => (@pf_nil _)) (fun _ _ _ _ _ => (@pe_tup _ _ _ _ _ (@pa_cons _ _ _ _ _ (@pe_str _ _ _ _) (@pa_cons _ _ _ _ _ (@pe_str _ _ _ _) (@pa_cons _ _ _ _ _ (@pe_ix _ _ _ _ _ _ (rIxL K) ix_list (@pv _ 2 _ _ (by rfl) (by first | exact Or.inl rfl | exact Or.inr (Or.inl rfl) | exact Or.inr (Or.inr rfl)) (by decide) (by decide)) (@pv _ 0 _ _ (by rfl) (by first | exact Or.inl rfl | exact Or.inr (Or.inl rfl) | exact Or.inr (Or.inr rfl)) (by decide) (by decide)) (fun _ _ => rfl)) (@pa_cons _ _ _ _ _ (@pe_callTy _ _ _ _ _ _ _ _ _ (call_tupleK (K := K) rfl) rfl mtu PyProof.Rows.boot_tuple (@pa_cons _ _ _ _ _ (@pe_comp _ _ _ _ _ _ _ (["_law_i"]) (1) ([]) _ _ _ _ rfl (@pi_range1 _ _ _ _ _ _ rfl mr (@pa_cons _ _ _ _ _ (@pe_ix _ _ _ _ _ _ (rIxL K) ix_list (@pv _ 1 _ _ (by rfl) (by first | exact Or.inl rfl | exact Or.inr (Or.inl rfl) | exact Or.inr (Or.inr rfl)) (by decide) (by decide)) (@pv _ 0 _ _ (by rfl) (by first | exact Or.inl rfl | exact Or.inr (Or.inl rfl) | exact Or.inr (Or.inr rfl)) (by decide) (by decide)) (fun _ _ => rfl)) (@pa_nil _) (by rfl)) (by rfl)) cs_c4 (fun _ _ _ _ _ => (@pg_name _ _ (0) _ nd_c4 rfl (Or.inl rfl) (by first | exact .inl rfl | exact .inr rfl))) (fun _ _ _ _ _ => (@pf_nil _)) (fun _ _ _ _ _ => (@pe_tup _ _ _ _ _ (@pa_cons _ _ _ _ _ (@pe_str _ _ _ _) (@pa_cons _ _ _ _ _ (@pv _ 0 _ _ (by rfl) (by first | exact Or.inl rfl | exact Or.inr (Or.inl rfl) | exact Or.inr (Or.inr rfl)) (by decide) (by decide)) (@pa_nil _) (by rfl)) (by rfl)))) (by intro _; rfl)) (@pa_nil _) (by rfl)) (by decide) (by decide) (by rfl) (by rfl)) (@pa_nil _) (by rfl)) (by rfl)) (by rfl)) (by rfl)))) (by intro _; rfl)) (@pa_nil _) (by rfl)) (by rfl) (by rfl) (by rfl) (by rfl) (by rfl)) (by rfl)))) (by intro _; rfl)) (@pss_cons _ _ _ _ _ (@ps_set _ _ (9) _ _ _ _ scLaw.nd rfl (Or.inl rfl) (@pe_lst _ _ _ _ (@pa_nil _)) (by rfl) (by first | exact .inl rfl | exact .inr rfl)) (@pss_cons _ _ _ _ _ (@ps_for _ _ _ _ _ _ _ _ PassesOwn.never rfl (@pi_range1 _ _ _ _ _ _ rfl mr (@pa_cons _ _ _ _ _ (@pe_call _ _ _ _ _ _ _ _ _ _ _ _ _ _ _ _ GT (hr.mono (by decide)) rfl mT kT bT .nil pass0 (@pa_cons _ _ _ _ _ (@pv _ 1 _ _ (by rfl) (by first | exact Or.inl rfl | exact Or.inr (Or.inl rfl) | exact Or.inr (Or.inr rfl)) (by decide) (by decide)) (@pa_cons _ _ _ _ _ (@pe_int _ _ _ _) (@pa_nil _) (by rfl)) (by rfl)) (by decide) (by rfl) (by rfl)) (@pa_nil _) (by rfl)) (by rfl)) (@pg_name _ _ (10) _ scLaw.nd rfl (Or.inl rfl) (by first | exact .inl rfl | exact .inr rfl)) (@pss_cons _ _ _ _ _ (@ps_set _ _ (6) _ _ _ _ scLaw.nd rfl (Or.inl rfl) (@pe_call _ _ _ _ _ _ _ _ _ _ _ _ _ _ _ _ GT (hr.mono (by decide)) rfl mT kT bT .nil pass0 (@pa_cons _ _ _ _ _ (@pv _ 1 _ _ (by rfl) (by first | exact Or.inl rfl | exact Or.inr (Or.inl rfl) | exact Or.inr (Or.inr rfl)) (by decide) (by decide)) (@pa_cons _ _ _ _ _ (@pe_callB _ _ _ _ _ _ _ _ _ call_len_seq rfl ml PySem.boot_len (@pa_cons _ _ _ _ _ (@pv _ 3 _ _ (by rfl) (by first | exact Or.inl rfl | exact Or.inr (Or.inl rfl) | exact Or.inr (Or.inr rfl)) (by decide) (by decide)) (@pa_nil _) (by rfl)) (by decide) (by decide) (by rfl) (by rfl)) (@pa_nil _) (by rfl)) (by rfl)) (by decide) (by rfl) (by rfl)) (by rfl) (by first | exact .inl rfl | exact .inr rfl)) (@pss_cons _ _ _ _ _ (@ps_set _ _ (7) _ _ _ _ scLaw.nd rfl (Or.inl rfl) (@pe_call _ _ _ _ _ _ _ _ _ _ _ _ _ _ _ _ GT (hr.mono (by decide)) rfl mT kT bT .nil pass0 (@pa_cons _ _ _ _ _ (@pv _ 1 _ _ (by rfl) (by first | exact Or.inl rfl | exact Or.inr (Or.inl rfl) | exact Or.inr (Or.inr rfl)) (by decide) (by decide)) (@pa_cons _ _ _ _ _ (@pe_callB _ _ _ _ _ _ _ _ _ call_len_seq rfl ml PySem.boot_len (@pa_cons _ _ _ _ _ (@pe_ix _ _ _ _ _ _ _ ix_list (@pv _ 5 _ _ (by rfl) (by first | exact Or.inl rfl | exact Or.inr (Or.inl rfl) | exact Or.inr (Or.inr rfl)) (by decide) (by decide)) (@pv _ 6 _ _ (by rfl) (by first | exact Or.inl rfl | exact Or.inr (Or.inl rfl) | exact Or.inr (Or.inr rfl)) (by decide) (by decide)) (fun _ _ => rfl)) (@pa_nil _) (by rfl)) (by decide) (by decide) (by rfl) (by rfl)) (@pa_nil _) (by rfl)) (by rfl)) (by decide) (by rfl) (by rfl)) (by rfl) (by first | exact .inl rfl | exact .inr rfl)) (@pss_one _ _ _ (@ps_mid _ _ _ (@ps_if _ _ _ _ _ _ _ _ (@pt_cmpR _ _ _ _ _ _ _ _ (op_notIn1 (hu_of hr)) (@pe_lst _ _ _ _ (@pa_cons _ _ _ _ _ (@pv _ 6 _ _ (by rfl) (by first | exact Or.inl rfl | exact Or.inr (Or.inl rfl) | exact Or.inr (Or.inr rfl)) (by decide) (by decide)) (@pa_cons _ _ _ _ _ (@pv _ 7 _ _ (by rfl) (by first | exact Or.inl rfl | exact Or.inr (Or.inl rfl) | exact Or.inr (Or.inr rfl)) (by decide) (by decide)) (@pa_nil _) (by rfl)) (by rfl))) (@pe_comp _ _ _ _ _ _ _ (["_law_due"]) (1) ([]) _ _ _ _ rfl (@pi_list _ _ _ _ (@pv _ 9 _ _ (by rfl) (by first | exact Or.inl rfl | exact Or.inr (Or.inl rfl) | exact Or.inr (Or.inr rfl)) (by decide) (by decide))) cs_c5 (fun _ _ _ _ _ => (@pg_name _ _ (0) _ nd_c5 rfl (Or.inl rfl) (by first | exact .inl rfl | exact .inr rfl))) (fun _ _ _ _ _ => (@pf_nil _)) (fun _ _ _ _ _ => (@pe_ix _ _ _ _ _ _ (rIxL K) ix_list (@pv _ 0 _ _ (by rfl) (by first | exact Or.inl rfl | exact Or.inr (Or.inl rfl) | exact Or.inr (Or.inr rfl)) (by decide) (by decide)) (@pe_int _ _ _ _) (fun _ _ => rfl))) (by intro _; rfl)) rfl) (@pss_cons _ _ _ _ _ (@ps_asg _ _ _ _ _ _ (@pe_call _ _ _ _ _ _ _ _ _ _ _ _ _ _ _ _ GR (hr.mono (by decide)) rfl mR kR bR .nil pass0 (@pa_cons _ _ _ _ _ (@pv _ 1 _ _ (by rfl) (by first | exact Or.inl rfl | exact Or.inr (Or.inl rfl) | exact Or.inr (Or.inr rfl)) (by decide) (by decide)) (@pa_cons _ _ _ _ _ (@pe_ix _ _ _ _ _ _ _ ix_list (@pe_ix _ _ _ _ _ _ _ ix_list (@pv _ 5 _ _ (by rfl) (by first | exact Or.inl rfl | exact Or.inr (Or.inl rfl) | exact Or.inr (Or.inr rfl)) (by decide) (by decide)) (@pv _ 6 _ _ (by rfl) (by first | exact Or.inl rfl | exact Or.inr (Or.inl rfl) | exact Or.inr (Or.inr rfl)) (by decide) (by decide)) (fun _ _ => rfl)) (@pv _ 7 _ _ (by rfl) (by first | exact Or.inl rfl | exact Or.inr (Or.inl rfl) | exact Or.inr (Or.inr rfl)) (by decide) (by decide)) (fun _ _ => rfl)) (@pa_cons _ _ _ _ _ (@pv _ 3 _ _ (by rfl) (by first | exact Or.inl rfl | exact Or.inr (Or.inl rfl) | exact Or.inr (Or.inr rfl)) (by decide) (by decide)) (@pa_nil _) (by rfl)) (by rfl)) (by rfl)) (by decide) (by rfl) (by rfl)) (pg_lst2 rfl (@pgs_cons _ _ _ _ _ (@pg_name _ _ (12) _ scLaw.nd rfl (Or.inl rfl) (by first | exact .inl rfl | exact .inr rfl)) (@pgs_cons _ _ _ _ _ (@pg_name _ _ (13) _ scLaw.nd rfl (Or.inl rfl) (by first | exact .inl rfl | exact .inr rfl)) (@pgs_nil _) (by rfl)) (by rfl)) rfl rfl) (by rfl) (by rfl) (by rfl)) (@pss_cons _ _ _ _ _ (@ps_asg _ _ _ _ _ _ (@pv _ 12 _ _ (by rfl) (by first | exact Or.inl rfl | exact Or.inr (Or.inl rfl) | exact Or.inr (Or.inr rfl)) (by decide) (by decide)) (@pg_sub _ _ _ _ _ _ _ (@pe_ix _ _ _ _ _ _ _ ix_list (@pv _ 5 _ _ (by rfl) (by first | exact Or.inl rfl | exact Or.inr (Or.inl rfl) | exact Or.inr (Or.inr rfl)) (by decide) (by decide)) (@pv _ 6 _ _ (by rfl) (by first | exact Or.inl rfl | exact Or.inr (Or.inl rfl) | exact Or.inr (Or.inr rfl)) (by decide) (by decide)) (fun _ _ => rfl)) (@pv _ 7 _ _ (by rfl) (by first | exact Or.inl rfl | exact Or.inr (Or.inl rfl) | exact Or.inr (Or.inr rfl)) (by decide) (by decide)) set_list (by intro _; rfl)) (by rfl) (by rfl) (by rfl)) (@pss_one _ _ _ (@ps_expr _ _ _ _ (@pe_bm _ _ _ _ _ _ _ _ _ _ _ _ PySem.F.plainAttrs_list PySem.F.slot_list_append PySem.F.type_list_append mt_append (@pv _ 9 _ _ (by rfl) (by first | exact Or.inl rfl | exact Or.inr (Or.inl rfl) | exact Or.inr (Or.inr rfl)) (by decide) (by decide)) (@pa_cons _ _ _ _ _ (@pe_lst _ _ _ _ (@pa_cons _ _ _ _ _ (@pe_lst _ _ _ _ (@pa_cons _ _ _ _ _ (@pv _ 6 _ _ (by rfl) (by first | exact Or.inl rfl | exact Or.inr (Or.inl rfl) | exact Or.inr (Or.inr rfl)) (by decide) (by decide)) (@pa_cons _ _ _ _ _ (@pv _ 7 _ _ (by rfl) (by first | exact Or.inl rfl | exact Or.inr (Or.inl rfl) | exact Or.inr (Or.inr rfl)) (by decide) (by decide)) (@pa_nil _) (by rfl)) (by rfl))) (@pa_cons _ _ _ _ _ (@pv _ 13 _ _ (by rfl) (by first | exact Or.inl rfl | exact Or.inr (Or.inl rfl) | exact Or.inr (Or.inr rfl)) (by decide) (by decide)) (@pa_nil _) (by rfl)) (by rfl))) (@pa_nil _) (by rfl)) (by rfl) (by rfl) (by rfl) (by rfl) (by rfl)) (by rfl))))) (@pss_nil _)))))) (by intro _; rfl)) (@pss_cons _ _ _ _ _ (@ps_set _ _ (14) _ _ _ _ scLaw.nd rfl (Or.inl rfl) (@pe_lst _ _ _ _ (@pa_nil _)) (by rfl) (by first | exact .inl rfl | exact .inr rfl)) (@pss_cons _ _ _ _ _ (@ps_for _ _ _ _ _ _ _ _ PassesOwn.never rfl (@pi_range1 _ _ _ _ _ _ rfl mr (@pa_cons _ _ _ _ _ (@pe_callB _ _ _ _ _ _ _ _ _ call_len_seq rfl ml PySem.boot_len (@pa_cons _ _ _ _ _ (@pv _ 3 _ _ (by rfl) (by first | exact Or.inl rfl | exact Or.inr (Or.inl rfl) | exact Or.inr (Or.inr rfl)) (by decide) (by decide)) (@pa_nil _) (by rfl)) (by decide) (by decide) (by rfl) (by rfl)) (@pa_nil _) (by rfl)) (by rfl)) (@pg_name _ _ (6) _ scLaw.nd rfl (Or.inl rfl) (by first | exact .inl rfl | exact .inr rfl)) (@pss_cons _ _ _ _ _ (@ps_set _ _ (15) _ _ _ _ scLaw.nd rfl (Or.inl rfl) (@pe_callTy _ _ _ _ _ _ _ _ _ call_tuple_of rfl mtu PyProof.Rows.boot_tuple (@pa_cons _ _ _ _ _ (@pe_comp _ _ _ _ _ _ _ (["_law_call", "_law_box_here"]) (1) ([1]) _ _ _ _ rfl (@pi_list _ _ _ _ (@pe_ix _ _ _ _ _ _ _ ix_list (@pv _ 5 _ _ (by rfl) (by first | exact Or.inl rfl | exact Or.inr (Or.inl rfl) | exact Or.inr (Or.inr rfl)) (by decide) (by decide)) (@pv _ 6 _ _ (by rfl) (by first | exact Or.inl rfl | exact Or.inr (Or.inl rfl) | exact Or.inr (Or.inr rfl)) (by decide) (by decide)) (fun _ _ => rfl))) cs_c6 (fun _ _ _ _ _ => (@pg_name _ _ (0) _ nd_c6 rfl (Or.inl rfl) (by first | exact .inl rfl | exact .inr rfl))) (fun _ _ _ _ _ => (@pf_nil _)) (fun _ _ _ _ _ => (@pe_call _ _ _ _ _ _ _ _ _ _ _ _ _ _ _ _ GW (hr.mono (by decide)) rfl mW kW bW .nil pass0 (@pa_cons _ _ _ _ _ (@pv _ 1 _ _ (by rfl) (by first | exact Or.inl rfl | exact Or.inr (Or.inl rfl) | exact Or.inr (Or.inr rfl)) (by decide) (by decide)) (@pa_cons _ _ _ _ _ (@pv _ 0 _ _ (by rfl) (by first | exact Or.inl rfl | exact Or.inr (Or.inl rfl) | exact Or.inr (Or.inr rfl)) (by decide) (by decide)) (@pa_nil _) (by rfl)) (by rfl)) (by decide) (by rfl) (by rfl))) (by intro _; rfl)) (@pa_nil _) (by rfl)) (by decide) (by decide) (by rfl) (by rfl)) (by rfl) (by first | exact .inl rfl | exact .inr rfl)) (@pss_one _ _ _ (@ps_expr _ _ _ _ (@pe_bm _ _ _ _ _ _ _ _ _ _ _ _ PySem.F.plainAttrs_list PySem.F.slot_list_append PySem.F.type_list_append mt_append (@pv _ 14 _ _ (by rfl) (by first | exact Or.inl rfl | exact Or.inr (Or.inl rfl) | exact Or.inr (Or.inr rfl)) (by decide) (by decide)) (@pa_cons _ _ _ _ _ (@pe_tup _ _ _ _ _ (@pa_cons _ _ _ _ _ (@pe_ix _ _ _ _ _ _ _ ix_list (@pv _ 3 _ _ (by rfl) (by first | exact Or.inl rfl | exact Or.inr (Or.inl rfl) | exact Or.inr (Or.inr rfl)) (by decide) (by decide)) (@pv _ 6 _ _ (by rfl) (by first | exact Or.inl rfl | exact Or.inr (Or.inl rfl) | exact Or.inr (Or.inr rfl)) (by decide) (by decide)) (fun _ _ => rfl)) (@pa_cons _ _ _ _ _ (@pe_callTy _ _ _ _ _ _ _ _ _ call_tuple_of rfl mtu PyProof.Rows.boot_tuple (@pa_cons _ _ _ _ _ (@pe_slice _ _ _ _ _ _ _ _ _ _ sl_list (@pv _ 2 _ _ (by rfl) (by first | exact Or.inl rfl | exact Or.inr (Or.inl rfl) | exact Or.inr (Or.inr rfl)) (by decide) (by decide)) (@po_some _ _ _ (@pe_int _ _ _ _)) (@po_some _ _ _ (@pe_op _ _ _ _ _ _ _ _ op_add (@pe_int _ _ _ _) (@pe_ix _ _ _ _ _ _ _ ix_list (@pv _ 4 _ _ (by rfl) (by first | exact Or.inl rfl | exact Or.inr (Or.inl rfl) | exact Or.inr (Or.inr rfl)) (by decide) (by decide)) (@pv _ 6 _ _ (by rfl) (by first | exact Or.inl rfl | exact Or.inr (Or.inl rfl) | exact Or.inr (Or.inr rfl)) (by decide) (by decide)) (fun _ _ => rfl))))) (@pa_nil _) (by rfl)) (by decide) (by decide) (by rfl) (by rfl)) (@pa_cons _ _ _ _ _ (@pv _ 15 _ _ (by rfl) (by first | exact Or.inl rfl | exact Or.inr (Or.inl rfl) | exact Or.inr (Or.inr rfl)) (by decide) (by decide)) (@pa_nil _) (by rfl)) (by rfl)) (by rfl))) (@pa_nil _) (by rfl)) (by rfl) (by rfl) (by rfl) (by rfl) (by rfl)) (by rfl)))) (by intro _; rfl)) (@pss_cons _ _ _ _ _ (@ps_set _ _ (11) _ _ _ _ scLaw.nd rfl (Or.inl rfl) (@pe_tup _ _ _ _ _ (@pa_cons _ _ _ _ _ (@pe_str _ _ _ _) (@pa_cons _ _ _ _ _ (@pe_bl _ _ _ _) (@pa_nil _) (by rfl)) (by rfl))) (by rfl) (by first | exact .inl rfl | exact .inr rfl)) (@pss_cons _ _ _ _ _ (@ps_mid _ _ _ (@ps_if _ _ _ _ _ _ _ _ (@pt_cmpR _ _ _ _ _ _ _ _ (op_neE (Nat.lt_of_succ_lt (hu_of hr))) (@pv _ 9 _ _ (by rfl) (by first | exact Or.inl rfl | exact Or.inr (Or.inl rfl) | exact Or.inr (Or.inr rfl)) (by decide) (by decide)) (@pe_lst _ _ _ _ (@pa_nil _)) (@nomark _ _ (by decide) (by decide))) (@pss_one _ _ _ (@ps_set _ _ (11) _ _ _ _ scLaw.nd rfl (Or.inl rfl) (@pe_ix _ _ _ _ _ _ _ ix_list (@pe_ix _ _ _ _ _ _ _ ix_list (@pe_callB _ _ _ _ _ _ _ _ _ (call_sortedD hr.units) rfl mso PyProof.Rows.boot_sorted (@pa_cons _ _ _ _ _ (@pv _ 9 _ _ (by rfl) (by first | exact Or.inl rfl | exact Or.inr (Or.inl rfl) | exact Or.inr (Or.inr rfl)) (by decide) (by decide)) (@pa_nil _) (by rfl)) (by decide) (by decide) (by rfl) (by rfl)) (@pe_int _ _ _ _) (fun _ _ => rfl)) (@pe_int _ _ _ _) (fun _ _ => rfl)) (by rfl) (by first | exact .inl rfl | exact .inr rfl))) (@pss_nil _))) (@pss_one _ _ _ (@ps_ret _ _ _ _ (@pe_and _ _ _ _ _ _ _ (@pe_cmpR _ _ _ _ _ _ _ _ (op_eqT (Nat.lt_of_succ_lt (hu_of hr))) (@pe_call _ _ _ _ _ _ _ _ _ _ _ _ _ _ _ _ GS hr rfl mS kS bS .nil pass0 (@pa_cons _ _ _ _ _ (@pe_callTy _ _ _ _ _ _ _ _ _ call_tuple_of rfl mtu PyProof.Rows.boot_tuple (@pa_cons _ _ _ _ _ (@pv _ 14 _ _ (by rfl) (by first | exact Or.inl rfl | exact Or.inr (Or.inl rfl) | exact Or.inr (Or.inr rfl)) (by decide) (by decide)) (@pa_nil _) (by rfl)) (by decide) (by decide) (by rfl) (by rfl)) (@pa_nil _) (by rfl)) (by decide) (by rfl) (by rfl)) (@pv _ 11 _ _ (by rfl) (by first | exact Or.inl rfl | exact Or.inr (Or.inl rfl) | exact Or.inr (Or.inr rfl)) (by decide) (by decide)) (@nomark _ _ (by decide) (by decide))) (@pe_one _ _ _ _ _ (@pe_cmpR _ _ _ _ _ _ _ _ (op_eqT (Nat.lt_of_succ_lt (hu_of hr))) (@pe_call _ _ _ _ _ _ _ _ _ _ _ _ _ _ _ _ GS hr rfl mS kS bS .nil pass0 (@pa_cons _ _ _ _ _ (@pe_callTy _ _ _ _ _ _ _ _ _ call_tuple_of rfl mtu PyProof.Rows.boot_tuple (@pa_cons _ _ _ _ _ (@pv _ 14 _ _ (by rfl) (by first | exact Or.inl rfl | exact Or.inr (Or.inl rfl) | exact Or.inr (Or.inr rfl)) (by decide) (by decide)) (@pa_nil _) (by rfl)) (by decide) (by decide) (by rfl) (by rfl)) (@pa_nil _) (by rfl)) (by decide) (by rfl) (by rfl)) (@pv _ 11 _ _ (by rfl) (by first | exact Or.inl rfl | exact Or.inr (Or.inl rfl) | exact Or.inr (Or.inr rfl)) (by decide) (by decide)) (@nomark _ _ (by decide) (by decide))))))))))))))))))), ?_⟩
  try dsimp only [cxOf, Cx.nox, Cx.wish]
  exact law_ok hS q
end
end K9

set_option Elab.async false
set_option linter.all false
set_option maxRecDepth 100000
set_option maxHeartbeats 4000000
namespace K9
open PySem PySem.Spec PyProof.Rows L2
theorem cls_of {K : PySem.W.Frag} {C : Addr} {oc : Value} {od : Option Addr} {cd : ClassData} {sl : Array (Option Value)} (e : K.lookup C = some ⟨oc, od, .cls cd, sl⟩) : PySem.W.clsIn K C = some cd := by unfold PySem.W.clsIn; rw [e]
theorem tail_B {K : PySem.W.Frag} {B : Addr} (e : PySem.W.excIn K B bmVE "ValueError.__new__" = true) : PySem.W.tailIn K bmVE (.ref B :: bmVE) = true := by
  obtain ⟨nm, q, N, bs, bm, hdct, sn, sub, ab, col, dd, k0, k1, k2, k3, k5, hK, hT, hok, hni⟩ := exc_parts e
  have h1 : PySem.W.tailIn K bmVE bmVE = true := by unfold PySem.W.tailIn; simp
  unfold PySem.W.tailIn
  dsimp only
  rw [hK]
  simp only [hok, hni, h1, beq_self_eq_true, Bool.and_self, Bool.or_true]
theorem all_mk {l : PySem.W.OpenLaw} {w : World} {K : PySem.W.Frag} {h : Heap} {mg : Str → Option Value} {fa fTw fBi fCi fRc fSo fBx fTk fNm fRf fSa fWa fWr fZ : Addr} (X : K.In h) (G : h.Ns mainGlobals mg) (hfa : mg "law" = some (.ref fa))
    {odTw anTw odBi anBi odCi anCi odRc anRc odSo anSo odBx anBx odTk anTk odNm anNm odRf anRf odSa anSa odWa anWa odWr anWr odZ anZ : Option Addr} {slTw slBi slCi slRc slSo slBx slTk slNm slRf slSa slWa slWr slZ : Array (Option Value)} {ocTw kVTw dcTw pmTw cdTw ctTw ocBi kVBi dcBi pmBi cdBi ctBi ocCi kVCi dcCi pmCi cdCi ctCi ocRc kVRc dcRc pmRc cdRc ctRc ocSo kVSo dcSo pmSo cdSo ctSo ocBx kVBx dcBx pmBx cdBx ctBx ocTk kVTk dcTk pmTk cdTk ctTk ocNm kVNm dcNm pmNm cdNm ctNm ocRf kVRf dcRf pmRf cdRf ctRf ocSa kVSa dcSa pmSa cdSa ctSa ocWa kVWa dcWa pmWa cdWa ctWa ocWr kVWr dcWr pmWr cdWr ctWr ocZ kVZ dcZ pmZ cdZ ctZ : Value}
    (aTw : PySem.W.nsIn K mainGlobals "refuse_twice" = some (some (.ref fTw))) (lTw : K.lookup fTw = some ⟨ocTw, odTw, .func (PySem.W.fnOf "refuse_twice" "refuse_twice" (defArgs sTwice) (defBody sTwice) (defScope sTwice) .none kVTw dcTw pmTw anTw cdTw ctTw), slTw⟩) (cTw : PySem.W.codeIn K cdTw "refuse_twice" = true) (kTw : PySem.W.keepIn K (.ref fTw) = true)
    (aBi : PySem.W.nsIn K mainGlobals "bodies_in" = some (some (.ref fBi))) (lBi : K.lookup fBi = some ⟨ocBi, odBi, .func (PySem.W.fnOf "bodies_in" "bodies_in" (defArgs sBodies) (defBody sBodies) (defScope sBodies) .none kVBi dcBi pmBi anBi cdBi ctBi), slBi⟩) (cBi : PySem.W.codeIn K cdBi "bodies_in" = true) (kBi : PySem.W.keepIn K (.ref fBi) = true)
    (aCi : PySem.W.nsIn K mainGlobals "calls_in" = some (some (.ref fCi))) (lCi : K.lookup fCi = some ⟨ocCi, odCi, .func (PySem.W.fnOf "calls_in" "calls_in" (defArgs sCallsIn) (defBody sCallsIn) (defScope sCallsIn) .none kVCi dcCi pmCi anCi cdCi ctCi), slCi⟩) (cCi : PySem.W.codeIn K cdCi "calls_in" = true) (kCi : PySem.W.keepIn K (.ref fCi) = true)
    (aRc : PySem.W.nsIn K mainGlobals "refuse_call" = some (some (.ref fRc))) (lRc : K.lookup fRc = some ⟨ocRc, odRc, .func (PySem.W.fnOf "refuse_call" "refuse_call" (defArgs sRefCall) (defBody sRefCall) (defScope sRefCall) .none kVRc dcRc pmRc anRc cdRc ctRc), slRc⟩) (cRc : PySem.W.codeIn K cdRc "refuse_call" = true) (kRc : PySem.W.keepIn K (.ref fRc) = true)
    (aSo : PySem.W.nsIn K mainGlobals "sound" = some (some (.ref fSo))) (lSo : K.lookup fSo = some ⟨ocSo, odSo, .func (PySem.W.fnOf "sound" "sound" (defArgs sSound) (defBody sSound) (defScope sSound) .none kVSo dcSo pmSo anSo cdSo ctSo), slSo⟩) (cSo : PySem.W.codeIn K cdSo "sound" = true) (kSo : PySem.W.keepIn K (.ref fSo) = true)
    (aBx : PySem.W.nsIn K mainGlobals "_law_box" = some (some (.ref fBx))) (lBx : K.lookup fBx = some ⟨ocBx, odBx, .func (PySem.W.fnOf "_law_box" "_law_box" (defArgs sBox) (defBody sBox) (defScope sBox) .none kVBx dcBx pmBx anBx cdBx ctBx), slBx⟩) (cBx : PySem.W.codeIn K cdBx "_law_box" = true) (kBx : PySem.W.keepIn K (.ref fBx) = true)
    (aTk : PySem.W.nsIn K mainGlobals "_law_take" = some (some (.ref fTk))) (lTk : K.lookup fTk = some ⟨ocTk, odTk, .func (PySem.W.fnOf "_law_take" "_law_take" (defArgs sTake) (defBody sTake) (defScope sTake) .none kVTk dcTk pmTk anTk cdTk ctTk), slTk⟩) (cTk : PySem.W.codeIn K cdTk "_law_take" = true) (kTk : PySem.W.keepIn K (.ref fTk) = true)
    (aNm : PySem.W.nsIn K mainGlobals "_law_names" = some (some (.ref fNm))) (lNm : K.lookup fNm = some ⟨ocNm, odNm, .func (PySem.W.fnOf "_law_names" "_law_names" (defArgs sNames) (defBody sNames) (defScope sNames) .none kVNm dcNm pmNm anNm cdNm ctNm), slNm⟩) (cNm : PySem.W.codeIn K cdNm "_law_names" = true) (kNm : PySem.W.keepIn K (.ref fNm) = true)
    (aRf : PySem.W.nsIn K mainGlobals "_law_refused" = some (some (.ref fRf))) (lRf : K.lookup fRf = some ⟨ocRf, odRf, .func (PySem.W.fnOf "_law_refused" "_law_refused" (defArgs sRefused) (defBody sRefused) (defScope sRefused) .none kVRf dcRf pmRf anRf cdRf ctRf), slRf⟩) (cRf : PySem.W.codeIn K cdRf "_law_refused" = true) (kRf : PySem.W.keepIn K (.ref fRf) = true)
    (aSa : PySem.W.nsIn K mainGlobals "_law_said" = some (some (.ref fSa))) (lSa : K.lookup fSa = some ⟨ocSa, odSa, .func (PySem.W.fnOf "_law_said" "_law_said" (defArgs sSaid) (defBody sSaid) (defScope sSaid) .none kVSa dcSa pmSa anSa cdSa ctSa), slSa⟩) (cSa : PySem.W.codeIn K cdSa "_law_said" = true) (kSa : PySem.W.keepIn K (.ref fSa) = true)
    (aWa : PySem.W.nsIn K mainGlobals "_law_wrapped" = some (some (.ref fWa))) (lWa : K.lookup fWa = some ⟨ocWa, odWa, .func (PySem.W.fnOf "_law_wrapped" "_law_wrapped" (defArgs sWrap) (defBody sWrap) (defScope sWrap) .none kVWa dcWa pmWa anWa cdWa ctWa), slWa⟩) (cWa : PySem.W.codeIn K cdWa "_law_wrapped" = true) (kWa : PySem.W.keepIn K (.ref fWa) = true)
    (aWr : PySem.W.nsIn K mainGlobals "_law_wrong" = some (some (.ref fWr))) (lWr : K.lookup fWr = some ⟨ocWr, odWr, .func (PySem.W.fnOf "_law_wrong" "_law_wrong" (defArgs sWrong) (defBody sWrong) (defScope sWrong) .none kVWr dcWr pmWr anWr cdWr ctWr), slWr⟩) (cWr : PySem.W.codeIn K cdWr "_law_wrong" = true) (kWr : PySem.W.keepIn K (.ref fWr) = true)
    (aZ : PySem.W.nsIn K mainGlobals "law" = some (some (.ref fZ))) (lZ : K.lookup fZ = some ⟨ocZ, odZ, .func (PySem.W.fnOf "law" "law" (defArgs sLaw) (defBody sLaw) (defScope sLaw) .none kVZ dcZ pmZ anZ cdZ ctZ), slZ⟩) (cZ : PySem.W.codeIn K cdZ "law" = true) (kZ : PySem.W.keepIn K (.ref fZ) = true)
    {clsT clsW clsN clsC clsL clsD clsS clsR clsE : Addr}
    (vT : PySem.W.nsIn K mainGlobals "NoText" = some (some (.ref clsT)))
    (vW : PySem.W.nsIn K mainGlobals "Twice" = some (some (.ref clsW)))
    (vN : PySem.W.nsIn K mainGlobals "NoName" = some (some (.ref clsN)))
    (vC : PySem.W.nsIn K mainGlobals "NoCount" = some (some (.ref clsC)))
    (vL : PySem.W.nsIn K mainGlobals "TooLong" = some (some (.ref clsL)))
    (vD : PySem.W.nsIn K mainGlobals "TooDeep" = some (some (.ref clsD)))
    (vS : PySem.W.nsIn K mainGlobals "NoStep" = some (some (.ref clsS)))
    (vR : PySem.W.nsIn K mainGlobals "NoRow" = some (some (.ref clsR)))
    (vE : PySem.W.nsIn K mainGlobals "BookError" = some (some (.ref clsE)))
    (excE : PySem.W.excIn K clsE bmVE "ValueError.__new__" = true)
    (tpE : PySem.W.typeIn K (.ref clsE) = some (.type "type")) (mbE : PySem.W.mroIn K clsE (.type "BaseException") = some true)
    (sgt : PySem.W.specialIn K (.builtin "object.__class__") "__get__" = some (some (.builtin "getset_descriptor.__get__"))) (stk : PySem.W.takesIn K (.builtin "object.__class__") = some true)
    (gaW : PySem.W.findIn K (.ref clsW) "__getattribute__" = some (some (.builtin "BaseException.__getattribute__"))) (ghW : PySem.W.findIn K (.ref clsW) "__getattr__" = some none) (saW : PySem.W.findIn K (.ref clsW) "__setattr__" = some (some (.builtin "object.__setattr__"))) (clW : PySem.W.findIn K (.ref clsW) "__class__" = some (some (.builtin "object.__class__"))) (mbW : PySem.W.mroIn K clsW (.type "BaseException") = some true) (moW : PySem.W.mroIn K clsW (.type "object") = some true) (hdW : PySem.W.hasDictIn K clsW = true) (kpW : PySem.W.keepIn K (.ref clsW) = true) (meW : PySem.W.mroIn K clsW (.ref clsE) = some true) (tpW : PySem.W.typeIn K (.ref clsW) = some (.type "type"))
    (gaN : PySem.W.findIn K (.ref clsN) "__getattribute__" = some (some (.builtin "BaseException.__getattribute__"))) (ghN : PySem.W.findIn K (.ref clsN) "__getattr__" = some none) (saN : PySem.W.findIn K (.ref clsN) "__setattr__" = some (some (.builtin "object.__setattr__"))) (clN : PySem.W.findIn K (.ref clsN) "__class__" = some (some (.builtin "object.__class__"))) (mbN : PySem.W.mroIn K clsN (.type "BaseException") = some true) (moN : PySem.W.mroIn K clsN (.type "object") = some true) (hdN : PySem.W.hasDictIn K clsN = true) (kpN : PySem.W.keepIn K (.ref clsN) = true) (meN : PySem.W.mroIn K clsN (.ref clsE) = some true) (tpN : PySem.W.typeIn K (.ref clsN) = some (.type "type"))
    (gaC : PySem.W.findIn K (.ref clsC) "__getattribute__" = some (some (.builtin "BaseException.__getattribute__"))) (ghC : PySem.W.findIn K (.ref clsC) "__getattr__" = some none) (saC : PySem.W.findIn K (.ref clsC) "__setattr__" = some (some (.builtin "object.__setattr__"))) (clC : PySem.W.findIn K (.ref clsC) "__class__" = some (some (.builtin "object.__class__"))) (mbC : PySem.W.mroIn K clsC (.type "BaseException") = some true) (moC : PySem.W.mroIn K clsC (.type "object") = some true) (hdC : PySem.W.hasDictIn K clsC = true) (kpC : PySem.W.keepIn K (.ref clsC) = true) (meC : PySem.W.mroIn K clsC (.ref clsE) = some true) (tpC : PySem.W.typeIn K (.ref clsC) = some (.type "type"))
    {nmW qnW : Str} {nsAW : Addr} {bsW subW : List Value} {snW : List Str} {abW : Bool} {colW : Option Bool} {ddW : Option Addr} {k0W k1W k2W k3W k5W : Option Value} {fIW : Addr} {odIW anIW : Option Addr} {slIW : Array (Option Value)} {ocIW kVIW dcIW pmIW cdIW ctIW : Value}
    (obW : K.lookup clsW = some (excClassObj nmW qnW clsW nsAW bsW (.ref clsE :: bmVE) true snW subW abW colW ddW k0W k1W k2W k3W k5W "ValueError.__new__"))
    (inW : PySem.W.findIn K (.ref clsW) "__init__" = some (some (.ref fIW))) (fnW : PySem.W.isFn K (.ref fIW) = true) (lIW : K.lookup fIW = some ⟨ocIW, odIW, .func (PySem.W.fnOf "__init__" "Twice.__init__" (defArgs sInitW) (defBody sInitW) (defScope sInitW) .none kVIW dcIW pmIW anIW cdIW ctIW), slIW⟩) (cIW : PySem.W.codeIn K cdIW "Twice.__init__" = true) (kIW : PySem.W.keepIn K (.ref fIW) = true) (noW : PySem.W.findIn K (.ref clsW) "name" = some none) (caW : PySem.W.specialIn K (.ref clsW) "__call__" = some (some (.builtin "type.__call__"))) (tyW : PySem.W.instIn K (.ref clsW) (.type "type") = some true)
    {nmN qnN : Str} {nsAN : Addr} {bsN subN : List Value} {snN : List Str} {abN : Bool} {colN : Option Bool} {ddN : Option Addr} {k0N k1N k2N k3N k5N : Option Value} {fIN : Addr} {odIN anIN : Option Addr} {slIN : Array (Option Value)} {ocIN kVIN dcIN pmIN cdIN ctIN : Value}
    (obN : K.lookup clsN = some (excClassObj nmN qnN clsN nsAN bsN (.ref clsE :: bmVE) true snN subN abN colN ddN k0N k1N k2N k3N k5N "ValueError.__new__"))
    (inN : PySem.W.findIn K (.ref clsN) "__init__" = some (some (.ref fIN))) (fnN : PySem.W.isFn K (.ref fIN) = true) (lIN : K.lookup fIN = some ⟨ocIN, odIN, .func (PySem.W.fnOf "__init__" "NoName.__init__" (defArgs sInitN) (defBody sInitN) (defScope sInitN) .none kVIN dcIN pmIN anIN cdIN ctIN), slIN⟩) (cIN : PySem.W.codeIn K cdIN "NoName.__init__" = true) (kIN : PySem.W.keepIn K (.ref fIN) = true) (noN : PySem.W.findIn K (.ref clsN) "name" = some none) (caN : PySem.W.specialIn K (.ref clsN) "__call__" = some (some (.builtin "type.__call__"))) (tyN : PySem.W.instIn K (.ref clsN) (.type "type") = some true)
    {nmC qnC : Str} {nsAC : Addr} {bsC subC : List Value} {snC : List Str} {abC : Bool} {colC : Option Bool} {ddC : Option Addr} {k0C k1C k2C k3C k5C : Option Value} {fIC : Addr} {odIC anIC : Option Addr} {slIC : Array (Option Value)} {ocIC kVIC dcIC pmIC cdIC ctIC : Value}
    (obC : K.lookup clsC = some (excClassObj nmC qnC clsC nsAC bsC (.ref clsE :: bmVE) true snC subC abC colC ddC k0C k1C k2C k3C k5C "ValueError.__new__"))
    (inC : PySem.W.findIn K (.ref clsC) "__init__" = some (some (.ref fIC))) (fnC : PySem.W.isFn K (.ref fIC) = true) (lIC : K.lookup fIC = some ⟨ocIC, odIC, .func (PySem.W.fnOf "__init__" "NoCount.__init__" (defArgs sInitC) (defBody sInitC) (defScope sInitC) .none kVIC dcIC pmIC anIC cdIC ctIC), slIC⟩) (cIC : PySem.W.codeIn K cdIC "NoCount.__init__" = true) (kIC : PySem.W.keepIn K (.ref fIC) = true) (noC : PySem.W.findIn K (.ref clsC) "name" = some none) (caC : PySem.W.specialIn K (.ref clsC) "__call__" = some (some (.builtin "type.__call__"))) (tyC : PySem.W.instIn K (.ref clsC) (.type "type") = some true)
    (zlen : PySem.W.nsIn K mainGlobals "len" = some none)
    (zint : PySem.W.nsIn K mainGlobals "int" = some none)
    (zrange : PySem.W.nsIn K mainGlobals "range" = some none)
    (zlist : PySem.W.nsIn K mainGlobals "list" = some none)
    (zreversed : PySem.W.nsIn K mainGlobals "reversed" = some none)
    (zdict : PySem.W.nsIn K mainGlobals "dict" = some none)
    (zisinstance : PySem.W.nsIn K mainGlobals "isinstance" = some none)
    (zValueError : PySem.W.nsIn K mainGlobals "ValueError" = some none)
    (ztuple : PySem.W.nsIn K mainGlobals "tuple" = some none)
    (zsorted : PySem.W.nsIn K mainGlobals "sorted" = some none)
    (yWW : PySem.W.kitOne K (.ref clsW) (.ref clsW) = some true)
    (yWN : PySem.W.kitOne K (.ref clsW) (.ref clsN) = some false)
    (yWC : PySem.W.kitOne K (.ref clsW) (.ref clsC) = some false)
    (yWL : PySem.W.kitOne K (.ref clsW) (.ref clsL) = some false)
    (yWD : PySem.W.kitOne K (.ref clsW) (.ref clsD) = some false)
    (yWT : PySem.W.kitOne K (.ref clsW) (.ref clsT) = some false)
    (yWS : PySem.W.kitOne K (.ref clsW) (.ref clsS) = some false)
    (yWR : PySem.W.kitOne K (.ref clsW) (.ref clsR) = some false)
    (ybW : PySem.W.kitOne K (.ref clsW) (.ref clsE) = some true)
    (yvW : PySem.W.kitOne K (.ref clsW) (.type "ValueError") = some true)
    (yNW : PySem.W.kitOne K (.ref clsN) (.ref clsW) = some false)
    (yNN : PySem.W.kitOne K (.ref clsN) (.ref clsN) = some true)
    (yNC : PySem.W.kitOne K (.ref clsN) (.ref clsC) = some false)
    (yNL : PySem.W.kitOne K (.ref clsN) (.ref clsL) = some false)
    (yND : PySem.W.kitOne K (.ref clsN) (.ref clsD) = some false)
    (yNT : PySem.W.kitOne K (.ref clsN) (.ref clsT) = some false)
    (yNS : PySem.W.kitOne K (.ref clsN) (.ref clsS) = some false)
    (yNR : PySem.W.kitOne K (.ref clsN) (.ref clsR) = some false)
    (ybN : PySem.W.kitOne K (.ref clsN) (.ref clsE) = some true)
    (yvN : PySem.W.kitOne K (.ref clsN) (.type "ValueError") = some true)
    (yCW : PySem.W.kitOne K (.ref clsC) (.ref clsW) = some false)
    (yCN : PySem.W.kitOne K (.ref clsC) (.ref clsN) = some false)
    (yCC : PySem.W.kitOne K (.ref clsC) (.ref clsC) = some true)
    (yCL : PySem.W.kitOne K (.ref clsC) (.ref clsL) = some false)
    (yCD : PySem.W.kitOne K (.ref clsC) (.ref clsD) = some false)
    (yCT : PySem.W.kitOne K (.ref clsC) (.ref clsT) = some false)
    (yCS : PySem.W.kitOne K (.ref clsC) (.ref clsS) = some false)
    (yCR : PySem.W.kitOne K (.ref clsC) (.ref clsR) = some false)
    (ybC : PySem.W.kitOne K (.ref clsC) (.ref clsE) = some true)
    (yvC : PySem.W.kitOne K (.ref clsC) (.type "ValueError") = some true)
    : ∃ fd : FuncData, (∀ (s : Shared) (v : Value), BindsTo s fd ⟨[v], []⟩ [("_law_script", v)]) ∧ ∀ base : Heap, K.In base → base.Ns mainGlobals mg → FnOk l.prog w K mg base CX0 6 fa fd ["_law_script"] (spLaw K) := by
  have e := hfa.symm.trans (PySem.W.mg_of X G aZ)
  cases e
  have FTw := fun_mk (st := sTwice) lTw cTw kTw
  have bTw := FTw.binds (ps := ["names"]) fun _ _ _ _ _ _ us hl => match us, hl with | [_], _ => rfl
  have mTw := PySem.W.mg_of X G aTw
  have FBi := fun_mk (st := sBodies) lBi cBi kBi
  have bBi := FBi.binds (ps := ["statement"]) fun _ _ _ _ _ _ us hl => match us, hl with | [_], _ => rfl
  have mBi := PySem.W.mg_of X G aBi
  have FCi := fun_mk (st := sCallsIn) lCi cCi kCi
  have bCi := FCi.binds (ps := ["body"]) fun _ _ _ _ _ _ us hl => match us, hl with | [_], _ => rfl
  have mCi := PySem.W.mg_of X G aCi
  have FRc := fun_mk (st := sRefCall) lRc cRc kRc
  have bRc := FRc.binds (ps := ["call", "counts"]) fun _ _ _ _ _ _ us hl => match us, hl with | [_, _], _ => rfl
  have mRc := PySem.W.mg_of X G aRc
  have FSo := fun_mk (st := sSound) lSo cSo kSo
  have bSo := FSo.binds (ps := ["program"]) fun _ _ _ _ _ _ us hl => match us, hl with | [_], _ => rfl
  have mSo := PySem.W.mg_of X G aSo
  have FBx := fun_mk (st := sBox) lBx cBx kBx
  have bBx := FBx.binds (ps := ["_law_script", "_law_k"]) fun _ _ _ _ _ _ us hl => match us, hl with | [_, _], _ => rfl
  have mBx := PySem.W.mg_of X G aBx
  have FTk := fun_mk (st := sTake) lTk cTk kTk
  have bTk := FTk.binds (ps := ["_law_box_here", "_law_wide"]) fun _ _ _ _ _ _ us hl => match us, hl with | [_, _], _ => rfl
  have mTk := PySem.W.mg_of X G aTk
  have FNm := fun_mk (st := sNames) lNm cNm kNm
  have bNm := FNm.binds (ps := ["_law_box_here", "_law_total"]) fun _ _ _ _ _ _ us hl => match us, hl with | [_, _], _ => rfl
  have mNm := PySem.W.mg_of X G aNm
  have FRf := fun_mk (st := sRefused) lRf cRf kRf
  have bRf := FRf.binds (ps := ["_law_caught"]) fun _ _ _ _ _ _ us hl => match us, hl with | [_], _ => rfl
  have mRf := PySem.W.mg_of X G aRf
  have FSa := fun_mk (st := sSaid) lSa cSa kSa
  have bSa := FSa.binds (ps := ["_law_program"]) fun _ _ _ _ _ _ us hl => match us, hl with | [_], _ => rfl
  have mSa := PySem.W.mg_of X G aSa
  have FWa := fun_mk (st := sWrap) lWa cWa kWa
  have bWa := FWa.binds (ps := ["_law_box_here", "_law_one"]) fun _ _ _ _ _ _ us hl => match us, hl with | [_, _], _ => rfl
  have mWa := PySem.W.mg_of X G aWa
  have FWr := fun_mk (st := sWrong) lWr cWr kWr
  have bWr := FWr.binds (ps := ["_law_box_here", "_law_call", "_law_names_here"]) fun _ _ _ _ _ _ us hl => match us, hl with | [_, _, _], _ => rfl
  have mWr := PySem.W.mg_of X G aWr
  have FZ := fun_mk (st := sLaw) lZ cZ kZ
  have nlen := PySem.W.mg_none_of X G zlen
  have nint := PySem.W.mg_none_of X G zint
  have nrange := PySem.W.mg_none_of X G zrange
  have nlist := PySem.W.mg_none_of X G zlist
  have nreversed := PySem.W.mg_none_of X G zreversed
  have ndict := PySem.W.mg_none_of X G zdict
  have nisinstance := PySem.W.mg_none_of X G zisinstance
  have nValueError := PySem.W.mg_none_of X G zValueError
  have ntuple := PySem.W.mg_none_of X G ztuple
  have nsorted := PySem.W.mg_none_of X G zsorted
  refine ⟨PySem.W.fnOf "law" "law" (defArgs sLaw) (defBody sLaw) (defScope sLaw) .none kVZ dcZ pmZ anZ cdZ ctZ, fun s v => .of_eq rfl, fun base _ _ => ?_⟩
  have GTk : FnOk l.prog w K mg base CX0 1 fTk _ _ spTake := ok_take FTk
  have GBx : FnOk l.prog w K mg base CX0 1 fBx _ _ (spBox K) := ok_box FBx nlen nint
  have GNm : FnOk l.prog w K mg base CX0 2 fNm _ _ spNames := ok_names FNm GTk bTk kTk mTk nrange
  have GWa : FnOk l.prog w K mg base CX0 2 fWa _ _ spWrap := ok_wrap FWa GTk bTk kTk mTk nrange
  have GWr : FnOk l.prog w K mg base CX0 2 fWr _ _ spWrong := ok_wrong FWr GTk bTk kTk mTk nlen
  have XcW : XCls K clsW := ⟨gaW, ghW, saW, clW, sgt, stk, mbW, moW, hdW⟩
  have XcN : XCls K clsN := ⟨gaN, ghN, saN, clN, sgt, stk, mbN, moN, hdN⟩
  have XcC : XCls K clsC := ⟨gaC, ghC, saC, clC, sgt, stk, mbC, moC, hdC⟩
  have TE := tail_B excE
  have FIW := fun_mk (st := sInitW) lIW cIW kIW
  have bIW := FIW.binds (ps := ["self", "name"]) fun _ _ _ _ _ _ us hl => match us, hl with | [_, _], _ => rfl
  have GIW : FnOk l.prog w K mg base CX0 1 fIW _ _ (spInit clsW "name") := ok_initW FIW ⟨XcW, noW, _, cls_of obW, rfl, rfl⟩
  have MKW : XMk K clsW := ⟨⟨_, _, _, _, _, _, _, _, _, _, _, _, _, _, _, _, obW, TE⟩, caW, tyW, kpW⟩
  have MzW : XC l.prog w K mg base clsW fIW _ "Twice" := ⟨MKW, inW, fnW, GIW, bIW, PySem.W.mg_of X G vW, XcW, tpW⟩
  have FIN := fun_mk (st := sInitN) lIN cIN kIN
  have bIN := FIN.binds (ps := ["self", "name"]) fun _ _ _ _ _ _ us hl => match us, hl with | [_, _], _ => rfl
  have GIN : FnOk l.prog w K mg base CX0 1 fIN _ _ (spInit clsN "name") := ok_initN FIN ⟨XcN, noN, _, cls_of obN, rfl, rfl⟩
  have MKN : XMk K clsN := ⟨⟨_, _, _, _, _, _, _, _, _, _, _, _, _, _, _, _, obN, TE⟩, caN, tyN, kpN⟩
  have MzN : XC l.prog w K mg base clsN fIN _ "NoName" := ⟨MKN, inN, fnN, GIN, bIN, PySem.W.mg_of X G vN, XcN, tpN⟩
  have FIC := fun_mk (st := sInitC) lIC cIC kIC
  have bIC := FIC.binds (ps := ["self", "name"]) fun _ _ _ _ _ _ us hl => match us, hl with | [_, _], _ => rfl
  have GIC : FnOk l.prog w K mg base CX0 1 fIC _ _ (spInit clsC "name") := ok_initC FIC ⟨XcC, noC, _, cls_of obC, rfl, rfl⟩
  have MKC : XMk K clsC := ⟨⟨_, _, _, _, _, _, _, _, _, _, _, _, _, _, _, _, obC, TE⟩, caC, tyC, kpC⟩
  have MzC : XC l.prog w K mg base clsC fIC _ "NoCount" := ⟨MKC, inC, fnC, GIC, bIC, PySem.W.mg_of X G vC, XcC, tpC⟩
  let c : Cs := ⟨clsT, clsW, clsN, clsC, clsL, clsD, clsS, clsR, clsE⟩
  have KRW : KinR K c clsW 0   := ⟨XcW, noW, by decide, yWW, yWN, yWC, yWL, yWD, yWT, yWS, yWR, ybW, yvW, meW⟩
  have KRN : KinR K c clsN 1   := ⟨XcN, noN, by decide, yNW, yNN, yNC, yNL, yND, yNT, yNS, yNR, ybN, yvN, meN⟩
  have KRC : KinR K c clsC 2   := ⟨XcC, noC, by decide, yCW, yCN, yCC, yCL, yCD, yCT, yCS, yCR, ybC, yvC, meC⟩
  have GTwL := ok_twL (P := l.prog) (w := w) (base := base) FTw MzW
  have GTwT := ok_twT (P := l.prog) (w := w) (base := base) FTw MzW
  have GBi : FnOk l.prog w K mg base CX0 1 fBi _ _ (spBodies K) := ok_bodies FBi
  have GCi : FnOk l.prog w K mg base CX0 2 fCi _ _ spCallsIn := ok_callsin FCi GBi bBi kBi mBi nlist nreversed
  have GRc := ok_refcall (P := l.prog) (w := w) (base := base) FRc MzN MzC nlen
  have GSo : FnOk l.prog w K mg base (CX1 l.prog w) 4 fSo _ _ (spSound clsW clsN clsC) := ok_sound FSo GTwL bTw kTw mTw GTwT bTw kTw mTw GCi bCi kCi mCi GRc bRc kRc mRc nlen ndict
  have GRf : FnOk l.prog w K mg base CX0 1 fRf _ _ (spRefused K c) := ok_refused (c := c) FRf nisinstance nValueError (PySem.W.mg_of X G vT) (PySem.W.mg_of X G vW) (PySem.W.mg_of X G vN) (PySem.W.mg_of X G vC) (PySem.W.mg_of X G vL) (PySem.W.mg_of X G vD) (PySem.W.mg_of X G vS) (PySem.W.mg_of X G vR) (PySem.W.mg_of X G vE)
  have hBE : PySem.W.clsIn K clsE ≠ none := by
    obtain ⟨nm, q, N, bs, bm, hdct, sn, sub, ab, col, dd, k0, k1, k2, k3, k5, hK, hT, hok, hni⟩ := exc_parts excE
    rw [cls_of hK]
    intro z
    cases z
  have GSa : FnOk l.prog w K mg base CX0 5 fSa _ _ spSaid := ok_said (c := c) FSa KRW KRN KRC GSo bSo kSo mSo GRf bRf kRf mRf (PySem.W.mg_of X G vE) hBE tpE mbE
  exact ok_law FZ GTk bTk kTk mTk GBx bBx kBx mBx GNm bNm kNm mNm GWa bWa kWa mWa GWr bWr kWr mWr GSa bSa kSa mSa nrange nlen ntuple nsorted
theorem walk {l : PySem.W.OpenLaw} {q : Program} {loose : List Str} {XP : (Str → Option Value) → Heap → Prop} {YP : World → Heap → Prop} {d : DefRec} {K : Params → PySem.W.Frag} (hn : l.most = some 63) (hdf : d.params.defaults = [])
    (hY : ∀ (w : World) (h : Heap), YP w h → (K w.params).In h)
    (F : ∀ (w : World) (mg : Str → Option Value) (fa : Addr) (h : Heap), (K w.params).In h → h.Ns mainGlobals mg → mg d.name = some (.ref fa) →
      ∃ fd : FuncData, (∀ (s : Shared) (u : Value), BindsTo s fd ⟨[u], []⟩ [("_law_script", u)]) ∧ ∀ base : Heap, (K w.params).In base → base.Ns mainGlobals mg → FnOk l.prog w (K w.params) mg base CX0 6 fa fd ["_law_script"] (spLaw (K w.params))) :
    PySem.W.WalkO q loose XP YP l.row.toRowW d [] (fun f vs => PySem.call f vs) :=
  L2.walk_of (n := 63) (k := 6) (x := "_law_script") (CX := fun _ => CX0) (sp := fun w => spLaw (K w.params)) hn (by decide) hdf ⟨rfl, by decide, by decide⟩ hY F (fun _ _ a ns hl _ hS => ⟨a, ns, rfl, hS, hl, fun _ => rfl⟩) fun _ _ _ _ _ z => z
end K9

set_option Elab.async false
set_option linter.all false
set_option maxRecDepth 100000
set_option maxHeartbeats 4000000
open PySem PySem.W PyProof.Rows PySem.W.X
theorem K9.walkX {q : Program} {loose : List PySem.Str} {XP : (PySem.Str → Option Value) → Heap → Prop} {K : Params → Frag} {as : List Addr} {n t : Nat} {r : RowW} {d : DefRec} {kwd : List (PySem.Str × PySem.Expr)} {run : Value → List Value → Sem Value}
    (e : ∀ P, as = (K P).map (·.1)) (h : WalkO q loose XP (InK K) r d kwd run) : WalkX q loose XP (obsZ as) (valZ K n t) r d kwd run :=
  fun w s₀ s₁ mg mb G Y a o pm cd doc dV kV h1 h2 h3 h4 h5 h6 args vals as' L => h w s₀ s₁ mg mb G (InK.keeps w _ _ (z_facts e Y).2.1 L.keeps) a o pm cd doc dV kV h1 h2 h3 h4 h5 h6 args vals as'
set_option maxRecDepth 100000 in
set_option maxHeartbeats 0 in
theorem PySem.Challenge.cw_againbook_k09_calls_at_any_place_holds : PySem.Challenge.rw_againbook_k09_calls_at_any_place.Holds := by
  w_on; o_law; z_head; (case hw => w_witness2)
  refine K9.walkX (fun _ => by rfl) (K9.walk (l := PySem.Challenge.rw_againbook_k09_calls_at_any_place) rfl rfl (fun w h Y => Y) ?F)
  case F =>
    intro w mg fa h KX G hmg
    refine' K9.all_mk KX G hmg ?aTw ?lTw ?cTw ?kTw ?aBi ?lBi ?cBi ?kBi ?aCi ?lCi ?cCi ?kCi ?aRc ?lRc ?cRc ?kRc ?aSo ?lSo ?cSo ?kSo ?aBx ?lBx ?cBx ?kBx ?aTk ?lTk ?cTk ?kTk ?aNm ?lNm ?cNm ?kNm ?aRf ?lRf ?cRf ?kRf ?aSa ?lSa ?cSa ?kSa ?aWa ?lWa ?cWa ?kWa ?aWr ?lWr ?cWr ?kWr ?aZ ?lZ ?cZ ?kZ ?vT ?vW ?vN ?vC ?vL ?vD ?vS ?vR ?vE ?excE ?tpE ?mbE ?sgt ?stk ?gaW ?ghW ?saW ?clW ?mbW ?moW ?hdW ?kpW ?meW ?tpW ?gaN ?ghN ?saN ?clN ?mbN ?moN ?hdN ?kpN ?meN ?tpN ?gaC ?ghC ?saC ?clC ?mbC ?moC ?hdC ?kpC ?meC ?tpC ?obW ?inW ?fnW ?lIW ?cIW ?kIW ?noW ?caW ?tyW ?obN ?inN ?fnN ?lIN ?cIN ?kIN ?noN ?caN ?tyN ?obC ?inC ?fnC ?lIC ?cIC ?kIC ?noC ?caC ?tyC ?zlen ?zint ?zrange ?zlist ?zreversed ?zdict ?zisinstance ?zValueError ?ztuple ?zsorted ?yWW ?yWN ?yWC ?yWL ?yWD ?yWT ?yWS ?yWR ?ybW ?yvW ?yNW ?yNN ?yNC ?yNL ?yND ?yNT ?yNS ?yNR ?ybN ?yvN ?yCW ?yCN ?yCC ?yCL ?yCD ?yCT ?yCS ?yCR ?ybC ?yvC
    (case aTw => k_is)
    (case lTw => k_is)
    (case cTw => k_is)
    (case kTw => k_is)
    (case aBi => k_is)
    (case lBi => k_is)
    (case cBi => k_is)
    (case kBi => k_is)
    (case aCi => k_is)
    (case lCi => k_is)
    (case cCi => k_is)
    (case kCi => k_is)
    (case aRc => k_is)
    (case lRc => k_is)
    (case cRc => k_is)
    (case kRc => k_is)
    (case aSo => k_is)
    (case lSo => k_is)
    (case cSo => k_is)
    (case kSo => k_is)
    (case aBx => k_is)
    (case lBx => k_is)
    (case cBx => k_is)
    (case kBx => k_is)
    (case aTk => k_is)
    (case lTk => k_is)
    (case cTk => k_is)
    (case kTk => k_is)
    (case aNm => k_is)
    (case lNm => k_is)
    (case cNm => k_is)
    (case kNm => k_is)
    (case aRf => k_is)
    (case lRf => k_is)
    (case cRf => k_is)
    (case kRf => k_is)
    (case aSa => k_is)
    (case lSa => k_is)
    (case cSa => k_is)
    (case kSa => k_is)
    (case aWa => k_is)
    (case lWa => k_is)
    (case cWa => k_is)
    (case kWa => k_is)
    (case aWr => k_is)
    (case lWr => k_is)
    (case cWr => k_is)
    (case kWr => k_is)
    (case aZ => k_is)
    (case lZ => k_is)
    (case cZ => k_is)
    (case kZ => k_is)
    (case vT => k_is)
    (case vW => k_is)
    (case vN => k_is)
    (case vC => k_is)
    (case vL => k_is)
    (case vD => k_is)
    (case vS => k_is)
    (case vR => k_is)
    (case vE => k_is)
    (case excE => k_exc)
    (case tpE => k_is)
    (case mbE => k_is)
    (case sgt => k_is)
    (case stk => k_is)
    (case gaW => k_is)
    (case ghW => k_is)
    (case saW => k_is)
    (case clW => k_is)
    (case mbW => k_is)
    (case moW => k_is)
    (case hdW => k_is)
    (case kpW => k_is)
    (case meW => k_is)
    (case tpW => k_is)
    (case gaN => k_is)
    (case ghN => k_is)
    (case saN => k_is)
    (case clN => k_is)
    (case mbN => k_is)
    (case moN => k_is)
    (case hdN => k_is)
    (case kpN => k_is)
    (case meN => k_is)
    (case tpN => k_is)
    (case gaC => k_is)
    (case ghC => k_is)
    (case saC => k_is)
    (case clC => k_is)
    (case mbC => k_is)
    (case moC => k_is)
    (case hdC => k_is)
    (case kpC => k_is)
    (case meC => k_is)
    (case tpC => k_is)
    (case obW => k_is)
    (case inW => k_is)
    (case fnW => k_is)
    (case lIW => k_is)
    (case cIW => k_is)
    (case kIW => k_is)
    (case noW => k_is)
    (case caW => k_is)
    (case tyW => k_is)
    (case obN => k_is)
    (case inN => k_is)
    (case fnN => k_is)
    (case lIN => k_is)
    (case cIN => k_is)
    (case kIN => k_is)
    (case noN => k_is)
    (case caN => k_is)
    (case tyN => k_is)
    (case obC => k_is)
    (case inC => k_is)
    (case fnC => k_is)
    (case lIC => k_is)
    (case cIC => k_is)
    (case kIC => k_is)
    (case noC => k_is)
    (case caC => k_is)
    (case tyC => k_is)
    (case zlen => k_is)
    (case zint => k_is)
    (case zrange => k_is)
    (case zlist => k_is)
    (case zreversed => k_is)
    (case zdict => k_is)
    (case zisinstance => k_is)
    (case zValueError => k_is)
    (case ztuple => k_is)
    (case zsorted => k_is)
    (case yWW => kit_is)
    (case yWN => kit_is)
    (case yWC => kit_is)
    (case yWL => kit_is)
    (case yWD => kit_is)
    (case yWT => kit_is)
    (case yWS => kit_is)
    (case yWR => kit_is)
    (case ybW => kit_is)
    (case yvW => kit_is)
    (case yNW => kit_is)
    (case yNN => kit_is)
    (case yNC => kit_is)
    (case yNL => kit_is)
    (case yND => kit_is)
    (case yNT => kit_is)
    (case yNS => kit_is)
    (case yNR => kit_is)
    (case ybN => kit_is)
    (case yvN => kit_is)
    (case yCW => kit_is)
    (case yCN => kit_is)
    (case yCC => kit_is)
    (case yCL => kit_is)
    (case yCD => kit_is)
    (case yCT => kit_is)
    (case yCS => kit_is)
    (case yCR => kit_is)
    (case ybC => kit_is)
    (case yvC => kit_is)

