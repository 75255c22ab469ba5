import PyProof.Rows.All
import Wide.All
import OpenK.AllK
import Wide.FinOn
import Lean
import PyProof.EqAt
import PyProof.EqKinds
import PyProof.TupleCall
import KE.KIntText
import PySem.Challenge.RW_commonform_k20_whole_filled_by_both
-- CHANGE: your row's module here, as the last of these rows
set_option Elab.async false
set_option linter.all false
set_option maxRecDepth 100000
/-! THE HAND LAYER, for ints, bools, texts, own classes, LISTS and tuples (index, slices, in, append, pop ..), calls, loops. Paste it whole ahead of your own text; what your proof does not reach may be deleted. -/
namespace L2
open PySem PySem.Spec PyProof.Rows

/-- a key: an int or a str -/
noncomputable abbrev Key := Sum Int Str
noncomputable def keyIs : Key → Value → Bool
  | .inl k, v => Value.isInt k v
  | .inr x, v => Value.isStrOf x v
noncomputable def keyH (w : World) : Key → Int
  | .inl k => hashInt k
  | .inr x => hashStr w x
theorem keyIs_shape : ∀ {k : Key} {v : Value}, keyIs k v = true → (∃ i t, k = Sum.inl i ∧ v = Value.int i t) ∨ (∃ x t, k = Sum.inr x ∧ v = Value.str x t)
  | .inl i, v, h => by
    obtain ⟨t, e⟩ := Value.isInt_shape (k := i) (v := v) h
    exact .inl ⟨i, t, rfl, e⟩
  | .inr x, v, h => by
    obtain ⟨t, e⟩ := Value.isStrOf_shape (x := x) (v := v) h
    exact .inr ⟨x, t, rfl, e⟩
theorem keyIs_int (i : Int) (t : Tok) : keyIs (.inl i) (.int i t) = true := by simp [keyIs, Value.isInt]
theorem keyIs_str (x : Str) (t : Tok) : keyIs (.inr x) (.str x t) = true := by simp [keyIs, Value.isStrOf]
theorem key_ll (a b : Int) : decide ((Sum.inl a : Key) = Sum.inl b) = (a == b) := by
  by_cases e : a = b
  · subst e; simp
  · have h : ¬ (Sum.inl a : Key) = Sum.inl b := fun q => e (Sum.inl.inj q)
    rw [decide_eq_false h]
    exact (beq_eq_false_iff_ne.mpr e).symm
theorem key_rr (a b : Str) : decide ((Sum.inr a : Key) = Sum.inr b) = decide (a = b) := by
  by_cases e : a = b
  · subst e; simp
  · have h : ¬ (Sum.inr a : Key) = Sum.inr b := fun q => e (Sum.inr.inj q)
    rw [decide_eq_false h, decide_eq_false e]
theorem key_lr (a : Int) (b : Str) : decide ((Sum.inl a : Key) = Sum.inr b) = false := decide_eq_false (fun q => nomatch q)
theorem key_rl (a : Str) (b : Int) : decide ((Sum.inr a : Key) = Sum.inl b) = false := decide_eq_false (fun q => nomatch q)

noncomputable def mixKind (prog : Program) (w : World) : PySem.KeyKind prog w Key where
  is := keyIs
  hash := keyH w
  inj := fun v a b ha hb => by
    rcases keyIs_shape ha with ⟨i, t, rfl, rfl⟩ | ⟨x, t, rfl, rfl⟩
    · rcases keyIs_shape hb with ⟨j, u, rfl, e⟩ | ⟨y, u, rfl, e⟩
      · injection e with e1 _; rw [e1]
      · exact nomatch e
    · rcases keyIs_shape hb with ⟨j, u, rfl, e⟩ | ⟨y, u, rfl, e⟩
      · exact nomatch e
      · injection e with e1 _; rw [e1]
  byValue := fun k v h => by
    rcases keyIs_shape h with ⟨i, t, rfl, rfl⟩ | ⟨x, t, rfl, rfl⟩ <;> rfl
  pyHash := fun hv h => by
    rcases keyIs_shape hv with ⟨i, t, rfl, rfl⟩ | ⟨x, t, rfl, rfl⟩
    · exact wpAny_pyHash_int h
    · exact wpAny_pyHash_str h
  eqBool := fun hu hv h => by
    rcases keyIs_shape hu with ⟨i, t, rfl, rfl⟩ | ⟨x, t, rfl, rfl⟩
    · rcases keyIs_shape hv with ⟨j, u, rfl, rfl⟩ | ⟨y, u, rfl, rfl⟩
      · rw [key_ll] at h; exact wpAny_eqBool_int h
      · rw [key_lr] at h; exact SeqAt.EqAt.int_str i t y u _ _ _ _ h
    · rcases keyIs_shape hv with ⟨j, u, rfl, rfl⟩ | ⟨y, u, rfl, rfl⟩
      · rw [key_rl] at h; exact SeqAt.EqAt.str_int x t j u _ _ _ _ h
      · rw [key_rr] at h; exact wpAny_eqBool_str h
  «strs» := fun k x t v h => by
    rcases keyIs_shape h with ⟨i, u, rfl, e⟩ | ⟨y, u, rfl, e⟩
    · exact nomatch e
    · injection e with e1 _
      subst e1
      cases v <;> rfl

theorem mixKind_int (prog : Program) (w : World) (i : Int) (t : Tok) : (mixKind prog w).is (.inl i) (.int i t) = true := keyIs_int i t
theorem mixKind_str (prog : Program) (w : World) (x : Str) (t : Tok) : (mixKind prog w).is (.inr x) (.str x t) = true := keyIs_str x t
end L2

namespace L2
open PySem PySem.Spec PyProof.Rows

/-- a value, without the heap -/
inductive V where
  | non | bl (b : Bool) | int (i : Int) | str (x : Str) | byt (b : Array UInt8) | flt (b : UInt64) | ref (a : Addr) | ty (n : String)
  deriving DecidableEq

noncomputable def RelV : V → Value → Prop
  | .non, u => u = Value.none
  | .bl b, u => u = Value.bool b
  | .int i, u => ∃ t, u = Value.int i t
  | .str x, u => ∃ t, u = Value.str x t
  | .byt b, u => ∃ t, u = Value.bytes b t
  | .flt b, u => ∃ t, u = Value.float b t
  | .ref a, u => u = Value.ref a
  | .ty n, u => u = Value.type n

noncomputable abbrev Vals : List V → List Value → Prop := Paired RelV
theorem Vals.length {xs : List V} {us : List Value} (r : Vals xs us) : xs.length = us.length := Paired.length r
theorem Vals.get : ∀ {xs : List V} {us : List Value} {i : Nat} {x : V}, Vals xs us → xs[i]? = some x → ∃ u, us[i]? = some u ∧ RelV x u
  | _, _, _, _, .nil, e => by simp at e
  | _, _, 0, _, .cons r _, e => by simp at e; subst e; exact ⟨_, rfl, r⟩
  | _, _, i + 1, x, .cons _ t, e => by
    obtain ⟨u, h1, h2⟩ := Vals.get (i := i) (x := x) t (by simpa using e)
    exact ⟨u, by simpa using h1, h2⟩
theorem Vals.set {x : V} {u : Value} (r : RelV x u) : ∀ {xs : List V} {us : List Value} (i : Nat), Vals xs us → Vals (xs.set i x) (us.set i u)
  | _, _, _, .nil => .nil
  | _, _, 0, .cons _ t => .cons r t
  | _, _, i + 1, .cons q t => .cons q (Vals.set r i t)
theorem Vals.append : ∀ {xs ys : List V} {us ws : List Value}, Vals xs us → Vals ys ws → Vals (xs ++ ys) (us ++ ws)
  | _, _, _, _, .nil, s => s
  | _, _, _, _, .cons r t, s => .cons r (Vals.append t s)
theorem Vals.take : ∀ {xs : List V} {us : List Value} (n : Nat), Vals xs us → Vals (xs.take n) (us.take n)
  | _, _, 0, _ => .nil
  | _, _, _ + 1, .nil => .nil
  | _, _, n + 1, .cons r t => .cons r (Vals.take n t)
theorem Vals.drop : ∀ {xs : List V} {us : List Value} (n : Nat), Vals xs us → Vals (xs.drop n) (us.drop n)
  | _, _, 0, r => r
  | _, _, _ + 1, .nil => .nil
  | _, _, n + 1, .cons _ t => Vals.drop n t
noncomputable def RelO : Option V → Option Value → Prop
  | some v, some u => RelV v u
  | none, none => True
  | _, _ => False
noncomputable def KV {κ : Type} : List (κ × V) → List (κ × Value) → Prop := Paired fun (p : κ × V) (q : κ × Value) => p.1 = q.1 ∧ RelV p.2 q.2

/-- a key of a dict (00_mix): an int or a text -/
noncomputable def kV : Key → V
  | .inl i => .int i
  | .inr x => .str x

/-- what stands at a tracked address -/
inductive HO where
  /-- a list -/
  | lst (xs : List V)
  /-- a tuple (never changes) -/
  | tup (xs : List V)
  /-- a dict whose keys are ints and texts; one whose keys are tuples of ints and texts (the empty one is both) -/
  | dK (kvs : List (Key × V)) | dT (kvs : List (List Key × V))
  /-- a set of ints: its members, its size -/
  | set (S : Int → Bool) (n : Nat)
  /-- an instance of the class at C, its dict at dx, its attributes -/
  | ins (C dx : Addr) (fs : List (Str × V))
  /-- the dict of the instance at x -/
  | own (x : Addr)
  /-- the dict of an exception -/
  | xd (fs : List (Str × V))
  /-- a bound method, f of x -/
  | met (f x : Addr)
  /-- a range object lo, lo + 1, .. below hi -/
  | rng (lo hi : Int)
  /-- a thing that is known to the object (the script; a dict while a loop walks it): read, never written while it is so -/
  | frz (o : Obj) (u : HO)
  /-- a code object's table -/
  | tbl (ps : Array Value)
  /-- any other thing, by what is true of its one object (a def of one's own: SetO a S n := HO.ext fun h => ..) -/
  | ext (φ : Heap → Prop)

noncomputable abbrev Hp := Addr → Option HO
noncomputable def upd (H : Hp) (a : Addr) (o : HO) : Hp := fun b => if b = a then some o else H b
theorem upd_same {H : Hp} {a : Addr} {o : HO} : upd H a o a = some o := by unfold upd; rw [if_pos rfl]
theorem upd_ne {H : Hp} {a b : Addr} {o : HO} (h : b ≠ a) : upd H a o b = H b := by unfold upd; rw [if_neg h]
/-- two objects of different content stand apart -/
theorem ne_of {H : Hp} {a b : Addr} {o u : HO} (h : H a = some o) (h' : H b = some u) (d : o ≠ u) : a ≠ b := by
  intro e; subst e; rw [h] at h'; exact d (Option.some.inj h')
theorem ne_of_none {H : Hp} {a b : Addr} {o : HO} (h : H a = some o) (h' : H b = none) : a ≠ b := by
  intro e; subst e; rw [h] at h'; cases h'

section
variable (P : Program) (w : World)
noncomputable def ObjOk (H : Hp) (h : Heap) (a : Addr) : HO → Prop
  | .lst xs => xs.length ≤ sizeLine ∧ ∃ (its : List Value) (n : Nat), Vals xs its ∧ h.get? a = some { cls := .type "list", data := .seq its.toArray n }
  | .tup xs => xs.length ≤ sizeLine ∧ ∃ its : List Value, Vals xs its ∧ IsTup h a its.toArray
  | .dK kvs => kvs.length ≤ sizeLine ∧ (a == sysModules) = false ∧ ∃ vs, KV kvs vs ∧ h.DictOf (mixKind P w) a vs
  | .dT kvs => kvs.length ≤ sizeLine ∧ (a == sysModules) = false ∧ ∃ xs : List (List Key × Addr × Value),
      Paired (fun (p : List Key × V) (q : List Key × Addr × Value) => p.1 = q.1 ∧ H q.2.1 = some (.tup (p.1.map kV)) ∧ RelV p.2 q.2.2) kvs xs ∧
      ∃ o es ep, h.get? a = some o ∧ o.ExactDict ∧ o.data = .dict es ep ∧ es.toList = xs.map (entryOfKey (tupleKind (mixKind P w))) ∧ (xs.map (·.1)).Nodup
  | .set S n => h.SetOf (intKind P w) a S n
  | .ins C dx fs => H dx = some (.own a) ∧ fs.length ≤ 1000 ∧ dx ≠ a ∧ h.get? a = some (PySem.W.instObj C dx) ∧
      ∃ mA, h.Ns1 dx mA ∧ (∀ f, RelO (fs.lookup f) (mA f)) ∧ PySem.Within mA (fs.map (·.1))
  | .own _ => ∃ o, h.get? a = some o
  | .xd fs => ∃ mA, h.Ns1 a mA ∧ ∀ f, RelO (fs.lookup f) (mA f)
  | .rng lo hi => ∃ t u v, h.get? a = some { cls := .type "range", data := .fields #[.int lo t, .int hi u, .int 1 v] }
  | .frz o u => h.get? a = some o ∧ ObjOk H h a u
  | .tbl ps => h.get? a = some { cls := .none, data := .fields ps }
  | .met f x => h.get? a = some (PySem.W.methodObj (.ref f) (.ref x))
  | .ext φ => φ h ∧ (∃ o, h.get? a = some o) ∧ ∀ h1 h2 : Heap, φ h1 → (∀ o, h1.get? a = some o → h2.get? a = some o) → φ h2
/-- the abstract heap is held -/
noncomputable def HOk (H : Hp) (h : Heap) : Prop := ∀ a o, H a = some o → ObjOk P w H h a o
end

section
variable {P : Program} {w : World} {H H' : Hp} {h h' : Heap} {a : Addr} {o : HO}
theorem ObjOk.lt (x : ObjOk P w H h a o) : a < h.objs.size := by
  cases o with
  | lst xs => obtain ⟨_, _, _, _, e⟩ := x; exact Heap.lt_size e
  | tup xs => obtain ⟨_, _, _, p⟩ := x; exact p.lt
  | dK kvs => obtain ⟨_, _, _, _, o, _, _, e, _⟩ := x; exact Heap.lt_size e
  | dT kvs => obtain ⟨_, _, _, _, o, _, _, e, _⟩ := x; exact Heap.lt_size e
  | set S n => obtain ⟨o, _, _, _, e, _⟩ := x; exact Heap.lt_size e
  | ins C dx fs => obtain ⟨_, _, _, e, _⟩ := x; exact Heap.lt_size e
  | own y => obtain ⟨_, e⟩ := x; exact Heap.lt_size e
  | xd fs => obtain ⟨_, ⟨_, _, _, e, _⟩, _⟩ := x; exact Heap.lt_size e
  | rng lo hi => obtain ⟨_, _, _, e⟩ := x; exact Heap.lt_size e
  | frz ob u => obtain ⟨e, _⟩ := x; exact Heap.lt_size e
  | tbl ps => exact Heap.lt_size (show h.get? a = some _ from x)
  | met f y => exact Heap.lt_size (show h.get? a = some _ from x)
  | ext φ => obtain ⟨_, ⟨_, e⟩, _⟩ := x; exact Heap.lt_size e
theorem Paired.mapP {α β : Type} {F G : α → β → Prop} : ∀ {l₁ : List α} {l₂ : List β}, Paired F l₁ l₂ → (∀ a b, F a b → G a b) → Paired G l₁ l₂
  | _, _, .nil, _ => .nil
  | _, _, .cons r t, f => .cons (f _ _ r) (Paired.mapP t f)
/-- what an object's description leans on: its own object, its own dict, the tuples -/
theorem ObjOk.stay (x : ObjOk P w H h a o) (k : ∀ b u, (b = a ∨ H b = some (.own a)) → h.get? b = some u → h'.get? b = some u)
    (ho : ∀ b, H b = some (.own a) → H' b = some (.own a)) (ht : ∀ b xs, H b = some (.tup xs) → H' b = some (.tup xs)) : ObjOk P w H' h' a o := by
  induction o with
  | lst xs => obtain ⟨z, its, n, r, e⟩ := x; exact ⟨z, its, n, r, k _ _ (.inl rfl) e⟩
  | tup xs => obtain ⟨z, its, r, ob, e, c⟩ := x; exact ⟨z, its, r, ob, k _ _ (.inl rfl) e, c⟩
  | dK kvs => obtain ⟨z, y, vs, r, ob, es, ep, e, c⟩ := x; exact ⟨z, y, vs, r, ob, es, ep, k _ _ (.inl rfl) e, c⟩
  | dT kvs =>
    obtain ⟨z, y, xs, r, ob, es, ep, e, c⟩ := x
    exact ⟨z, y, xs, Paired.mapP r fun p q z => ⟨z.1, ht _ _ z.2.1, z.2.2⟩, ob, es, ep, k _ _ (.inl rfl) e, c⟩
  | set S n => obtain ⟨ob, es, ep, t, e, c⟩ := x; exact ⟨ob, es, ep, t, k _ _ (.inl rfl) e, c⟩
  | ins C dx fs =>
    obtain ⟨d, z, ne, e, mA, ⟨od, es, ep, e2, c⟩, r⟩ := x
    exact ⟨ho _ d, z, ne, k _ _ (.inl rfl) e, mA, ⟨od, es, ep, k _ _ (.inr d) e2, c⟩, r⟩
  | own y => obtain ⟨ob, e⟩ := x; exact ⟨ob, k _ _ (.inl rfl) e⟩
  | xd fs => obtain ⟨mA, ⟨od, es, ep, e, c⟩, r⟩ := x; exact ⟨mA, ⟨od, es, ep, k _ _ (.inl rfl) e, c⟩, r⟩
  | rng lo hi => obtain ⟨t, u, v, e⟩ := x; exact ⟨t, u, v, k _ _ (.inl rfl) e⟩
  | frz ob u ih => obtain ⟨e, q⟩ := x; exact ⟨k _ _ (.inl rfl) e, ih q⟩
  | tbl ps =>
    have e : h.get? a = some { cls := .none, data := .fields ps } := x
    show h'.get? a = some { cls := .none, data := .fields ps }
    exact k a _ (.inl rfl) e
  | met f y =>
    have e : h.get? a = some (PySem.W.methodObj (.ref f) (.ref y)) := x
    show h'.get? a = some (PySem.W.methodObj (.ref f) (.ref y))
    exact k a _ (.inl rfl) e
  | ext φ => obtain ⟨p, ⟨o, e⟩, st⟩ := x; exact ⟨st _ _ p fun o q => k _ _ (.inl rfl) q, ⟨o, k _ _ (.inl rfl) e⟩, st⟩
theorem HOk.lt (x : HOk P w H h) (e : H a = some o) : a < h.objs.size := (x a o e).lt
theorem HOk.fresh (x : HOk P w H h) (e : h.objs.size ≤ a) : H a = none := by
  cases q : H a with
  | none => rfl
  | some u => exact absurd (Nat.lt_of_lt_of_le (x.lt q) e) (Nat.lt_irrefl _)
/-- every object of the heap is kept -/
theorem HOk.kept (x : HOk P w H h) (k : ∀ b u, h.get? b = some u → h'.get? b = some u) : HOk P w H h' := fun a o e =>
  (x a o e).stay (fun b u _ q => k b u q) (fun _ q => q) fun _ _ q => q
/-- a new object is laid and tracked -/
theorem HOk.laid (x : HOk P w H h) (k : ∀ b u, h.get? b = some u → h'.get? b = some u) (hp : h.objs.size ≤ a) (new : ObjOk P w (upd H a o) h' a o) : HOk P w (upd H a o) h' := fun b u e => by
  have hn := x.fresh hp
  by_cases hb : b = a
  · subst hb; rw [upd_same] at e; cases e; exact new
  · rw [upd_ne hb] at e
    exact (x b u e).stay (fun c v _ q => k c v q) (fun c q => by rw [upd_ne (ne_of_none q hn)]; exact q) fun c xs q => by rw [upd_ne (ne_of_none q hn)]; exact q
end

/-- what may be read as u: it is u, or a known u -/
noncomputable def Rd (H : Hp) (a : Addr) (u : HO) : Prop := H a = some u ∨ ∃ o, H a = some (.frz o u)
theorem Rd.ok {P : Program} {w : World} {H : Hp} {h : Heap} {a : Addr} {u : HO} (r : Rd H a u) (x : HOk P w H h) : ObjOk P w H h a u := by
  rcases r with r | ⟨o, r⟩
  · exact x a u r
  · obtain ⟨_, q⟩ := x a _ r
    exact q
/-- what may be written -/
noncomputable def Mut : Option HO → Prop
  | some (.lst _) => True
  | some (.dK _) => True
  | some (.dT _) => True
  | some (.set _ _) => True
  | some (.ins _ _ _) => True
  | some (.ext _) => True
  | _ => False
section
variable {P : Program} {w : World} {H : Hp} {h h' : Heap} {x e : Addr} {o' : HO}
/-- the object at e is changed: x itself, or the dict of the instance x -/
theorem HOk.write (ok : HOk P w H h) (mu : Mut (H x)) (he : e = x ∨ H e = some (.own x)) (k : ∀ b u, b ≠ e → h.get? b = some u → h'.get? b = some u) (heo : ∃ u, h'.get? e = some u)
    (new : ObjOk P w (upd H x o') h' x o') : HOk P w (upd H x o') h' := fun b u q => by
  have nown : ∀ c y, H c = some (.own y) → c ≠ x := fun c y r z => by subst z; rw [r] at mu; exact mu
  have ntup : ∀ c xs, H c = some (.tup xs) → c ≠ x := fun c xs r z => by subst z; rw [r] at mu; exact mu
  by_cases hb : b = x
  · subst hb; rw [upd_same] at q; cases q; exact new
  · rw [upd_ne hb] at q
    by_cases hbe : b = e
    · have q' : H b = some (.own x) := by
        rcases he with z | z
        · exact absurd (hbe.trans z) hb
        · rw [hbe]; exact z
      rw [q] at q'; cases q'
      obtain ⟨v, hv⟩ := heo
      exact ⟨v, by rw [hbe]; exact hv⟩
    · refine (ok b u q).stay (fun c v hc r => k c v ?_ r) (fun c r => by rw [upd_ne (nown c b r)]; exact r) fun c xs r => by rw [upd_ne (ntup c xs r)]; exact r
      rcases hc with rfl | hc
      · exact hbe
      · rintro rfl
        rcases he with z | z
        · exact nown c b hc z
        · rw [hc] at z; cases z; exact hb rfl
end

/-! ### kept unless tracked; of the frames at fs (the callers') the slots may change (an exception that passes writes there); of the records at ex (iterators) nothing is said -/
structure Un (fs ex : List Addr) (H H' : Hp) (h h' : Heap) : Prop where
  keep : ∀ b o, h.get? b = some o → H b = none → b ∉ fs → b ∉ ex → h'.get? b = some o
  slot : ∀ b o, h.get? b = some o → H b = none → b ∈ fs → b ∉ ex → ∃ sl, h'.get? b = some { o with slots := sl }
  free : ∀ b o, h.get? b = some o → H b = none → b ∉ ex → H' b = none
  there : ∀ b o, h.get? b = some o → b ∉ ex → ∃ o', h'.get? b = some o'
  tups : ∀ b xs, H b = some (.tup xs) → H' b = some (.tup xs)
  frzs : ∀ b o u, H b = some (.frz o u) → H' b = some (.frz o u)
  tbls : ∀ b ps, H b = some (.tbl ps) → ∃ more, H' b = some (.tbl (ps ++ more))
section
variable {fs fs' ex ex' : List Addr} {H H1 H2 : Hp} {h h1 h2 h' : Heap} {a x e : Addr} {o : HO}
theorem Un.any (u : Un fs ex H H1 h h1) {b : Addr} {ob : Obj} (q : h.get? b = some ob) (n : H b = none) (hx : b ∉ ex) : ∃ sl, h1.get? b = some { ob with slots := sl } := by
  by_cases hb : b ∈ fs
  · exact u.slot b ob q n hb hx
  · exact ⟨ob.slots, u.keep b ob q n hb hx⟩
theorem Un.kept (k : ∀ b u, h.get? b = some u → h'.get? b = some u) : Un fs ex H H h h' :=
  ⟨fun b ob q _ _ _ => k b ob q, fun b ob q _ _ _ => ⟨ob.slots, k b ob q⟩, fun _ _ _ n _ => n, fun b ob q _ => ⟨ob, k b ob q⟩, fun _ _ q => q, fun _ _ _ q => q, fun _ ps q => ⟨#[], by rw [q]; simp⟩⟩
theorem Un.refl : Un fs ex H H h h := Un.kept fun _ _ q => q
theorem Un.laid (k : ∀ b u, h.get? b = some u → h'.get? b = some u) (hp : h.objs.size ≤ a) (hn : H a = none) : Un fs ex H (upd H a o) h h' where
  keep := fun b u q _ _ _ => k b u q
  slot := fun b u q _ _ _ => ⟨u.slots, k b u q⟩
  free := fun b u q n _ => by rw [upd_ne (Nat.ne_of_lt (Nat.lt_of_lt_of_le (Heap.lt_size q) hp))]; exact n
  there := fun b u q _ => ⟨u, k b u q⟩
  tups := fun b xs q => by rw [upd_ne (ne_of_none q hn)]; exact q
  frzs := fun b u xs q => by rw [upd_ne (ne_of_none q hn)]; exact q
  tbls := fun b ps q => ⟨#[], by rw [upd_ne (ne_of_none q hn), q]; simp⟩
theorem Un.write (mu : Mut (H x)) (he : e = x ∨ H e = some (.own x)) (k : ∀ b u, b ≠ e → h.get? b = some u → h'.get? b = some u) (heo : ∃ u, h'.get? e = some u) : Un fs ex H (upd H x o) h h' := by
  have hx : ∀ b, H b = none → b ≠ x := fun b n z => by subst z; rw [n] at mu; exact mu
  have hb : ∀ b, H b = none → b ≠ e := fun b n z => by
    subst z
    rcases he with r | r
    · exact hx b n r
    · rw [n] at r; cases r
  have hm : ∀ b u, H b = some u → ¬ Mut (some u) → b ≠ x := fun b u q nm z => by subst z; rw [q] at mu; exact nm mu
  refine ⟨fun b u q n _ _ => k b u (hb b n) q, fun b u q n _ _ => ⟨u.slots, k b u (hb b n) q⟩, fun b u q n _ => by rw [upd_ne (hx b n)]; exact n, fun b u q _ => ?_,
    fun b xs q => by rw [upd_ne (hm b _ q fun z => z)]; exact q, fun b u xs q => by rw [upd_ne (hm b _ q fun z => z)]; exact q, fun b ps q => ⟨#[], by rw [upd_ne (hm b _ q fun z => z), q]; simp⟩⟩
  by_cases hbe : b = e
  · subst hbe; exact heo
  · exact ⟨u, k b u hbe q⟩
end

/-! ### the heap without what is tracked -/
noncomputable def trk (h : Heap) (H : Hp) : List Addr := (List.range h.objs.size).filter fun a => (H a).isSome
noncomputable def hidT (h : Heap) (H : Hp) : Heap := PySem.W.hideAll h (trk h H)
theorem hidT_size (h : Heap) (H : Hp) : (hidT h H).objs.size = h.objs.size := PySem.W.hideAll_size _ _
theorem hidT_get {h : Heap} {H : Hp} {b : Addr} {o : Obj} (e : h.get? b = some o) (n : H b = none) : (hidT h H).get? b = some o :=
  PySem.W.hideAll_get _ e fun hm => by
    have q : (H b).isSome = true := (List.mem_filter.mp hm).2
    rw [n] at q; simp at q
theorem of_hidT {h : Heap} {H : Hp} {b : Addr} {o : Obj} (e : (hidT h H).get? b = some o) : h.get? b = some o ∧ H b = none := by
  have e' : h.get? b = some o := PySem.W.of_hideAll (trk h H) e
  refine ⟨e', ?_⟩
  cases q : H b with
  | none => rfl
  | some x =>
    have hm : b ∈ trk h H := List.mem_filter.mpr ⟨List.mem_range.mpr (Heap.lt_size e'), by simp [q]⟩
    have z : (hidT h H).get? b = none := PySem.W.hideAll_none (trk h H) hm
    rw [z] at e; cases e

/-! ### OpenK's ledger, filled with every new object but one -/
noncomputable def allNews (g h : Heap) (L : Addr) : List (Addr × Obj) := (List.range h.objs.size).filterMap fun a => if a = L ∨ (g.get? a).isSome = true then none else (h.get? a).map fun o => (a, o)
noncomputable def rest (g h : Heap) (L d : Addr) : List (Addr × Obj) := (allNews g h L).filter fun p => decide (p.1 ≠ d)
end L2

namespace L2
open PySem PySem.Spec PyProof.Rows

/-- the module's facts, over the base: the heap at the law's entry without what is tracked there -/
structure Mod (K : PySem.W.Frag) (mg : Str → Option Value) (base : Heap) : Prop where
  kin : K.In base
  glob : base.Ns mainGlobals mg
  blt : ∃ mb, base.Ns builtinsNs mb ∧ ∀ x : Str, x ≠ "__name__" → mb x = bootBuiltins x
  nolimit : base.NoLimit

/-- the context: a def's body (or a comprehension's block) running. base: fixed through the whole law; s₀, H₀: the entry; outer: the frames whose slots others may change (a def's callers); stack: all frames that run;
   ex: iterators that were made ahead of the entry and are walked here (a comprehension's); fn: the names whose cells were made at the entry (a def: all; a comprehension's block: its own); calm: not within an except suite; pn: pins that every state bears; xe: what is wanted of an exception that leaves the code -/
structure Cx where
  prog : Program
  w : World
  K : PySem.W.Frag
  mg : Str → Option Value
  base : Heap
  A : Around
  N : List Str
  s₀ : Shared
  H₀ : Hp
  env : Env
  outer : List Env
  stack : List Env
  ex : List Addr
  fn : Str → Bool
  calm : Bool
  pn : List (Addr × Obj)
  xe : Value → Shared → Prop
/-- the callers' frames -/
noncomputable def frs (l : List Env) : List Addr := l.filterMap (·.frame)
noncomputable abbrev Cx.fs (X : Cx) : List Addr := frs X.outer

noncomputable def Vis (sc : Scope) (x : Str) : Prop := sc.names.lookup x = some .local ∨ sc.names.lookup x = some .cell ∨ sc.names.lookup x = some .free
noncomputable def Loc (sc : Scope) (x : Str) : Prop := sc.names.lookup x = some .local ∨ sc.names.lookup x = some .cell
noncomputable def Look (env : Env) (h : Heap) (m : Str → Option Value) (x : Str) (u : Value) : Prop :=
  (env.kindOf x = some .local ∧ m x = some u) ∨ ((env.kindOf x = some .cell ∨ env.kindOf x = some .free) ∧ ∃ c, env.cells.lookup x = some c ∧ h.IsCell c (some u))

structure Cx.Ok (X : Cx) : Prop where
  mod : Mod X.K X.mg X.base
  kind : X.env.scope.kind = .function
  glob : X.env.globals = mainGlobals
  blt : X.env.builtins = builtinsNs
  above : X.s₀.heap.objs.size ≤ X.env.locals
  inj : ∀ x y c, X.env.cells.lookup x = some c → X.env.cells.lookup y = some c → x = y
  has : ∀ x, (X.env.kindOf x = some .cell ∨ X.env.kindOf x = some .free) → ∃ c, X.env.cells.lookup x = some c
  cab : ∀ x c, X.fn x = true → X.env.cells.lookup x = some c → X.s₀.heap.objs.size ≤ c
  hd : X.calm = true → X.A.handled = none
  frames : X.A.frames = some X.stack
  stk : X.stack = X.outer ∨ (X.stack = X.env :: X.outer ∧ X.env.frame = some X.env.locals)
  exf : ∀ b ∈ X.ex, b ≠ X.env.locals ∧ ∀ x c, X.env.cells.lookup x = some c → c ≠ b
  bs : ∀ b o, X.base.get? b = some o → X.s₀.heap.get? b = some o ∧ X.H₀ b = none
  bsz : X.base.objs.size ≤ X.s₀.heap.objs.size
  noex : ∀ b o, X.base.get? b = some o → b ∉ X.ex
  exfs : ∀ b ∈ X.ex, b ∉ X.fs
  funs : X.s₀.heap.FunFrames X.base X.outer
  frf : ∀ b ∈ X.fs, X.H₀ b = none

structure Inv (X : Cx) (pins : List (Addr × Obj)) (σ : List (Option V)) (H : Hp) (s : Shared) : Prop where
  ok : X.Ok
  os : s.os = X.s₀.os
  bare : AllBare s.gens
  base : Un X.fs X.ex X.H₀ H X.s₀.heap s.heap
  loc : ∃ m, s.heap.Ns X.env.locals m ∧ ∀ (i : Nat) (x : Str) (v : V), X.N[i]? = some x → σ[i]? = some (some v) → Vis X.env.scope x → ∃ u, RelV v u ∧ Look X.env s.heap m x u
  cell : ∀ x c, X.env.cells.lookup x = some c → ∃ v, s.heap.IsCell c v
  free : H X.env.locals = none
  freeC : ∀ x c, X.env.cells.lookup x = some c → H c = none
  pin : ∀ p ∈ X.pn ++ pins, s.heap.get? p.1 = some p.2 ∧ H p.1 = none ∧ p.1 ≠ X.env.locals ∧ p.1 ∉ X.fs ∧ ∀ v, p.2.data ≠ .cell v
  hok : HOk X.prog X.w H s.heap
  len : σ.length = X.N.length

section
variable {X : Cx} {pins : List (Addr × Obj)} {σ : List (Option V)} {H H' : Hp} {s : Shared} {h' : Heap}

theorem Cx.Ok.nofr (ok : X.Ok) {b : Addr} {o : Obj} (e : X.base.get? b = some o) : b ∉ X.fs := fun hb => by
  have := (ok.funs.mem hb).1
  rw [e] at this; cases this
theorem Inv.bs (I : Inv X pins σ H s) : ∀ b o, X.base.get? b = some o → s.heap.get? b = some o ∧ H b = none := fun b o e =>
  ⟨I.base.keep b o (I.ok.bs b o e).1 (I.ok.bs b o e).2 (I.ok.nofr e) (I.ok.noex b o e), I.base.free b o (I.ok.bs b o e).1 (I.ok.bs b o e).2 (I.ok.noex b o e)⟩
theorem Inv.bk (I : Inv X pins σ H s) : ∀ b o, X.base.get? b = some o → s.heap.get? b = some o := fun b o e => (I.bs b o e).1
theorem Inv.mod (I : Inv X pins σ H s) : Mod X.K X.mg X.base := I.ok.mod
theorem Inv.kIn (I : Inv X pins σ H s) : X.K.In s.heap := I.ok.mod.kin.keeps I.bk
theorem Inv.lt (I : Inv X pins σ H s) : X.env.locals < s.heap.objs.size := let ⟨_, hn, _⟩ := I.loc; hn.lt
theorem Inv.sz (I : Inv X pins σ H s) : X.s₀.heap.objs.size ≤ s.heap.objs.size := Nat.le_trans I.ok.above (Nat.le_of_lt I.lt)
theorem Inv.nofs (I : Inv X pins σ H s) {a : Addr} (h : s.heap.objs.size ≤ a) : a ∉ X.fs := fun hb => by
  obtain ⟨_, o, ho, _⟩ := I.ok.funs.mem hb
  exact absurd (Nat.lt_of_lt_of_le (Heap.lt_size ho) (Nat.le_trans I.sz h)) (Nat.lt_irrefl _)
theorem Inv.cne (I : Inv X pins σ H s) : ∀ x c, X.env.cells.lookup x = some c → c ≠ X.env.locals := fun x c e z => by
  obtain ⟨v, o, ho, hd⟩ := I.cell x c e
  obtain ⟨m, ⟨o', es, ep, ho', hd', _⟩, _⟩ := I.loc
  rw [z, ho'] at ho; cases ho; rw [hd'] at hd; cases hd
theorem Inv.funs (I : Inv X pins σ H s) : s.heap.FunFrames X.base X.outer := by
  have all : ∀ (l : List Env), (∀ b ∈ frs l, b ∈ X.fs) → X.s₀.heap.FunFrames X.base l → s.heap.FunFrames X.base l := by
    intro l
    induction l with
    | nil => intro _ _; trivial
    | cons env r ih =>
      intro hs hl
      obtain ⟨hk, ⟨L, o, hf, hn, ho, hd⟩, hr⟩ := hl
      have hL : L ∈ X.fs := hs L (by unfold frs; rw [List.filterMap_cons, hf]; exact List.mem_cons_self)
      obtain ⟨sl, e⟩ := I.base.slot L o ho (I.ok.frf L hL) hL fun z => I.ok.exfs L z hL
      exact ⟨hk, ⟨L, _, hf, hn, e, hd⟩, ih (fun b hb => hs b (by unfold frs; rw [List.filterMap_cons, hf]; exact List.mem_cons_of_mem _ hb)) hr⟩
  exact all X.outer (fun _ hb => hb) I.ok.funs

/-- the frames that run, for a call -/
theorem Inv.stack (I : Inv X pins σ H s) : s.heap.FunFrames X.base X.stack := by
  rcases I.ok.stk with e | ⟨e, hf⟩
  · rw [e]; exact I.funs
  · rw [e]
    obtain ⟨m, hn, _⟩ := I.loc
    refine .cons (by rw [I.ok.kind]; decide) hf hn ?_ I.funs
    exact Heap.get?_none_of_le (Nat.le_trans I.ok.bsz I.ok.above)
theorem Inv.stkSub (I : Inv X pins σ H s) : ∀ b ∈ frs X.stack, b ∈ X.env.locals :: X.fs := fun b hb => by
  rcases I.ok.stk with e | ⟨e, hf⟩
  · rw [e] at hb; exact List.mem_cons_of_mem _ hb
  · rw [e] at hb
    unfold frs at hb
    rw [List.filterMap_cons, hf] at hb
    exact hb
theorem Inv.stkFree (I : Inv X pins σ H s) : ∀ b ∈ frs X.stack, H b = none := fun b hb => by
  rcases List.mem_cons.mp (I.stkSub b hb) with e | hb
  · rw [e]; exact I.free
  · obtain ⟨_, o, ho, _⟩ := I.ok.funs.mem hb
    exact I.base.free b o ho (I.ok.frf b hb) fun z => I.ok.exfs b z hb

/-- THE STEP: the untracked objects but the frame and the records at ch are kept (the callers' frames up to slots), the frame's map is kept, the new abstract heap is held -/
theorem Inv.step {g' : Array GenState} {t' : Nat} {d' : Drawn} {ch : List Addr} (I : Inv X pins σ H s)
    (hch : ∀ b ∈ ch, (b ∈ X.ex ∨ X.s₀.heap.objs.size ≤ b) ∧ b ≠ X.env.locals ∧ (∀ x c, X.env.cells.lookup x = some c → c ≠ b) ∧ ∀ p ∈ X.pn ++ pins, p.1 ≠ b)
    (keep : ∀ b o, b ≠ X.env.locals → b ∉ X.fs → b ∉ ch → s.heap.get? b = some o → H b = none → h'.get? b = some o)
    (slot : ∀ b o, b ≠ X.env.locals → b ∈ X.fs → b ∉ ch → s.heap.get? b = some o → H b = none → ∃ sl, h'.get? b = some { o with slots := sl }) (free : ∀ b o, b ∉ ch → s.heap.get? b = some o → H b = none → H' b = none)
    (there : ∀ b o, b ∉ ch → s.heap.get? b = some o → ∃ o', h'.get? b = some o')
    (tups : ∀ b xs, H b = some (.tup xs) → H' b = some (.tup xs)) (frzs : ∀ b o u, H b = some (.frz o u) → H' b = some (.frz o u)) (tbls : ∀ b ps, H b = some (.tbl ps) → ∃ more, H' b = some (.tbl (ps ++ more)))
    (ns : ∀ m, s.heap.Ns X.env.locals m → h'.Ns X.env.locals m) (hok : HOk X.prog X.w H' h') (hg : AllBare g') :
    Inv X pins σ H' { s with heap := h', gens := g', drawn := d', toks := t' } := by
  have neL : ∀ b o, X.s₀.heap.get? b = some o → b ≠ X.env.locals := fun b o e => Nat.ne_of_lt (Nat.lt_of_lt_of_le (Heap.lt_size e) I.ok.above)
  have neC : ∀ b o, X.s₀.heap.get? b = some o → b ∉ X.ex → b ∉ ch := fun b o e hx hb => by
    rcases (hch b hb).1 with z | z
    · exact hx z
    · exact absurd (Nat.lt_of_lt_of_le (Heap.lt_size e) z) (Nat.lt_irrefl _)
  have cellK : ∀ x c, X.env.cells.lookup x = some c → ∀ v, s.heap.IsCell c v → h'.IsCell c v := fun x c e v ⟨o, ho, hd⟩ => by
    have nch : c ∉ ch := fun z => (hch c z).2.2.1 x c e rfl
    by_cases hc : c ∈ X.fs
    · obtain ⟨sl, q⟩ := slot c o (I.cne x c e) hc nch ho (I.freeC x c e)
      exact ⟨_, q, hd⟩
    · exact ⟨o, keep c o (I.cne x c e) hc nch ho (I.freeC x c e), hd⟩
  refine ⟨I.ok, I.os, hg, ⟨fun b o e n hb hx => ?_, fun b o e n hb hx => ?_, fun b o e n hx => ?_, fun b o e hx => ?_, fun b xs e => tups b xs (I.base.tups b xs e), fun b o xs e => frzs b o xs (I.base.frzs b o xs e), fun b ps e => ?_⟩, ?_, fun x c e => ?_, ?_, fun x c e => ?_, fun p hp => ?_, hok, I.len⟩
  · exact keep b o (neL b o e) hb (neC b o e hx) (I.base.keep b o e n hb hx) (I.base.free b o e n hx)
  · obtain ⟨sl, e1⟩ := I.base.slot b o e n hb hx
    obtain ⟨sl', e2⟩ := slot b _ (neL b o e) hb (neC b o e hx) e1 (I.base.free b o e n hx)
    exact ⟨sl', e2⟩
  · obtain ⟨o', e1⟩ := I.base.there b o e hx
    exact free b o' (neC b o e hx) e1 (I.base.free b o e n hx)
  · obtain ⟨o', e1⟩ := I.base.there b o e hx
    exact there b o' (neC b o e hx) e1
  · obtain ⟨m1, e1⟩ := I.base.tbls b ps e
    obtain ⟨m2, e2⟩ := tbls b _ e1
    exact ⟨m1 ++ m2, by rw [e2, Array.append_assoc]⟩
  · obtain ⟨m, hn, hl⟩ := I.loc
    refine ⟨m, ns m hn, fun i x v e1 e2 e3 => ?_⟩
    obtain ⟨u, r, l⟩ := hl i x v e1 e2 e3
    refine ⟨u, r, ?_⟩
    rcases l with l | ⟨k, c, e, z⟩
    · exact .inl l
    · exact .inr ⟨k, c, e, cellK x c e _ z⟩
  · obtain ⟨v, z⟩ := I.cell x c e
    exact ⟨v, cellK x c e v z⟩
  · obtain ⟨m, ⟨o, _, _, ho, _⟩, _⟩ := I.loc
    exact free _ o (fun z => (hch _ z).2.1 rfl) ho I.free
  · obtain ⟨v, o, ho, hd⟩ := I.cell x c e
    exact free c o (fun z => (hch c z).2.2.1 x c e rfl) ho (I.freeC x c e)
  · obtain ⟨e, n, ne, nf, d⟩ := I.pin p hp
    have nch : p.1 ∉ ch := fun z => (hch p.1 z).2.2.2 p hp rfl
    exact ⟨keep p.1 p.2 ne nf nch e n, free p.1 p.2 nch e n, ne, nf, d⟩
/-- .. where the frame's own object is kept too -/
theorem Inv.un {t' : Nat} (I : Inv X pins σ H s) (u : Un X.fs [] H H' s.heap h') (hok : HOk X.prog X.w H' h') : Inv X pins σ H' { s with heap := h', toks := t' } := by
  obtain ⟨m, ⟨o, es, ep, ho, r⟩, _⟩ := id I.loc
  obtain ⟨sl, hL⟩ := u.any ho I.free (by simp)
  exact I.step (g' := s.gens) (d' := s.drawn) (ch := []) (fun _ z => nomatch z) (fun b o _ hb _ e n => u.keep b o e n hb (by simp)) (fun b o _ hb _ e n => u.slot b o e n hb (by simp)) (fun b o _ e n => u.free b o e n (by simp)) (fun b o _ e => u.there b o e (by simp)) u.tups u.frzs u.tbls (fun m' hm => by
    obtain ⟨o', es', ep', ho', r'⟩ := hm
    rw [ho] at ho'; cases ho'
    exact ⟨_, es', ep', hL, r'⟩) hok I.bare
/-- behind a call (or a comprehension's block): the slots of this frame may have changed too, the records at ch may have turned -/
theorem Inv.call {g' : Array GenState} {t' : Nat} {d' : Drawn} {ch : List Addr} (I : Inv X pins σ H s) (u : Un (frs X.stack) ch H H' s.heap h') (hok : HOk X.prog X.w H' h') (hg : AllBare g')
    (hch : ∀ b ∈ ch, (b ∈ X.ex ∨ X.s₀.heap.objs.size ≤ b) ∧ b ≠ X.env.locals ∧ (∀ x c, X.env.cells.lookup x = some c → c ≠ b) ∧ ∀ p ∈ X.pn ++ pins, p.1 ≠ b) :
    Inv X pins σ H' { s with heap := h', gens := g', drawn := d', toks := t' } := by
  obtain ⟨m, ⟨o, es, ep, ho, r⟩, _⟩ := id I.loc
  obtain ⟨sl, hL⟩ := u.any ho I.free fun z => (hch _ z).2.1 rfl
  exact I.step (ch := ch) hch (fun b o hL hb hc e n => u.keep b o e n (fun z => (List.mem_cons.mp (I.stkSub b z)).elim hL hb) hc) (fun b o _ _ hc e n => u.any e n hc) (fun b o hc e n => u.free b o e n hc) (fun b o hc e => u.there b o e hc) u.tups u.frzs u.tbls (fun m' hm => by
    obtain ⟨o', es', ep', ho', r'⟩ := hm
    rw [ho] at ho'; cases ho'
    exact ⟨_, es', ep', hL, r'⟩) hok hg
/-- an untracked record of ours (an iterator) has turned -/
theorem Inv.turned {t' : Nat} {it : Addr} (I : Inv X pins σ H s) (k : ∀ b o, b ≠ it → s.heap.get? b = some o → h'.get? b = some o) (hn : H it = none) (hL : it ≠ X.env.locals)
    (h1 : it ∈ X.ex ∨ X.s₀.heap.objs.size ≤ it) (h2 : ∀ x c, X.env.cells.lookup x = some c → c ≠ it) (h3 : ∀ p ∈ X.pn ++ pins, p.1 ≠ it) : Inv X pins σ H { s with heap := h', toks := t' } := by
  have nit : ∀ b u, H b = some u → b ≠ it := fun b u e z => by rw [z, hn] at e; cases e
  refine I.step (g' := s.gens) (d' := s.drawn) (ch := [it]) (fun b hb => ?_) (fun b o _ _ hc e _ => k b o (fun z => hc (by simp [z])) e) (fun b o _ _ hc e _ => ⟨o.slots, k b o (fun z => hc (by simp [z])) e⟩) (fun _ _ _ _ n => n)
    (fun b o hc e => ⟨o, k b o (fun z => hc (by simp [z])) e⟩) (fun _ _ e => e) (fun _ _ _ e => e) (fun b ps e => ⟨#[], by rw [e]; simp⟩) (fun m hm => ?_) (fun b u e => ?_) I.bare
  · have e : b = it := by simpa using hb
    subst e
    exact ⟨h1, hL, h2, h3⟩
  · obtain ⟨o, es, ep, ho, r⟩ := hm
    exact ⟨o, es, ep, k _ o (Ne.symm hL) ho, r⟩
  · refine (I.hok b u e).stay (fun c v hc q => k c v ?_ q) (fun _ q => q) fun _ _ q => q
    rcases hc with z | z
    · rw [z]; exact nit b u e
    · exact nit c _ z
theorem Inv.tok (I : Inv X pins σ H s) (t : Nat) : Inv X pins σ H { s with toks := t } := I.un (h' := s.heap) (t' := t) Un.refl I.hok
/-- all objects kept -/
theorem Inv.kept {t' : Nat} (I : Inv X pins σ H s) (k : ∀ b u, s.heap.get? b = some u → h'.get? b = some u) : Inv X pins σ H { s with heap := h', toks := t' } := I.un (Un.kept k) (I.hok.kept k)
/-- a new object laid and tracked -/
theorem Inv.laid {a : Addr} {o : HO} {t' : Nat} (I : Inv X pins σ H s) (k : ∀ b u, s.heap.get? b = some u → h'.get? b = some u) (hp : s.heap.objs.size ≤ a) (new : ObjOk X.prog X.w (upd H a o) h' a o) :
    Inv X pins σ (upd H a o) { s with heap := h', toks := t' } := I.un (Un.laid k hp (I.hok.fresh hp)) (I.hok.laid k hp new)
/-- an object written -/
theorem Inv.write {x e : Addr} {o : HO} {t' : Nat} (I : Inv X pins σ H s) (mu : Mut (H x)) (he : e = x ∨ H e = some (.own x)) (k : ∀ b u, b ≠ e → s.heap.get? b = some u → h'.get? b = some u) (heo : ∃ u, h'.get? e = some u)
    (new : ObjOk X.prog X.w (upd H x o) h' x o) : Inv X pins σ (upd H x o) { s with heap := h', toks := t' } := I.un (Un.write mu he k heo) (I.hok.write mu he k heo new)
theorem Inv.pins_of {pins' : List (Addr × Obj)} (I : Inv X pins σ H s) (h : ∀ p ∈ pins', s.heap.get? p.1 = some p.2 ∧ H p.1 = none ∧ p.1 ≠ X.env.locals ∧ p.1 ∉ X.fs ∧ ∀ v, p.2.data ≠ .cell v) : Inv X pins' σ H s :=
  ⟨I.ok, I.os, I.bare, I.base, I.loc, I.cell, I.free, I.freeC, fun p hp => (List.mem_append.mp hp).elim (fun z => I.pin p (List.mem_append_left _ z)) (h p), I.hok, I.len⟩

theorem nodup_ix {N : List Str} (hN : N.Nodup) {i j : Nat} {x : Str} (a : N[i]? = some x) (b : N[j]? = some x) : i = j := by
  obtain ⟨h1, e1⟩ := List.getElem?_eq_some_iff.mp a
  obtain ⟨h2, e2⟩ := List.getElem?_eq_some_iff.mp b
  exact (List.getElem_inj hN).mp (e1.trans e2.symm)

/-- a name is stored; what changed -/
theorem store_ok2 {M : Model} {A : Around} {E : Value → Shared → Prop} {i : Nat} {x : Str} {v : V} {u : Value} {Q : Unit → Shared → Prop} (I : Inv X pins σ H s) (hN : X.N.Nodup) (hi : X.N[i]? = some x) (hx : Loc X.env.scope x) (r : RelV v u)
    (h : ∀ s', Inv X pins (σ.set i (some v)) H s' → (∃ a, Heap.SameBut a s.heap s'.heap ∧ (a = X.env.locals ∨ X.env.cells.lookup x = some a)) → Q () s') (hf : X.fn x = true ∨ X.env.scope.names.lookup x = some .local := by first | exact .inl rfl | exact .inr rfl | assumption) : wpAny M A (storeName X.env x u) Q E s := by
  obtain ⟨m, hn, hl⟩ := id I.loc
  have hcls : (X.env.scope.kind == .class || (X.env.scope.kind == .module && X.env.locals != X.env.globals)) = false := by rw [I.ok.kind]; rfl
  have hiσ : i < σ.length := by rw [I.len]; exact (List.getElem?_eq_some_iff.mp hi).1
  have cne := I.cne
  have tracked : ∀ {a : Addr} {h' : Heap}, (∃ o, s.heap.get? a = some o ∧ H a = none) → Heap.SameBut a s.heap h' → HOk X.prog X.w H h' := fun {a h'} ha hs b ob e => by
    obtain ⟨_, _, hfree⟩ := ha
    refine (I.hok b ob e).stay (fun c w' hc q => (hs.2 c ?_).trans q) (fun _ q => q) fun _ _ q => q
    rintro rfl
    rcases hc with rfl | hc
    · rw [hfree] at e; cases e
    · rw [hfree] at hc; cases hc
  rcases hx with hk | hk
  · refine wpAny_storeName_local hk hn (fun h' hn' hs => ?_) hcls
    obtain ⟨oL, _, _, hoL, _⟩ := id hn
    refine h _ ⟨I.ok, I.os, I.bare, ⟨fun b o e n hb hx => ?_, fun b o e n hb hx => ?_, I.base.free, fun b o e hx => ?_, I.base.tups, I.base.frzs, I.base.tbls⟩, ⟨_, hn', fun j y v' e1 e2 e3 => ?_⟩, fun y c e => ?_, I.free, I.freeC, fun p hp => ?_, tracked ⟨oL, hoL, I.free⟩ hs, by simpa using I.len⟩ ⟨_, hs, .inl rfl⟩
    · exact (hs.2 b (Nat.ne_of_lt (Nat.lt_of_lt_of_le (Heap.lt_size e) I.ok.above))).trans (I.base.keep b o e n hb hx)
    · obtain ⟨sl, e1⟩ := I.base.slot b o e n hb hx
      exact ⟨sl, (hs.2 b (Nat.ne_of_lt (Nat.lt_of_lt_of_le (Heap.lt_size e) I.ok.above))).trans e1⟩
    · obtain ⟨o', e1⟩ := I.base.there b o e hx
      exact ⟨o', (hs.2 b (Nat.ne_of_lt (Nat.lt_of_lt_of_le (Heap.lt_size e) I.ok.above))).trans e1⟩
    · by_cases hj : j = i
      · subst hj
        rw [hi] at e1; cases e1
        rw [List.getElem?_set_self hiσ] at e2
        cases e2
        exact ⟨u, r, .inl ⟨hk, by simp⟩⟩
      · rw [List.getElem?_set_ne (Ne.symm hj)] at e2
        obtain ⟨u', r', q⟩ := hl j y v' e1 e2 e3
        refine ⟨u', r', ?_⟩
        rcases q with ⟨k, e⟩ | ⟨k, c, e, z⟩
        · refine .inl ⟨k, ?_⟩
          have : y ≠ x := fun e => hj (nodup_ix hN e1 (e ▸ hi))
          simp [this, e]
        · exact .inr ⟨k, c, e, z.sameBut hs (cne y c e)⟩
    · obtain ⟨w', z⟩ := I.cell y c e
      exact ⟨w', z.sameBut hs (cne y c e)⟩
    · obtain ⟨e, n, ne, nf, d⟩ := I.pin p hp
      exact ⟨(hs.2 p.1 ne).trans e, n, ne, nf, d⟩
  · have hfn : X.fn x = true := by
      rcases hf with z | z
      · exact z
      · rw [z] at hk; cases hk
    obtain ⟨c, hc⟩ := I.ok.has x (.inl hk)
    obtain ⟨w', z⟩ := I.cell x c hc
    refine wpAny_storeName_cell I.ok.kind hk hc z (fun h' hc' hs => ?_)
    obtain ⟨oc, hoc, hocd⟩ := id z
    refine h { s with heap := h' } ⟨I.ok, I.os, I.bare, ⟨fun b o e n hb hx => ?_, fun b o e n hb hx => ?_, I.base.free, fun b o e hx => ?_, I.base.tups, I.base.frzs, I.base.tbls⟩, ⟨m, hn.sameBut hs (Ne.symm (cne x c hc)), fun j y v' e1 e2 e3 => ?_⟩, fun y c' e => ?_, I.free, I.freeC, fun p hp => ?_, tracked ⟨oc, hoc, I.freeC x c hc⟩ hs, by simpa using I.len⟩ ⟨c, hs, .inr hc⟩
    · exact (hs.2 b (Nat.ne_of_lt (Nat.lt_of_lt_of_le (Heap.lt_size e) (I.ok.cab x c hfn hc)))).trans (I.base.keep b o e n hb hx)
    · obtain ⟨sl, e1⟩ := I.base.slot b o e n hb hx
      exact ⟨sl, (hs.2 b (Nat.ne_of_lt (Nat.lt_of_lt_of_le (Heap.lt_size e) (I.ok.cab x c hfn hc)))).trans e1⟩
    · obtain ⟨o', e1⟩ := I.base.there b o e hx
      exact ⟨o', (hs.2 b (Nat.ne_of_lt (Nat.lt_of_lt_of_le (Heap.lt_size e) (I.ok.cab x c hfn hc)))).trans e1⟩
    · by_cases hj : j = i
      · subst hj
        rw [hi] at e1; cases e1
        rw [List.getElem?_set_self hiσ] at e2
        cases e2
        exact ⟨u, r, .inr ⟨.inl hk, c, hc, hc'⟩⟩
      · rw [List.getElem?_set_ne (Ne.symm hj)] at e2
        obtain ⟨u', r', q⟩ := hl j y v' e1 e2 e3
        refine ⟨u', r', ?_⟩
        rcases q with q | ⟨k, c', e, z'⟩
        · exact .inl q
        · refine .inr ⟨k, c', e, z'.sameBut hs ?_⟩
          rintro rfl
          exact hj (nodup_ix hN e1 (I.ok.inj _ _ _ e hc ▸ hi))
    · by_cases hcc : c' = c
      · subst hcc; exact ⟨_, hc'⟩
      · obtain ⟨w2, z2⟩ := I.cell y c' e
        exact ⟨w2, z2.sameBut hs hcc⟩
    · obtain ⟨e, n, ne, nf, d⟩ := I.pin p hp
      refine ⟨(hs.2 p.1 ?_).trans e, n, ne, nf, d⟩
      intro q
      rw [q, hoc] at e
      have q' : oc = p.2 := Option.some.inj e
      exact d w' (by rw [← q']; exact hocd)
theorem store_ok {M : Model} {A : Around} {E : Value → Shared → Prop} {i : Nat} {x : Str} {v : V} {u : Value} {Q : Unit → Shared → Prop} (I : Inv X pins σ H s) (hN : X.N.Nodup) (hi : X.N[i]? = some x) (hx : Loc X.env.scope x) (r : RelV v u)
    (h : ∀ s', Inv X pins (σ.set i (some v)) H s' → Q () s') (hf : X.fn x = true ∨ X.env.scope.names.lookup x = some .local := by first | exact .inl rfl | exact .inr rfl | assumption) : wpAny M A (storeName X.env x u) Q E s :=
  store_ok2 I hN hi hx r (fun s' I' _ => h s' I') hf
/-- behind a call or a block, the state as it is -/
theorem Inv.call' {s' : Shared} {ch : List Addr} (I : Inv X pins σ H s) (ho : s'.os = s.os) (u : Un (frs X.stack) ch H H' s.heap s'.heap) (hok : HOk X.prog X.w H' s'.heap) (hg : AllBare s'.gens)
    (hch : ∀ b ∈ ch, (b ∈ X.ex ∨ X.s₀.heap.objs.size ≤ b) ∧ b ≠ X.env.locals ∧ (∀ x c, X.env.cells.lookup x = some c → c ≠ b) ∧ ∀ p ∈ X.pn ++ pins, p.1 ≠ b) : Inv X pins σ H' s' := by
  obtain ⟨h', g', d', t', o'⟩ := s'
  have e : o' = s.os := ho
  subst e
  exact I.call (g' := g') (t' := t') (d' := d') u hok hg hch
end

/-! ### the judgements -/
/-- an exception: its class, its own dict's address (where it has one), the abstract heap behind it -/
noncomputable abbrev XK := Value → Option Addr → Hp → Prop
noncomputable abbrev St := List (Option V)
noncomputable abbrev VK := V → Hp → Prop
/-- an expression's reading; a test's; an argument list's -/
noncomputable abbrev TE := St → Hp → VK → Prop
noncomputable abbrev TT := St → Hp → (Bool → Hp → Prop) → Prop
noncomputable abbrev TA := St → Hp → (List V → Hp → Prop) → Prop
/-- what is wanted behind a statement -/
structure Ends where
  nx : St → Hp → Prop
  rt : VK
  bk : St → Hp → Prop := fun _ _ => False
  ct : St → Hp → Prop := fun _ _ => False
noncomputable abbrev TS := Ends → St → Hp → Prop

noncomputable def EP (X : Cx) (pins : List (Addr × Obj)) (σ : St) (Q : VK) (u : Value) (s' : Shared) : Prop := ∃ v H', Inv X pins σ H' s' ∧ RelV v u ∧ Q v H'
noncomputable def TP (X : Cx) (pins : List (Addr × Obj)) (σ : St) (Q : Bool → Hp → Prop) (b : Bool) (s' : Shared) : Prop := ∃ H', Inv X pins σ H' s' ∧ Q b H'
noncomputable def AP (X : Cx) (pins : List (Addr × Obj)) (σ : St) (Q : List V → Hp → Prop) (us : List Value) (s' : Shared) : Prop := ∃ vs H', Inv X pins σ H' s' ∧ Vals vs us ∧ Q vs H'
noncomputable def SP (X : Cx) (pins : List (Addr × Obj)) (D : Ends) (f : Flow) (s' : Shared) : Prop :=
  match f with
  | .next => ∃ σ' H', Inv X pins σ' H' s' ∧ D.nx σ' H'
  | .brk => ∃ σ' H', Inv X pins σ' H' s' ∧ D.bk σ' H'
  | .cont => ∃ σ' H', Inv X pins σ' H' s' ∧ D.ct σ' H'
  | .ret u => ∃ v σ' H', Inv X pins σ' H' s' ∧ RelV v u ∧ D.rt v H'

noncomputable def PE (X : Cx) (e : Expr) (t : TE) : Prop :=
  ∀ (pins : List (Addr × Obj)) (s : Shared) (σ : St) (H : Hp) (Q : VK), Inv X pins σ H s → t σ H Q → wpAny (model X.prog X.w) X.A (eval e X.env) (EP X pins σ Q) X.xe s
noncomputable def PT (X : Cx) (e : Expr) (t : TT) : Prop :=
  ∀ (pins : List (Addr × Obj)) (s : Shared) (σ : St) (H : Hp) (Q : Bool → Hp → Prop), Inv X pins σ H s → t σ H Q → wpAny (model X.prog X.w) X.A (isTrue e X.env (eval e X.env)) (TP X pins σ Q) X.xe s
/-- a test whatever its 'whole' is (and, or) -/
noncomputable def PW (X : Cx) (e : Expr) (t : TT) : Prop :=
  ∀ (whole : Sem Value) (pins : List (Addr × Obj)) (s : Shared) (σ : St) (H : Hp) (Q : Bool → Hp → Prop), Inv X pins σ H s → t σ H Q → wpAny (model X.prog X.w) X.A (isTrue e X.env whole) (TP X pins σ Q) X.xe s
theorem PW.pt {X : Cx} {e : Expr} {t : TT} (h : PW X e t) : PT X e t := h _
/-- an argument list (no star), from the left -/
noncomputable def PA (X : Cx) (es : List Expr) (t : TA) : Prop :=
  ∀ (pos : Pos) (pins : List (Addr × Obj)) (s : Shared) (σ : St) (H : Hp) (Q : List V → Hp → Prop), Inv X pins σ H s → t σ H Q → wpAny (model X.prog X.w) X.A (spliced (backTo pos (starEach es X.env))) (AP X pins σ Q) X.xe s
noncomputable def PS (X : Cx) (st : Stmt) (t : TS) : Prop :=
  ∀ (pins : List (Addr × Obj)) (s : Shared) (σ : St) (H : Hp) (D : Ends), Inv X pins σ H s → t D σ H → wpAny (model X.prog X.w) X.A (exec st X.env) (SP X pins D) X.xe s
noncomputable def PSs (X : Cx) (st : List Stmt) (t : TS) : Prop :=
  ∀ (pins : List (Addr × Obj)) (s : Shared) (σ : St) (H : Hp) (D : Ends), Inv X pins σ H s → t D σ H → wpAny (model X.prog X.w) X.A (execs st X.env) (SP X pins D) X.xe s
/-- weaken the end -/
theorem thn {α : Type} {t : Sem α} {Q Q' : α → Shared → Prop} {M : Model} {A : Around} {E : Value → Shared → Prop} {s : Shared} (h : wpAny M A t Q E s) (hQ : ∀ a s, Q a s → Q' a s) : wpAny M A t Q' E s := wpAny_mono h hQ fun _ _ x => x
end L2

namespace L2
open PySem PySem.Spec PyProof.Rows
section
variable {X : Cx}

/-! ### names and constants -/
noncomputable def tVar (i : Nat) : TE := fun σ H Q => ∃ v, σ[i]? = some (some v) ∧ Q v H
noncomputable def tC (v : V) : TE := fun _ H Q => Q v H
theorem pe_var {i : Nat} {x : Str} {pos : Pos} (hN : X.N[i]? = some x) (hv : Vis X.env.scope x) (hd : (x == ("__debug__" : Str)) = false := by decide) (hcd : (x == ("__classdict__" : Str)) = false := by decide) : PE X (.Name x pos) (tVar i) := by
  intro pins s σ H Q I h
  obtain ⟨v, e, h⟩ := h
  obtain ⟨m, hn, hl⟩ := I.loc
  obtain ⟨u, r, l⟩ := hl i x v hN e hv
  have fin : EP X pins σ Q u s := ⟨v, H, I, r, h⟩
  rcases l with ⟨hk, hm⟩ | ⟨hk, c, hc, hcell⟩
  · exact wpAny_Name (wpAny_loadName_local I.ok.kind hk hn hm fin) hd
  · rcases hk with hk | hk
    · exact wpAny_Name (wpAny_loadName_cell I.ok.kind hk hc hcell fin) hd
    · exact wpAny_Name (wpAny_loadName_free I.ok.kind hk hc hcell fin hcd) hd
theorem pe_int {i j pos} : PE X (.Constant (.int i) j pos) (tC (.int i)) := fun _ _ _ H _ I h => wpAny_Constant_int ⟨.int i, H, I.tok _, ⟨_, rfl⟩, h⟩
theorem pe_bl {b j pos} : PE X (.Constant (.bool b) j pos) (tC (.bl b)) := fun _ _ _ H _ I h => Constant_bool ⟨.bl b, H, I, rfl, h⟩
theorem pe_str {x j pos} : PE X (.Constant (.str x) j pos) (tC (.str x)) := fun _ _ _ H _ I h => Calls.Constant_str ⟨.str x, H, I.tok _, ⟨_, rfl⟩, h⟩

/-- a global name of the def -/
noncomputable def Gl (X : Cx) (x : Str) : Prop := X.env.kindOf x = some .globalImplicit
theorem ld_glob {E : Value → Shared → Prop} {pins : List (Addr × Obj)} {s : Shared} {σ : St} {H : Hp} {x : Str} {u : Value} {pos : Pos} {Q : Value → Shared → Prop} (I : Inv X pins σ H s) (hg : Gl X x) (hm : X.mg x = some u) (h : Q u s)
    (hd : (x == ("__debug__" : Str)) = false := by decide) : wpAny (model X.prog X.w) X.A (eval (.Name x pos) X.env) Q E s :=
  Calls.Name_function_global I.ok.kind hg (Calls.loadGlobal_global (by rw [I.ok.glob]; exact I.mod.glob.keeps I.bk) hm h) hd
theorem ld_blt {E : Value → Shared → Prop} {pins : List (Addr × Obj)} {s : Shared} {σ : St} {H : Hp} {x : Str} {u : Value} {pos : Pos} {Q : Value → Shared → Prop} (I : Inv X pins σ H s) (hg : Gl X x) (hm : X.mg x = none) (hv : bootBuiltins x = some u) (h : Q u s)
    (hn : x ≠ "__name__" := by decide) (hd : (x == ("__debug__" : Str)) = false := by decide) : wpAny (model X.prog X.w) X.A (eval (.Name x pos) X.env) Q E s := by
  obtain ⟨mb, h1, h2⟩ := I.mod.blt
  exact Calls.Name_function_global I.ok.kind hg (Calls.loadGlobal_builtin (by rw [I.ok.glob]; exact I.mod.glob.keeps I.bk) hm (by rw [I.ok.blt]; exact h1.keeps I.bk) ((h2 x hn).trans hv) h) hd
/-- a module's constant, a class, a function, as a value -/
theorem pe_glob {x : Str} {v : V} {u : Value} {pos : Pos} (hg : Gl X x) (hm : X.mg x = some u) (r : RelV v u) (hd : (x == ("__debug__" : Str)) = false := by decide) : PE X (.Name x pos) (tC v) :=
  fun _ _ _ H _ I h => ld_glob I hg hm ⟨v, H, I, r, h⟩ hd
theorem pe_bltn {x : Str} {v : V} {u : Value} {pos : Pos} (hg : Gl X x) (hm : X.mg x = none) (hv : bootBuiltins x = some u) (r : RelV v u) (hn : x ≠ "__name__" := by decide) (hd : (x == ("__debug__" : Str)) = false := by decide) : PE X (.Name x pos) (tC v) :=
  fun _ _ _ H _ I h => ld_blt I hg hm hv ⟨v, H, I, r, h⟩ hn hd

/-! ### arithmetic -/
variable {a b : Expr} {ta tb : TE} {pos : Pos}
/-! ### comparisons -/
/-- a comparison as a value, as a test -/
noncomputable def tB (t : TE) : TT := fun σ H Q => t σ H fun x H1 => ∃ c, x = .bl c ∧ Q c H1
/-! ### and, or, not -/
variable {tA tB' : TT} {rest : List Expr}
noncomputable def tAnd (t u : TT) : TT := fun σ H Q => t σ H fun c H1 => if c = true then u σ H1 Q else Q false H1
noncomputable def tOr (t u : TT) : TT := fun σ H Q => t σ H fun c H1 => if c = true then Q true H1 else u σ H1 Q
noncomputable def tNot (t : TT) : TT := fun σ H Q => t σ H fun c H1 => Q (!c) H1
theorem pw_and1 (ha : PT X a tA) : PW X (.BoolOp .And [a] pos) tA := by
  intro wh pins s σ H Q I h
  refine isTrue_and (thn (ha pins s σ H Q I h) fun c s1 e => ?_)
  cases c with
  | true => exact isTrue_and_nil e
  | false => exact e
theorem pw_or1 (ha : PT X a tA) : PW X (.BoolOp .Or [a] pos) tA := by
  intro wh pins s σ H Q I h
  refine isTrue_or (thn (ha pins s σ H Q I h) fun c s1 e => ?_)
  cases c with
  | false => exact isTrue_or_nil e
  | true => exact e
theorem pw_and (ha : PT X a tA) (hb : PW X (.BoolOp .And (b :: rest) pos) tB') : PW X (.BoolOp .And (a :: b :: rest) pos) (tAnd tA tB') := by
  intro wh pins s σ H Q I h
  refine isTrue_and (thn (ha pins s σ H _ I h) fun c s1 ⟨H1, I1, q1⟩ => ?_)
  cases c with
  | true => exact hb wh pins s1 σ H1 Q I1 q1
  | false => exact ⟨H1, I1, q1⟩
theorem pw_or (ha : PT X a tA) (hb : PW X (.BoolOp .Or (b :: rest) pos) tB') : PW X (.BoolOp .Or (a :: b :: rest) pos) (tOr tA tB') := by
  intro wh pins s σ H Q I h
  refine isTrue_or (thn (ha pins s σ H _ I h) fun c s1 ⟨H1, I1, q1⟩ => ?_)
  cases c with
  | true => exact ⟨H1, I1, q1⟩
  | false => exact hb wh pins s1 σ H1 Q I1 q1
theorem pt_not (ha : PT X a tA) : PT X (.UnaryOp .Not a pos) (tNot tA) := by
  intro pins s σ H Q I h
  exact isTrue_not (ha pins s σ H (fun c H1 => Q (!c) H1) I h)
/-- .. as values (bools) -/
noncomputable def tAndV (ta tb : TE) : TE := fun σ H Q => ta σ H fun x H1 => ∃ c, x = .bl c ∧ if c = true then tb σ H1 Q else Q (.bl false) H1
noncomputable def tOrV (ta tb : TE) : TE := fun σ H Q => ta σ H fun x H1 => ∃ c, x = .bl c ∧ if c = true then Q (.bl true) H1 else tb σ H1 Q
noncomputable def tNotV (ta : TE) : TE := fun σ H Q => ta σ H fun x H1 => ∃ c, x = .bl c ∧ Q (.bl (!c)) H1
theorem pe_one {op} {t : TE} (h : PE X a t) : PE X (.BoolOp op [a] pos) t := fun pins s σ H Q I hw => BoolOp_one (h pins s σ H Q I hw)
theorem pe_and (ha : PE X a ta) (hb : PE X (.BoolOp .And (b :: rest) pos) tb) : PE X (.BoolOp .And (a :: b :: rest) pos) (tAndV ta tb) := by
  intro pins s σ H Q I h
  refine BoolOp_and (thn (ha pins s σ H _ I h) fun v s1 ⟨x, H1, I1, r1, q1⟩ => ?_)
  obtain ⟨c, rfl, q1⟩ := q1
  cases r1
  refine wpAny_truthy_bool ?_
  cases c with
  | true => exact hb pins s1 σ H1 Q I1 q1
  | false => exact ⟨.bl false, H1, I1, rfl, q1⟩
theorem pe_or (ha : PE X a ta) (hb : PE X (.BoolOp .Or (b :: rest) pos) tb) : PE X (.BoolOp .Or (a :: b :: rest) pos) (tOrV ta tb) := by
  intro pins s σ H Q I h
  refine BoolOp_or (thn (ha pins s σ H _ I h) fun v s1 ⟨x, H1, I1, r1, q1⟩ => ?_)
  obtain ⟨c, rfl, q1⟩ := q1
  cases r1
  refine wpAny_truthy_bool ?_
  cases c with
  | false => exact hb pins s1 σ H1 Q I1 q1
  | true => exact ⟨.bl true, H1, I1, rfl, q1⟩
theorem pe_not (ha : PE X a ta) : PE X (.UnaryOp .Not a pos) (tNotV ta) := by
  intro pins s σ H Q I h
  refine UnaryOp_ (thn (ha pins s σ H _ I h) fun v s1 ⟨x, H1, I1, r1, q1⟩ => ?_)
  obtain ⟨c, rfl, q1⟩ := q1
  cases r1
  exact not_of (wpAny_truthy_bool ⟨.bl (!c), H1, I1, rfl, q1⟩)
end
end L2

namespace L2
open PySem PySem.Spec PyProof.Rows

/-! ### a list, a tuple that is read: tracked, frozen, or an object of the module -/
noncomputable def SqL (K : PySem.W.Frag) (H : Hp) (a : Addr) (xs : List V) : Prop :=
  Rd H a (.lst xs) ∨
    ∃ (o : Obj) (its : Array Value) (n : Nat), K.lookup a = some o ∧ o.cls = .type "list" ∧ o.dict = none ∧ o.data = .seq its n ∧ its.size ≤ sizeLine ∧ Vals xs its.toList
noncomputable def SqT (K : PySem.W.Frag) (H : Hp) (a : Addr) (xs : List V) : Prop :=
  Rd H a (.tup xs) ∨
    ∃ (o : Obj) (its : Array Value) (n : Nat), K.lookup a = some o ∧ o.cls = .type "tuple" ∧ o.data = .seq its n ∧ its.size ≤ sizeLine ∧ Vals xs its.toList
noncomputable def absV : Value → Option V
  | .none => some .non
  | .bool b => some (.bl b)
  | .int i _ => some (.int i)
  | .str x _ => some (.str x)
  | .bytes b _ => some (.byt b)
  | .float b _ => some (.flt b)
  | .ref a => some (.ref a)
  | .type n => some (.ty n)
  | _ => none
theorem RelV.abs {x : V} {u : Value} (r : RelV x u) : absV u = some x := by
  cases x with
  | non => cases r; rfl
  | bl _ => cases r; rfl
  | int _ => obtain ⟨t, rfl⟩ := r; rfl
  | str _ => obtain ⟨t, rfl⟩ := r; rfl
  | byt _ => obtain ⟨t, rfl⟩ := r; rfl
  | flt _ => obtain ⟨t, rfl⟩ := r; rfl
  | ref _ => cases r; rfl
  | ty _ => cases r; rfl
theorem RelV.inj {x y : V} {u : Value} (r : RelV x u) (q : RelV y u) : x = y := Option.some.inj (r.abs.symm.trans q.abs)
theorem Vals.inj : ∀ {xs ys : List V} {us : List Value}, Vals xs us → Vals ys us → xs = ys
  | _, _, _, .nil, .nil => rfl
  | _, _, _, .cons r t, .cons r' t' => by rw [r.inj r', Vals.inj t t']
section
variable {X : Cx} {pins : List (Addr × Obj)} {σ : St} {H : Hp} {s : Shared} {a : Addr} {xs ys : List V}
theorem SqL.of {K : PySem.W.Frag} (h : H a = some (.lst xs)) : SqL K H a xs := .inl (.inl h)
theorem SqT.of {K : PySem.W.Frag} (h : H a = some (.tup xs)) : SqT K H a xs := .inl (.inl h)
theorem Inv.list (I : Inv X pins σ H s) (h : SqL X.K H a xs) : ∃ its : List Value, Vals xs its ∧ PlainL s.heap a its.toArray ∧ xs.length ≤ sizeLine := by
  rcases h with h | ⟨o, its, n, hk, hc, hd, hs, hz, r⟩
  · obtain ⟨z, its, n, r, e⟩ := h.ok I.hok
    exact ⟨its, r, ⟨_, n, e, rfl, rfl, rfl⟩, z⟩
  · refine ⟨its.toList, r, ⟨o, n, I.kIn a o hk, hc, hd, by simpa using hs⟩, ?_⟩
    have e := r.length
    simp only [Array.length_toList] at e
    omega
theorem Inv.tuple (I : Inv X pins σ H s) (h : SqT X.K H a xs) : ∃ its : List Value, Vals xs its ∧ IsTup s.heap a its.toArray ∧ xs.length ≤ sizeLine := by
  rcases h with h | ⟨o, its, n, hk, hc, hs, hz, r⟩
  · obtain ⟨z, its, r, p⟩ := h.ok I.hok
    exact ⟨its, r, p, z⟩
  · refine ⟨its.toList, r, ⟨o, I.kIn a o hk, hc, n, by simpa using hs⟩, ?_⟩
    have e := r.length
    simp only [Array.length_toList] at e
    omega
theorem Inv.list_inj (I : Inv X pins σ H s) (h : SqL X.K H a xs) (h' : SqL X.K H a ys) : xs = ys := by
  obtain ⟨its, r, ⟨o, n, e, _, _, d⟩, _⟩ := I.list h
  obtain ⟨its', r', ⟨o', n', e', _, _, d'⟩, _⟩ := I.list h'
  rw [e] at e'; cases e'
  rw [d] at d'
  injection d' with d1 _
  have : its = its' := by simpa using congrArg Array.toList d1
  subst this
  exact r.inj r'
theorem Inv.tuple_inj (I : Inv X pins σ H s) (h : SqT X.K H a xs) (h' : SqT X.K H a ys) : xs = ys := by
  obtain ⟨its, r, ⟨o, e, _, n, d⟩, _⟩ := I.tuple h
  obtain ⟨its', r', ⟨o', e', _, n', d'⟩, _⟩ := I.tuple h'
  rw [e] at e'; cases e'
  rw [d] at d'
  injection d' with d1 _
  have : its = its' := by simpa using congrArg Array.toList d1
  subst this
  exact r.inj r'
end

/-! ### another wish about exceptions -/
noncomputable abbrev Cx.wish (X : Cx) (E : Value → Shared → Prop) : Cx := { X with xe := E }
/-- no exception leaves -/
noncomputable abbrev Cx.nox (X : Cx) : Cx := X.wish fun _ _ => False
theorem Cx.Ok.wish {X : Cx} (ok : X.Ok) (E : Value → Shared → Prop) : (X.wish E).Ok :=
  ⟨ok.mod, ok.kind, ok.glob, ok.blt, ok.above, ok.inj, ok.has, ok.cab, ok.hd, ok.frames, ok.stk, ok.exf, ok.bs, ok.bsz, ok.noex, ok.exfs, ok.funs, ok.frf⟩
theorem Cx.Ok.unwish {X : Cx} {E : Value → Shared → Prop} (ok : (X.wish E).Ok) : X.Ok :=
  ⟨ok.mod, ok.kind, ok.glob, ok.blt, ok.above, ok.inj, ok.has, ok.cab, ok.hd, ok.frames, ok.stk, ok.exf, ok.bs, ok.bsz, ok.noex, ok.exfs, ok.funs, ok.frf⟩
section
variable {X : Cx} {pins : List (Addr × Obj)} {σ : St} {H : Hp} {s : Shared} {E : Value → Shared → Prop}
theorem Inv.wish (I : Inv X pins σ H s) (E : Value → Shared → Prop) : Inv (X.wish E) pins σ H s := ⟨I.ok.wish E, I.os, I.bare, I.base, I.loc, I.cell, I.free, I.freeC, I.pin, I.hok, I.len⟩
theorem Inv.unwish (I : Inv (X.wish E) pins σ H s) : Inv X pins σ H s := ⟨I.ok.unwish, I.os, I.bare, I.base, I.loc, I.cell, I.free, I.freeC, I.pin, I.hok, I.len⟩
theorem SP.unwish {D : Ends} {f : Flow} {s' : Shared} (h : SP (X.wish E) pins D f s') : SP X pins D f s' := by
  cases f with
  | next => obtain ⟨σ', H', I, q⟩ := h; exact ⟨σ', H', I.unwish, q⟩
  | brk => obtain ⟨σ', H', I, q⟩ := h; exact ⟨σ', H', I.unwish, q⟩
  | cont => obtain ⟨σ', H', I, q⟩ := h; exact ⟨σ', H', I.unwish, q⟩
  | ret u => obtain ⟨v, σ', H', I, r, q⟩ := h; exact ⟨v, σ', H', I.unwish, r, q⟩
theorem PSs.nox {st : List Stmt} {t : TS} (h : PSs X.nox st t) : PSs X st t := fun pins s σ H D I hw =>
  wpAny_mono (h pins s σ H D (I.wish _) hw) (fun _ _ q => q.unwish) fun _ _ z => False.elim z
end

/-! ### blocks and small statements -/
section
variable {X : Cx} {st : Stmt} {rest : List Stmt} {t u : TS} {e : Expr} {te : TE} {pos : Pos}
noncomputable def tNext : TS := fun D σ H => D.nx σ H
noncomputable def tSeq (t u : TS) : TS := fun D σ H => t { D with nx := u D } σ H
theorem pss_nil : PSs X [] tNext := fun _ _ σ H _ I h => wpAny_execs_nil ⟨σ, H, I, h⟩
theorem pss_cons (h1 : PS X st t) (h2 : PSs X rest u) : PSs X (st :: rest) (tSeq t u) := by
  intro pins s σ H D I h
  refine wpAny_execs_cons (thn (h1 pins s σ H { D with nx := u D } I h) fun f s1 q => ?_)
  cases f with
  | next =>
    obtain ⟨σ', H', I', q⟩ := q
    exact h2 pins s1 σ' H' D I' q
  | ret v => exact q
  | brk => exact q
  | cont => exact q
theorem pss_one (h1 : PS X st t) : PSs X [st] t := by
  intro pins s σ H D I h
  refine wpAny_execs_cons (thn (h1 pins s σ H D I h) fun f s1 q => ?_)
  cases f with
  | next => exact wpAny_execs_nil q
  | ret v => exact q
  | brk => exact q
  | cont => exact q
/-- in a def's body nothing is shown -/
theorem Inv.quiet {pins : List (Addr × Obj)} {σ : St} {H : Hp} {s : Shared} (I : Inv X pins σ H s) : interactive X.env = false := by simp [interactive, I.ok.kind]
/-- an expression whose value is dropped -/
noncomputable def tDrop (te : TE) : TS := fun D σ H => te σ H fun _ H1 => D.nx σ H1
theorem ps_expr (he : PE X e te) (hs : swapsWith e none pos.line X.env = pure false := by rfl) : PS X (.Expr e pos) (tDrop te) := by
  intro pins s σ H D I h
  exact wpAny_Expr_any (thn (he pins s σ H _ I h) fun v s1 ⟨x, H1, I1, r1, q1⟩ => ⟨σ, H1, I1, q1⟩) I.quiet hs
noncomputable def tRet (te : TE) : TS := fun D σ H => te σ H D.rt
theorem ps_ret (he : PE X e te) : PS X (.Return (some e) pos) (tRet te) := by
  intro pins s σ H D I h
  exact wpAny_Return_some (thn (he pins s σ H _ I h) fun v s1 ⟨x, H1, I1, r1, q1⟩ => ⟨x, σ, H1, I1, r1, q1⟩)
noncomputable def tIfS (c : TT) (t u : TS) : TS := fun D σ H => c σ H fun b H1 => if b = true then t D σ H1 else u D σ H1
theorem ps_if {c : Expr} {a b : List Stmt} {tc : TT} (hc : PT X c tc) (ha : PSs X a t) (hb : PSs X b u) : PS X (.If c a b pos) (tIfS tc t u) := by
  intro pins s σ H D I h
  refine wpAny_If (thn (hc pins s σ H _ I h) fun d s1 ⟨H1, I1, q1⟩ => ?_)
  cases d with
  | true => exact ha pins s1 σ H1 D I1 q1
  | false => exact hb pins s1 σ H1 D I1 q1
end

/-! ### targets -/
noncomputable abbrev TG := V → St → Hp → (St → Hp → Prop) → Prop
noncomputable abbrev TGs := List V → St → Hp → (St → Hp → Prop) → Prop
noncomputable def PG (X : Cx) (target : Expr) (t : TG) : Prop :=
  ∀ (pins : List (Addr × Obj)) (s : Shared) (σ : St) (H : Hp) (v : V) (u : Value) (Q : St → Hp → Prop), Inv X pins σ H s → RelV v u → t v σ H Q →
    wpAny (model X.prog X.w) X.A (assign target X.env u) (fun _ s' => ∃ σ' H', Inv X pins σ' H' s' ∧ Q σ' H') X.xe s
/-- several targets, one after another -/
noncomputable def PGs (X : Cx) (ts : List Expr) (t : TGs) : Prop :=
  ∀ (pins : List (Addr × Obj)) (s : Shared) (σ : St) (H : Hp) (vs : List V) (us : List Value) (Q : St → Hp → Prop), Inv X pins σ H s → Vals vs us → t vs σ H Q →
    wpAny (model X.prog X.w) X.A (assignInOrder ((assignEach ts X.env).map (·.2)) us) (fun _ s' => ∃ σ' H', Inv X pins σ' H' s' ∧ Q σ' H') X.xe s
/-- o[i] = v, by values -/
noncomputable abbrev TSet := V → V → V → Hp → (Hp → Prop) → Prop
noncomputable def PSet (X : Cx) (t : TSet) : Prop :=
  ∀ (pins : List (Addr × Obj)) (s : Shared) (σ : St) (H : Hp) (o i v : V) (ov iv u : Value) (Q : Hp → Prop), Inv X pins σ H s → RelV o ov → RelV i iv → RelV v u → t o i v H Q →
    wpAny (model X.prog X.w) X.A (setItem ov iv u) (fun _ s' => ∃ H', Inv X pins σ H' s' ∧ Q H') X.xe s
/-- a op= b, by values -/
noncomputable abbrev TIp := V → V → Hp → VK → Prop
noncomputable def PIp (X : Cx) (op : Operator) (t : TIp) : Prop :=
  ∀ (pins : List (Addr × Obj)) (s : Shared) (σ : St) (H : Hp) (x y : V) (v u : Value) (Q : VK), Inv X pins σ H s → RelV x v → RelV y u → t x y H Q →
    wpAny (model X.prog X.w) X.A (inplaceOp op v u) (EP X pins σ Q) X.xe s
section
variable {X : Cx} {pos : Pos}
noncomputable def gName (i : Nat) : TG := fun v σ H Q => Q (σ.set i (some v)) H
theorem pg_name {i : Nat} {x : Str} (hN : X.N.Nodup) (hi : X.N[i]? = some x) (hx : Loc X.env.scope x) (hf : X.fn x = true ∨ X.env.scope.names.lookup x = some .local := by first | exact .inl rfl | exact .inr rfl | assumption) : PG X (.Name x pos) (gName i) := by
  intro pins s σ H v u Q I r h
  exact wpAny_assign_Name (store_ok I hN hi hx r (fun s' I' => ⟨_, H, I', h⟩) hf)
noncomputable def gNil : TGs := fun vs σ H Q => vs = [] ∧ Q σ H
noncomputable def gCons (t : TG) (u : TGs) : TGs := fun vs σ H Q => ∃ v r, vs = v :: r ∧ t v σ H fun σ' H' => u r σ' H' Q
theorem pgs_nil : PGs X [] gNil := by
  intro pins s σ H vs us Q I r h
  obtain ⟨e, h⟩ := h
  subst e
  cases r
  exact assignInOrder_nil ⟨σ, H, I, h⟩
theorem pgs_cons {e : Expr} {es : List Expr} {t : TG} {u : TGs} (h1 : PG X e t) (h2 : PGs X es u)
    (hs : (assignEach (e :: es) X.env).map (·.2) = assign e X.env :: (assignEach es X.env).map (·.2) := by rfl) : PGs X (e :: es) (gCons t u) := by
  intro pins s σ H vs us Q I r h
  obtain ⟨v, vr, e1, h⟩ := h
  subst e1
  cases r with
  | cons r rr =>
    rw [hs]
    refine assignInOrder_cons (thn (h1 pins s σ H _ _ _ I r h) fun _ s1 ⟨σ1, H1, I1, q1⟩ => ?_)
    exact h2 pins s1 σ1 H1 _ _ Q I1 rr q1
/-- (a, b, ..) = a tuple of that length -/
noncomputable def gTup (K : PySem.W.Frag) (n : Nat) (t : TGs) : TG := fun v σ H Q => ∃ a xs, v = .ref a ∧ SqT K H a xs ∧ xs.length = n ∧ t xs σ H Q
theorem pg_tup {es : List Expr} {k : Nat} {t : TGs} {n : Nat} (hc : X.calm = true) (h : PGs X es t)
    (hn : (assignEach es X.env).length = n := by rfl) (hst : (assignEach es X.env).findIdx? (·.1) = none := by rfl) : PG X (.Tuple es k pos) (gTup X.K n t) := by
  intro pins s σ H v u Q I r hw
  obtain ⟨a, xs, e1, hq, hl, hw⟩ := hw
  subst e1
  cases r
  obtain ⟨its, rv, ht, hz⟩ := I.tuple hq
  refine assign_Tuple_tuple (I.ok.hd hc) ht (by simp [hn, ← hl, rv.length]) hst fun h' hx => ?_
  have I1 : Inv X pins σ H { s with heap := h' } := I.kept (t' := s.toks) fun b o e => hx b o (Nat.ne_of_lt (Heap.lt_size e)) e
  exact h pins _ σ H xs _ Q I1 (by simpa using rv) hw
/-- o[i] = .. -/
noncomputable def gSub (to ti : TE) (t : TSet) : TG := fun v σ H Q => to σ H fun o H1 => ti σ H1 fun i H2 => t o i v H2 fun H3 => Q σ H3
theorem pg_sub {o i : Expr} {to ti : TE} {t : TSet} (ho : PE X o to) (hi : PE X i ti) (hs : PSet X t)
    (ha : ∀ v, assign (.Subscript o i pos) X.env v = (do
      let ov ← holding [v] (eval o X.env)
      let iv ← holding [v, ov] (eval i X.env)
      standAt pos
      holding [v, ov, iv] (setItem ov iv v)
      release [v, ov, iv] []) := by intro _; rfl) : PG X (.Subscript o i pos) (gSub to ti t) := by
  intro pins s σ H v u Q I r h
  rw [ha]
  refine wpAny_bind (wpAny_holding (thn (ho pins s σ H _ I h) fun ov s1 ⟨x, H1, I1, r1, q1⟩ => ?_))
  refine wpAny_bind (wpAny_holding (thn (hi pins s1 σ H1 _ I1 q1) fun iv s2 ⟨y, H2, I2, r2, q2⟩ => ?_))
  refine wpAny_bind (wpAny_standAt (wpAny_bind (wpAny_holding (thn (hs pins s2 σ H2 x y v ov iv u _ I2 r1 r2 r q2) fun _ s3 ⟨H3, I3, q3⟩ => ?_))))
  exact wpAny_release ⟨σ, H3, I3, q3⟩
/-- target = value -/
noncomputable def tAsg (te : TE) (g : TG) : TS := fun D σ H => te σ H fun x H1 => g x σ H1 D.nx
theorem ps_asg {tg e : Expr} {te : TE} {g : TG} (he : PE X e te) (hg : PG X tg g) (hs : swapsWithSole [tg] e pos.line X.env = pure false := by rfl) (hw : swappedStores [tg] e X.env = pure none := by rfl)
    (h1 : (assignEach [tg] X.env).map (·.2) = [assign tg X.env] := by rfl) : PS X (.Assign [tg] e pos) (tAsg te g) := by
  intro pins s σ H D I h
  refine wpAny_Assign_stores (thn (he pins s σ H _ I h) fun v s1 ⟨x, H1, I1, r1, q1⟩ => ?_) hs hw
  rw [h1]
  exact thn (hg pins s1 σ H1 x v _ I1 r1 q1) fun _ s2 q => q
/-- name = value -/
theorem ps_set {i : Nat} {x : Str} {e : Expr} {te : TE} {pos' : Pos} (hN : X.N.Nodup) (hi : X.N[i]? = some x) (hx : Loc X.env.scope x) (he : PE X e te) (hs : swapsWith e (some (.Name x pos')) pos.line X.env = pure false := by rfl) (hf : X.fn x = true ∨ X.env.scope.names.lookup x = some .local := by first | exact .inl rfl | exact .inr rfl | assumption) :
    PS X (.Assign [.Name x pos'] e pos) (tAsg te (gName i)) := by
  intro pins s σ H D I h
  refine wpAny_Assign_Name (thn (he pins s σ H _ I h) fun v s1 ⟨y, H1, I1, r1, q1⟩ => ?_) hs
  exact store_ok I1 hN hi hx r1 (fun s2 I2 => ⟨_, H1, I2, q1⟩) hf
/-- name op= e -/
noncomputable def tAug (i : Nat) (te : TE) (ti : TIp) : TS := fun D σ H => ∃ x, σ[i]? = some (some x) ∧ te σ H fun y H1 => ti x y H1 fun z H2 => D.nx (σ.set i (some z)) H2
theorem ps_aug {i : Nat} {x : Str} {e : Expr} {te : TE} {op : Operator} {ti : TIp} {pos' : Pos} (hN : X.N.Nodup) (hi : X.N[i]? = some x) (hx : Loc X.env.scope x) (he : PE X e te) (ho : PIp X op ti) (hf : X.fn x = true ∨ X.env.scope.names.lookup x = some .local := by first | exact .inl rfl | exact .inr rfl | assumption) :
    PS X (.AugAssign (.Name x pos') op e pos) (tAug i te ti) := by
  intro pins s σ H D I h
  obtain ⟨v, e1, h⟩ := h
  obtain ⟨m, hn, hl⟩ := I.loc
  have vis : Vis X.env.scope x := by rcases hx with k | k; exact .inl k; exact .inr (.inl k)
  obtain ⟨u, r, l⟩ := hl i x v hi e1 vis
  refine wpAny_AugAssign_Name ?_
  have go : wpAny (model X.prog X.w) X.A (eval e X.env) (fun w s₂ => wpAny (model X.prog X.w) X.A (inplaceOp op u w) (fun r s₃ => wpAny (model X.prog X.w) X.A (storeName X.env x r) (fun _ => SP X pins D .next) X.xe s₃) X.xe s₂) X.xe s := by
    refine thn (he pins s σ H _ I h) fun w s1 ⟨y, H1, I1, r1, q1⟩ => ?_
    refine thn (ho pins s1 σ H1 v y u w _ I1 r r1 q1) fun z s2 ⟨zv, H2, I2, r2, q2⟩ => ?_
    exact store_ok I2 hN hi hx r2 (fun s3 I3 => ⟨_, H2, I3, q2⟩) hf
  rcases l with ⟨hk, hm⟩ | ⟨hk, c, hc, hcell⟩
  · exact wpAny_loadName_local I.ok.kind hk hn hm go
  · rcases hk with hk | hk
    · exact wpAny_loadName_cell I.ok.kind hk hc hcell go
    · rcases hx with k | k
      · have : X.env.scope.names.lookup x = some .free := hk
        rw [k] at this; cases this
      · have : X.env.scope.names.lookup x = some .free := hk
        rw [k] at this; cases this
end

/-! ### while -/
section
variable {X : Cx} {pos : Pos}
/-- the invariant W with its measure -/
noncomputable def tWhile (c : TT) (tb : TS) : TS := fun D σ H => ∃ W : Nat → St → Hp → Prop, (∃ m, W m σ H) ∧ ∀ m σ H, W m σ H →
  c σ H fun b H1 => if b = true then ∃ N : St → Hp → Prop, (∀ σ' H', N σ' H' → ∃ m', m' < m ∧ W m' σ' H') ∧ tb { D with nx := N, ct := N, bk := D.nx } σ H1 else D.nx σ H1
theorem ps_while {c : Expr} {body : List Stmt} {tc : TT} {tb : TS} (hp : PassesOwn (model X.prog X.w) X.A X.env X.xe) (hc : PT X c tc) (hb : PSs X body tb) : PS X (.While c body [] pos) (tWhile tc tb) := by
  intro pins s σ H D I h
  obtain ⟨W, ⟨m0, w0⟩, turn⟩ := h
  refine wpAny_While (codeAny_whileLoop (fun n s' => ∃ σ' H', Inv X pins σ' H' s' ∧ W n σ' H') ?_ m0 ⟨σ, H, I, w0⟩)
  rintro n s1 ⟨σ1, H1, I1, w1⟩
  refine wpAny_passesOwn hp (thn (hc pins s1 σ1 H1 _ I1 (turn n σ1 H1 w1)) fun b s2 ⟨H2, I2, q2⟩ => ?_)
  cases b with
  | true =>
    obtain ⟨N, hN, q2⟩ := q2
    rw [if_pos rfl]
    refine wpAny_passesOwn hp (thn (hb pins s2 σ1 H2 _ I2 q2) fun f s3 q3 => ?_)
    cases f with
    | next =>
      obtain ⟨σ3, H3, I3, n3⟩ := q3
      obtain ⟨m', hm, w3⟩ := hN σ3 H3 n3
      exact ⟨m', hm, σ3, H3, I3, w3⟩
    | cont =>
      obtain ⟨σ3, H3, I3, n3⟩ := q3
      obtain ⟨m', hm, w3⟩ := hN σ3 H3 n3
      exact ⟨m', hm, σ3, H3, I3, w3⟩
    | brk => exact q3
    | ret v => exact q3
  | false =>
    rw [if_neg Bool.false_ne_true]
    exact wpAny_execs_nil ⟨σ1, H2, I2, q2⟩
end

/-! ### what a loop or a comprehension walks -/
/-- at turn i: it yields x (the heap may grow), or it stops -/
structure It where
  go : Nat → Hp → Prop
  yld : Nat → Hp → V → Hp → Prop
  stop : Nat → Hp → Prop
/-- the iterator's own objects may turn: they are not the frame's, not pinned, younger than the entry (or a comprehension's own) -/
noncomputable def FpOk (X : Cx) (pins : List (Addr × Obj)) (H : Hp) (b : Addr) : Prop :=
  H b = none ∧ b ≠ X.env.locals ∧ b ∉ X.fs ∧ (b ∈ X.ex ∨ X.s₀.heap.objs.size ≤ b) ∧ (∀ x c, X.env.cells.lookup x = some c → c ≠ b) ∧ ∀ p ∈ X.pn ++ pins, p.1 ≠ b
theorem Inv.fpOk {X : Cx} {pins : List (Addr × Obj)} {σ : St} {H H' : Hp} {s : Shared} {b : Addr} (I : Inv X pins σ H s) (hb : s.heap.objs.size ≤ b) (hn : H' b = none) : FpOk X pins H' b := by
  refine ⟨hn, Nat.ne_of_gt (Nat.lt_of_lt_of_le I.lt hb), I.nofs hb, .inr (Nat.le_trans I.sz hb), fun x c e z => ?_, fun p hp z => ?_⟩
  · obtain ⟨v, q⟩ := I.cell x c e
    exact absurd (Nat.lt_of_lt_of_le q.lt (by rw [z]; exact hb)) (Nat.lt_irrefl _)
  · exact absurd (Nat.lt_of_lt_of_le (Heap.lt_size (I.pin p hp).1) (by rw [z]; exact hb)) (Nat.lt_irrefl _)
structure Turn (P : Program) (w : World) (K : PySem.W.Frag) (tg : Expr) (J : It) (fp : List Addr) (it : Addr) (tn : Nat → Heap → Prop) : Prop where
  mem : it ∈ fp
  obj : ∀ i h, tn i h → ∀ b ∈ fp, ∃ o, h.get? b = some o ∧ ∀ v, o.data ≠ .cell v
  keep : ∀ i h h', tn i h → (∀ b ∈ fp, ∀ o, h.get? b = some o → h'.get? b = some o) → tn i h'
  item : ∀ (X : Cx), X.prog = P → X.w = w → X.K = K → X.calm = true → ∀ (i : Nat) (pins : List (Addr × Obj)) (s : Shared) (σ : St) (H : Hp) (E : Value → Shared → Prop), Inv X pins σ H s → (∀ b ∈ fp, FpOk X pins H b) → tn i s.heap → J.go i H →
    wpAny (model P w) X.A (pyNext (.ref it)) (fun r s1 => ∃ u, r = some u ∧
      wpAny (model P w) X.A (letOwnedTupleGo tg (.ref it) u) (fun _ s2 => ∃ x H', Inv X pins σ H' s2 ∧ RelV x u ∧ J.yld i H x H' ∧ tn (i + 1) s2.heap ∧ ∀ b ∈ fp, H' b = none) E s1) E s
  done : ∀ (X : Cx), X.prog = P → X.w = w → X.K = K → X.calm = true → ∀ (i : Nat) (pins : List (Addr × Obj)) (s : Shared) (σ : St) (H : Hp) (E : Value → Shared → Prop), Inv X pins σ H s → (∀ b ∈ fp, FpOk X pins H b) → tn i s.heap → J.stop i H →
    wpAny (model P w) X.A (pyNext (.ref it)) (fun r s1 => r = none ∧ Inv X pins σ H s1) E s
  self : ∀ (A : Around) (i : Nat) (s : Shared) (Q : Value → Shared → Prop) (E : Value → Shared → Prop), tn i s.heap → Q (.ref it) s → wpAny (model P w) A (pyIter (.ref it)) Q E s
noncomputable abbrev TI := St → Hp → (It → Hp → Prop) → Prop
/-- an iterator has come -/
noncomputable def PIE (X : Cx) (pins : List (Addr × Obj)) (σ : St) (tg : Expr) (R : It → Hp → Prop) (itv : Value) (s2 : Shared) : Prop :=
  ∃ (it : Addr) (fp : List Addr) (tn : Nat → Heap → Prop) (J : It) (H' : Hp), itv = .ref it ∧ Inv X pins σ H' s2 ∧ Turn X.prog X.w X.K tg J fp it tn ∧ tn 0 s2.heap ∧ (∀ b ∈ fp, FpOk X pins H' b) ∧ R J H'
noncomputable def PI (X : Cx) (tg iter : Expr) (wi : TI) : Prop :=
  ∀ (pins : List (Addr × Obj)) (s : Shared) (σ : St) (H : Hp) (R : It → Hp → Prop), Inv X pins σ H s → wi σ H R →
    wpAny (model X.prog X.w) X.A (eval iter X.env) (fun v s1 => wpAny (model X.prog X.w) X.A (pyIter v) (PIE X pins σ tg R) X.xe s1) X.xe s

/-- the step ahead of the store is nothing for an iterator that keeps no tuple -/
theorem go_of {M : Model} {A : Around} {E : Value → Shared → Prop} {s : Shared} {tg : Expr} {it : Addr} {u : Value} {o : Obj} {n : String} {vs : Array Value} {Q : Unit → Shared → Prop} (ho : s.heap.get? it = some o) (hc : o.cls = .type n) (hd : o.data = .fields vs)
    (hn : ["enumerate", "zip", "dict_itemiterator", "dict_reverseitemiterator", "odict_iterator", "itertools.zip_longest", "itertools.pairwise"].contains n = false) (hQ : Q () s) : wpAny M A (letOwnedTupleGo tg (.ref it) u) Q E s := by
  unfold letOwnedTupleGo
  cases tg <;> first
    | exact wpAny_pure hQ
    | (cases u <;> first
        | exact wpAny_pure hQ
        | (refine wpAny_bind (wpAny_load ho ?_)
           rw [hc, hd]
           show wpAny M A (if (["enumerate", "zip", "dict_itemiterator", "dict_reverseitemiterator", "odict_iterator", "itertools.zip_longest", "itertools.pairwise"].contains n && vs[0]? == some (rawInt _)) = true then _ else _) Q E s
           rw [if_neg (by intro h; rw [hn, Bool.false_and] at h; cases h)]
           exact wpAny_pure hQ))

/-- the list at a, as it stands at each turn (a loop may append to it) -/
noncomputable def Itl (K : PySem.W.Frag) (a : Addr) : It :=
  ⟨fun i H => ∃ xs x, SqL K H a xs ∧ xs[i]? = some x, fun i H x H' => H' = H ∧ ∀ xs, SqL K H a xs → xs[i]? = some x, fun i H => ∃ xs, SqL K H a xs ∧ xs.length ≤ i⟩
noncomputable def Itt (K : PySem.W.Frag) (a : Addr) : It :=
  ⟨fun i H => ∃ xs x, SqT K H a xs ∧ xs[i]? = some x, fun i H x H' => H' = H ∧ ∀ xs, SqT K H a xs → xs[i]? = some x, fun i H => ∃ xs, SqT K H a xs ∧ xs.length ≤ i⟩
/-- lo, lo + 1, .. (n of them) -/
noncomputable def Itr (lo : Int) (n : Nat) : It := ⟨fun i _ => i < n, fun i H x H' => H' = H ∧ x = .int (lo + i), fun i _ => n ≤ i⟩
theorem turn_list {P : Program} {w : World} {K : PySem.W.Frag} {tg : Expr} (a it : Addr) : Turn P w K tg (Itl K a) [it] it (fun i h => h.IsListIter it a i) where
  mem := by simp
  obj := fun i h st b hb => by
    have e : b = it := by simpa using hb
    subst e
    obtain ⟨o, e, c, d⟩ := st
    exact ⟨o, e, fun v z => by rw [d] at z; cases z⟩
  keep := fun i h h' st k => st.at fun o e => k it (by simp) o e
  item := by
    intro X hP hw hK hc i pins s σ H E I hf st hg
    subst hP hw hK
    obtain ⟨xs, x, hq, hx⟩ := hg
    obtain ⟨its, rv, p, hz⟩ := I.list hq
    obtain ⟨u, hu, ru⟩ := rv.get hx
    obtain ⟨f0, f1, f2, f3, f4, f5⟩ := hf it (by simp)
    refine wpAny_pyNext_list_item st p.isList (x := u) (by simpa using hu) fun h' st' sb => ?_
    have I1 : Inv X pins σ H { s with heap := h' } := I.turned (t' := s.toks) (fun b o hb e => (sb.2 b hb).trans e) f0 f1 f3 f4 f5
    obtain ⟨o, e, c, d⟩ := id st'
    exact ⟨u, rfl, go_of (s := { s with heap := h' }) e c d (by decide) ⟨x, H, I1, ru, ⟨rfl, fun ys hy => by rw [I.list_inj hy hq]; exact hx⟩, st', fun b hb => (hf b hb).1⟩⟩
  done := by
    intro X hP hw hK hc i pins s σ H E I hf st hg
    subst hP hw hK
    obtain ⟨xs, hq, hx⟩ := hg
    obtain ⟨its, rv, p, hz⟩ := I.list hq
    obtain ⟨f0, f1, f2, f3, f4, f5⟩ := hf it (by simp)
    have hl := rv.length
    exact wpAny_pyNext_list_end (I.ok.hd hc) st p.isList (by simp; omega) fun h' eb => ⟨rfl, I.turned (t' := s.toks) (fun b o hb e => eb b o hb e) f0 f1 f3 f4 f5⟩
  self := fun _ _ _ _ _ st h => wpAny_pyIter_listiter st h
theorem turn_tuple {P : Program} {w : World} {K : PySem.W.Frag} {tg : Expr} (a it : Addr) : Turn P w K tg (Itt K a) [it] it (fun i h => h.IsTupleIter it a i) where
  mem := by simp
  obj := fun i h st b hb => by
    have e : b = it := by simpa using hb
    subst e
    obtain ⟨o, e, c, d⟩ := st
    exact ⟨o, e, fun v z => by rw [d] at z; cases z⟩
  keep := fun i h h' st k => st.at fun o e => k it (by simp) o e
  item := by
    intro X hP hw hK hc i pins s σ H E I hf st hg
    subst hP hw hK
    obtain ⟨xs, x, hq, hx⟩ := hg
    obtain ⟨its, rv, p, hz⟩ := I.tuple hq
    obtain ⟨u, hu, ru⟩ := rv.get hx
    obtain ⟨f0, f1, f2, f3, f4, f5⟩ := hf it (by simp)
    refine wpAny_pyNext_tuple_item st (show s.heap.IsTuple a its.toArray from p) (x := u) (by simpa using hu) fun h' st' sb => ?_
    have I1 : Inv X pins σ H { s with heap := h' } := I.turned (t' := s.toks) (fun b o hb e => (sb.2 b hb).trans e) f0 f1 f3 f4 f5
    obtain ⟨o, e, c, d⟩ := id st'
    exact ⟨u, rfl, go_of (s := { s with heap := h' }) e c d (by decide) ⟨x, H, I1, ru, ⟨rfl, fun ys hy => by rw [I.tuple_inj hy hq]; exact hx⟩, st', fun b hb => (hf b hb).1⟩⟩
  done := by
    intro X hP hw hK hc i pins s σ H E I hf st hg
    subst hP hw hK
    obtain ⟨xs, hq, hx⟩ := hg
    obtain ⟨its, rv, p, hz⟩ := I.tuple hq
    obtain ⟨f0, f1, f2, f3, f4, f5⟩ := hf it (by simp)
    have hl := rv.length
    exact wpAny_pyNext_tuple_end (I.ok.hd hc) st (show s.heap.IsTuple a its.toArray from p) (by simp; omega) fun h' eb => ⟨rfl, I.turned (t' := s.toks) (fun b o hb e => eb b o hb e) f0 f1 f3 f4 f5⟩
  self := fun _ _ _ _ _ st h => wpAny_pyIter_tupleiter st h
theorem turn_range {P : Program} {w : World} {K : PySem.W.Frag} {tg : Expr} (it : Addr) (lo : Int) (n : Nat) : Turn P w K tg (Itr lo n) [it] it (fun i h => IsRangeIter h it (lo + (i : Nat) * 1) ((n : Int) - (i : Nat)) 1) where
  mem := by simp
  obj := fun i h st b hb => by
    have e : b = it := by simpa using hb
    subst e
    exact ⟨_, st, fun v z => by
      have z' : Data.fields _ = Data.cell v := z
      cases z'⟩
  keep := fun i h h' st k => k it (by simp) _ st
  item := by
    intro X hP hw hK hc i pins s σ H E I hf st hg
    subst hP hw hK
    obtain ⟨f0, f1, f2, f3, f4, f5⟩ := hf it (by simp)
    have W := Walks.range (prog := X.prog) (w := X.w) (I.ok.hd hc) it lo 1 n
    refine W.item i s _ _ hg st fun v h' tk hv st' kk => ?_
    obtain ⟨t, rfl⟩ := hv
    have I1 : Inv X pins σ H { s with heap := h', toks := tk } := I.turned (fun b o hb e => kk b o (by simpa using hb) e) f0 f1 f3 f4 f5
    refine ⟨_, rfl, go_of (s := { s with heap := h', toks := tk }) (n := "range_iterator") st' rfl rfl (by decide) ⟨.int (lo + i), H, I1, ⟨t, ?_⟩, ⟨rfl, rfl⟩, st', fun b hb => (hf b hb).1⟩⟩
    rw [Int.mul_one]
  done := by
    intro X hP hw hK hc i pins s σ H E I hf st hg
    subst hP hw hK
    obtain ⟨f0, f1, f2, f3, f4, f5⟩ := hf it (by simp)
    exact wpAny_pyNext_range_end (I.ok.hd hc) st (by have : n ≤ i := hg; omega) fun h' eb => ⟨rfl, I.turned (t' := s.toks) (fun b o hb e => eb b o hb e) f0 f1 f3 f4 f5⟩
  self := fun _ _ _ _ _ st h => wpAny_pyIter_rangeiter st h
end L2

namespace L2
open PySem PySem.Spec PyProof.Rows
section
variable {X : Cx} {tg : Expr}
/-- a range object just made, walked -/
theorem range_it {pins : List (Addr × Obj)} {σ : St} {H : Hp} {s : Shared} {R : It → Hp → Prop} {E : Value → Shared → Prop} {lo hi : Int} {t u v : Tok} {tk : Nat} (I : Inv X pins σ H s) (h1 : -(2 ^ 62) ≤ lo) (h2 : lo < 2 ^ 62) (h3 : -(2 ^ 62) ≤ hi) (h4 : hi < 2 ^ 62)
    (q : R (Itr lo (hi - lo).toNat) H) : wpAny (model X.prog X.w) X.A (pyIter (.ref s.heap.objs.size)) (PIE X pins σ tg R) E { s with heap := s.heap.push { cls := .type "range", data := .fields #[.int lo t, .int hi u, .int 1 v] }, toks := tk } := by
  refine wpAny_pyIter_range (IsRange.new ..) (small_one h1 h2 h3 h4) ?_
  have I1 : Inv X pins σ H { s with heap := s.heap.push { cls := .type "range", data := .fields #[.int lo t, .int hi u, .int 1 v] }, toks := tk } := I.kept fun b o e => Heap.get?_push_of_some _ e
  refine ⟨(s.heap.push { cls := .type "range", data := .fields #[.int lo t, .int hi u, .int 1 v] }).objs.size, [(s.heap.push { cls := .type "range", data := .fields #[.int lo t, .int hi u, .int 1 v] }).objs.size], _, _, H, rfl,
    I1.kept (t' := tk) fun b o e => Heap.get?_push_of_some _ e, turn_range _ lo (hi - lo).toNat, ?_, fun b hb => ?_, q⟩
  · have e1 : lo + ((0 : Nat) : Int) * 1 = lo := by simp
    have e2 : (((hi - lo).toNat : Nat) : Int) - ((0 : Nat) : Int) = Builtin.Range.rangeSize lo hi 1 := by rw [rangeSize_one]; split <;> omega
    show IsRangeIter _ _ (lo + ((0 : Nat) : Int) * 1) ((((hi - lo).toNat : Nat) : Int) - ((0 : Nat) : Int)) 1
    rw [e1, e2]
    exact Heap.get?_push_size _ rfl
  · have e : b = (s.heap.push { cls := .type "range", data := .fields #[.int lo t, .int hi u, .int 1 v] }).objs.size := by simpa using hb
    subst e
    exact I1.fpOk (Nat.le_refl _) (I1.hok.fresh (Nat.le_refl _))
noncomputable def iRng1 (ta : TA) : TI := fun σ H R => ta σ H fun vs H1 => ∃ j : Int, vs = [.int j] ∧ -(2 ^ 62) ≤ j ∧ j < 2 ^ 62 ∧ R (Itr 0 j.toNat) H1
theorem pi_range1 {a : Expr} {ta : TA} {p pos : Pos} (hg : Gl X "range") (hm : X.mg "range" = none) (ha : PA X [a] ta) (hs : starEach [a] X.env = [(false, eval a X.env)] := by rfl) : PI X tg (.Call (.Name "range" p) [a] [] pos) (iRng1 ta) := by
  intro pins s σ H R I h
  refine Call_ (ld_blt I hg hm boot_range (PyProof.Rows.callWith_type1 (thn (ha pos pins s σ H _ I h) fun us s1 ⟨vs, H1, I1, r1, q1⟩ => ?_) hs rfl))
  obtain ⟨j, e, q1, q2, q⟩ := q1
  subst e
  cases r1 with
  | cons r rr =>
    cases rr
    obtain ⟨t, rfl⟩ := r
    exact call_range_1 (range_it I1 (by omega) (by omega) q1 q2 (by simpa using q))
/-! ### for -/
/-- W: the invariant by the turn and a measure; N: what the body is to reach -/
noncomputable def tFor (wi : TI) (g : TG) (tb : TS) : TS := fun D σ H => wi σ H fun J H1 => ∃ W : Nat → Nat → St → Hp → Prop, (∃ m, W 0 m σ H1) ∧ ∀ i m σ H, W i m σ H →
  (J.stop i H ∧ D.nx σ H) ∨ (J.go i H ∧ ∃ N : St → Hp → Prop, (∀ σ' H', N σ' H' → ∃ m', m' < m ∧ W (i + 1) m' σ' H') ∧ ∀ x H', J.yld i H x H' → g x σ H' fun σ2 H2 => tb { D with nx := N, ct := N, bk := D.nx } σ2 H2)
/-- the records at fp as they stand -/
noncomputable def pinsAt (fp : List Addr) (h : Heap) : List (Addr × Obj) := fp.filterMap fun b => (h.get? b).map fun o => (b, o)
theorem mem_pinsAt {fp : List Addr} {h : Heap} {b : Addr} {o : Obj} (hb : b ∈ fp) (e : h.get? b = some o) : (b, o) ∈ pinsAt fp h := List.mem_filterMap.mpr ⟨b, hb, by rw [e]; rfl⟩
theorem of_pinsAt {fp : List Addr} {h : Heap} {p : Addr × Obj} (hp : p ∈ pinsAt fp h) : p.1 ∈ fp ∧ h.get? p.1 = some p.2 := by
  obtain ⟨b, hb, e⟩ := List.mem_filterMap.mp hp
  cases q : h.get? b with
  | none => rw [q] at e; cases e
  | some o =>
    rw [q] at e
    have e' : (b, o) = p := Option.some.inj e
    subst e'
    exact ⟨hb, q⟩
theorem Inv.pinned {pins : List (Addr × Obj)} {σ : St} {H : Hp} {s : Shared} {fp : List Addr} (I : Inv X pins σ H s) (hf : ∀ b ∈ fp, FpOk X pins H b) (ho : ∀ b ∈ fp, ∃ o, s.heap.get? b = some o ∧ ∀ v, o.data ≠ .cell v) : Inv X (pins ++ pinsAt fp s.heap) σ H s :=
  I.pins_of fun p hp => (List.mem_append.mp hp).elim (fun z => I.pin p (List.mem_append_right _ z)) fun z => by
    obtain ⟨hb, e⟩ := of_pinsAt z
    obtain ⟨f0, f1, f2, _⟩ := hf p.1 hb
    obtain ⟨o, e', d⟩ := ho p.1 hb
    rw [e] at e'; cases e'
    exact ⟨e, f0, f1, f2, d⟩
theorem Inv.unpinned {pins pl : List (Addr × Obj)} {σ : St} {H : Hp} {s : Shared} (I : Inv X (pins ++ pl) σ H s) : Inv X pins σ H s := I.pins_of fun p hp => I.pin p (List.mem_append_right _ (List.mem_append_left _ hp))
theorem ps_for {iter : Expr} {body : List Stmt} {wi : TI} {g : TG} {tb : TS} {pos : Pos} (hp : PassesOwn (model X.prog X.w) X.A X.env X.xe) (hc : X.calm = true) (hi : PI X tg iter wi) (hg : PG X tg g) (hb : PSs X body tb)
    (hs : ∀ x, foldedSetIterable iter X.env x = pure x := by intro _; rfl) : PS X (.For tg iter body [] pos) (tFor wi g tb) := by
  intro pins s σ H D I h
  refine wpAny_For (thn (hi pins s σ H _ I h) fun v s1 h1 => thn h1 fun itv s2 h2 => ?_) hs
  obtain ⟨it, fp, tn, J, H2, e, I2, T, st2, f2, W, ⟨m0, w0⟩, turn⟩ := h2
  subst e
  -- what stays true of the iterator's objects through the loop
  have stat : ∀ {H' : Hp}, (∀ b ∈ fp, H' b = none) → ∀ b ∈ fp, FpOk X pins H' b := fun hn b hb => ⟨hn b hb, (f2 b hb).2⟩
  refine codeAny_forLoop_any (fun n s' => ∃ i σ' H', Inv X pins σ' H' s' ∧ tn i s'.heap ∧ (∀ b ∈ fp, H' b = none) ∧ W i n σ' H') ?_ m0 ⟨0, σ, H2, I2, st2, fun b hb => (f2 b hb).1, w0⟩
  rintro n s3 ⟨i, σ3, H3, I3, st3, fr3, w3⟩
  rcases turn i n σ3 H3 w3 with ⟨stop, qn⟩ | ⟨go, N, hN, step⟩
  · refine wpAny_passesOwn hp (thn (T.done X rfl rfl rfl hc i pins s3 σ3 H3 X.xe I3 (stat fr3) st3 stop) fun r s4 ⟨hr, I4⟩ => ?_)
    subst hr
    exact wpAny_execs_nil ⟨σ3, H3, I4, qn⟩
  · refine wpAny_passesOwn hp (thn (T.item X rfl rfl rfl hc i pins s3 σ3 H3 X.xe I3 (stat fr3) st3 go) fun r s4 ⟨u, hr, h4⟩ => ?_)
    subst hr
    refine wpAny_passesOwn hp (thn h4 fun _ s5 ⟨x, H5, I5, r5, y5, st5, fr5⟩ => ?_)
    have I5' := I5.pinned (stat fr5) (T.obj _ _ st5)
    refine wpAny_passesOwn hp (thn (hg _ s5 σ3 H5 x u _ I5' r5 (step x H5 y5)) fun _ s6 ⟨σ6, H6, I6, q6⟩ => ?_)
    refine wpAny_passesOwn hp (thn (hb _ s6 σ6 H6 _ I6 q6) fun f s7 q7 => ?_)
    have again : ∀ {σ7 : St} {H7 : Hp}, Inv X (pins ++ pinsAt fp s5.heap) σ7 H7 s7 → N σ7 H7 → ∃ m, m < n ∧ ∃ i σ' H', Inv X pins σ' H' s7 ∧ tn i s7.heap ∧ (∀ b ∈ fp, H' b = none) ∧ W i m σ' H' := fun {σ7 H7} I7 n7 => by
      obtain ⟨m', hm, w7⟩ := hN σ7 H7 n7
      refine ⟨m', hm, i + 1, σ7, H7, I7.unpinned, T.keep _ _ _ st5 fun b hb o e => (I7.pin (b, o) (List.mem_append_right _ (List.mem_append_right _ (mem_pinsAt hb e)))).1, fun b hb => ?_, w7⟩
      obtain ⟨o, e, d⟩ := T.obj _ _ st5 b hb
      exact (I7.pin (b, o) (List.mem_append_right _ (List.mem_append_right _ (mem_pinsAt hb e)))).2.1
    cases f with
    | next => obtain ⟨σ7, H7, I7, n7⟩ := q7; exact again I7 n7
    | cont => obtain ⟨σ7, H7, I7, n7⟩ := q7; exact again I7 n7
    | brk => obtain ⟨σ7, H7, I7, q7⟩ := q7; exact ⟨σ7, H7, I7.unpinned, q7⟩
    | ret v => obtain ⟨x7, σ7, H7, I7, r7, q7⟩ := q7; exact ⟨x7, σ7, H7, I7.unpinned, r7, q7⟩
end

/-! ### the forms one uses -/
theorem for_range {lo : Int} {n : Nat} {g : TG} {tb : TS} {D : Ends} {σ : St} {H : Hp} (Pv : Nat → St → Hp → Prop) (h0 : Pv 0 σ H)
    (hs : ∀ i σ H, i < n → Pv i σ H → g (.int (lo + i)) σ H fun σ2 H2 => tb { D with nx := Pv (i + 1), ct := Pv (i + 1), bk := D.nx } σ2 H2) (hd : ∀ σ H, Pv n σ H → D.nx σ H) :
    ∃ W : Nat → Nat → St → Hp → Prop, (∃ m, W 0 m σ H) ∧ ∀ i m σ H, W i m σ H →
      ((Itr lo n).stop i H ∧ D.nx σ H) ∨ ((Itr lo n).go i H ∧ ∃ N : St → Hp → Prop, (∀ σ' H', N σ' H' → ∃ m', m' < m ∧ W (i + 1) m' σ' H') ∧ ∀ x H', (Itr lo n).yld i H x H' → g x σ H' fun σ2 H2 => tb { D with nx := N, ct := N, bk := D.nx } σ2 H2) := by
  refine ⟨fun i m σ H => m = n - i ∧ i ≤ n ∧ Pv i σ H, ⟨n, by simp, Nat.zero_le _, h0⟩, ?_⟩
  rintro i m σ H ⟨rfl, hi, p⟩
  by_cases hlt : i < n
  · refine .inr ⟨hlt, Pv (i + 1), fun σ' H' p' => ⟨n - (i + 1), by omega, rfl, hlt, p'⟩, fun x H' y => ?_⟩
    obtain ⟨e, y⟩ := y
    subst e y
    exact hs i σ _ hlt p
  · have e : i = n := by omega
    subst e
    exact .inl ⟨Nat.le_refl _, hd σ H p⟩
end L2

namespace L2
open PySem PySem.Spec PyProof.Rows

noncomputable abbrev R2 := V → V → Hp → VK → Prop
/-- a two-place operation on values: f is binaryOp op, inplaceOp op or compareOp op -/
noncomputable def OpR (X : Cx) (f : Value → Value → Sem Value) (r : R2) : Prop :=
  ∀ (pins : List (Addr × Obj)) (s : Shared) (σ : St) (H : Hp) (x y : V) (v u : Value) (Q : VK), Inv X pins σ H s → RelV x v → RelV y u → r x y H Q →
    wpAny (model X.prog X.w) X.A (f v u) (EP X pins σ Q) X.xe s
/-- a one-place operation -/
noncomputable def UnR (X : Cx) (f : Value → Sem Value) (r : V → Hp → VK → Prop) : Prop :=
  ∀ (pins : List (Addr × Obj)) (s : Shared) (σ : St) (H : Hp) (x : V) (v : Value) (Q : VK), Inv X pins σ H s → RelV x v → r x H Q →
    wpAny (model X.prog X.w) X.A (f v) (EP X pins σ Q) X.xe s
/-- a call of a value that is known (a builtin, a type) with values -/
noncomputable def CallR (X : Cx) (f : Value) (r : List V → Hp → VK → Prop) : Prop :=
  ∀ (pins : List (Addr × Obj)) (s : Shared) (σ : St) (H : Hp) (xs : List V) (us : List Value) (Q : VK), Inv X pins σ H s → Vals xs us → r xs H Q →
    wpAny (model X.prog X.w) X.A (call f us) (EP X pins σ Q) X.xe s
/-- a value's truth -/
noncomputable def TruR (X : Cx) (r : V → Hp → (Bool → Hp → Prop) → Prop) : Prop :=
  ∀ (pins : List (Addr × Obj)) (s : Shared) (σ : St) (H : Hp) (x : V) (v : Value) (Q : Bool → Hp → Prop), Inv X pins σ H s → RelV x v → r x H Q →
    wpAny (model X.prog X.w) X.A (truthy v) (TP X pins σ Q) X.xe s

noncomputable def tOp (r : R2) (ta tb : TE) : TE := fun σ H Q => ta σ H fun x H1 => tb σ H1 fun y H2 => r x y H2 Q
noncomputable def tUn (r : V → Hp → VK → Prop) (ta : TE) : TE := fun σ H Q => ta σ H fun x H1 => r x H1 Q
/-- ints in, under C, and a value out -/
noncomputable def rI (C : Int → Int → Prop) (g : Int → Int → V) : R2 := fun x y H Q => ∃ i j, x = .int i ∧ y = .int j ∧ C i j ∧ Q (g i j) H
noncomputable def rI0 (g : Int → Int → V) : R2 := fun x y H Q => ∃ i j, x = .int i ∧ y = .int j ∧ Q (g i j) H
noncomputable def rU (g : Int → V) : V → Hp → VK → Prop := fun x H Q => ∃ i, x = .int i ∧ Q (g i) H

section
variable {X : Cx} {a b c : Expr} {ta tb tc : TE} {pos : Pos}

theorem binT (ha : PE X a ta) (hb : PE X b tb) {pins : List (Addr × Obj)} {s : Shared} {σ : St} {H : Hp} {R : V → V → Hp → Prop} (I : Inv X pins σ H s)
    (h : ta σ H fun x H1 => tb σ H1 fun y H2 => R x y H2) {Q : Value → Shared → Prop} {f : Value → Value → Sem Value}
    (hf : ∀ v u s2 x y H2, Inv X pins σ H2 s2 → RelV x v → RelV y u → R x y H2 → wpAny (model X.prog X.w) X.A (f v u) Q X.xe s2) :
    wpAny (model X.prog X.w) X.A (eval a X.env) (fun v s₁ => wpAny (model X.prog X.w) X.A (eval b X.env) (fun u s₂ => wpAny (model X.prog X.w) X.A (f v u) Q X.xe s₂) X.xe s₁) X.xe s := by
  refine thn (ha pins s σ H _ I h) fun v s1 ⟨x, H1, I1, r1, q1⟩ => ?_
  refine thn (hb pins s1 σ H1 _ I1 q1) fun u s2 ⟨y, H2, I2, r2, q2⟩ => ?_
  exact hf v u s2 x y H2 I2 r1 r2 q2

theorem pe_op {op : Operator} {r : R2} (ho : OpR X (binaryOp op) r) (ha : PE X a ta) (hb : PE X b tb) : PE X (.BinOp a op b pos) (tOp r ta tb) := by
  intro pins s σ H Q I h
  exact wpAny_BinOp (binT ha hb I h fun v u s2 x y H2 I2 rx ry q => ho pins s2 σ H2 x y v u Q I2 rx ry q)
theorem pe_un {op : UnaryOp} {r : V → Hp → VK → Prop} (ho : UnR X (unaryOp op) r) (ha : PE X a ta) : PE X (.UnaryOp op a pos) (tUn r ta) := by
  intro pins s σ H Q I h
  exact UnaryOp_ (thn (ha pins s σ H _ I h) fun v s1 ⟨x, H1, I1, r1, q1⟩ => ho pins s1 σ H1 x v Q I1 r1 q1)
/-! ### ints -/
theorem opI {f : Value → Value → Sem Value} {C : Int → Int → Prop} {g : Int → Int → Int}
    (rule : ∀ (i j : Int) (t u : Tok) (s : Shared) (Q : Value → Shared → Prop) (E : Value → Shared → Prop), C i j → Q (.int (g i j) s.toks) { s with toks := s.toks + 1 } → wpAny (model X.prog X.w) X.A (f (.int i t) (.int j u)) Q E s) :
    OpR X f (rI C fun i j => .int (g i j)) := by
  intro pins s σ H x y v u Q I rx ry h
  obtain ⟨i, j, rfl, rfl, hc, q⟩ := h
  obtain ⟨t, rfl⟩ := rx
  obtain ⟨t', rfl⟩ := ry
  exact rule i j t t' s _ _ hc ⟨.int (g i j), H, I.tok _, ⟨_, rfl⟩, q⟩
theorem opI0 {f : Value → Value → Sem Value} {g : Int → Int → Int}
    (rule : ∀ (i j : Int) (t u : Tok) (s : Shared) (Q : Value → Shared → Prop) (E : Value → Shared → Prop), Q (.int (g i j) s.toks) { s with toks := s.toks + 1 } → wpAny (model X.prog X.w) X.A (f (.int i t) (.int j u)) Q E s) :
    OpR X f (rI0 fun i j => .int (g i j)) := by
  intro pins s σ H x y v u Q I rx ry h
  obtain ⟨i, j, rfl, rfl, q⟩ := h
  obtain ⟨t, rfl⟩ := rx
  obtain ⟨t', rfl⟩ := ry
  exact rule i j t t' s _ _ ⟨.int (g i j), H, I.tok _, ⟨_, rfl⟩, q⟩
theorem opB0 {f : Value → Value → Sem Value} {g : Int → Int → Bool}
    (rule : ∀ (i j : Int) (t u : Tok) (s : Shared) (Q : Value → Shared → Prop) (E : Value → Shared → Prop), Q (.bool (g i j)) s → wpAny (model X.prog X.w) X.A (f (.int i t) (.int j u)) Q E s) :
    OpR X f (rI0 fun i j => .bl (g i j)) := by
  intro pins s σ H x y v u Q I rx ry h
  obtain ⟨i, j, rfl, rfl, q⟩ := h
  obtain ⟨t, rfl⟩ := rx
  obtain ⟨t', rfl⟩ := ry
  exact rule i j t t' s _ _ ⟨.bl (g i j), H, I, rfl, q⟩

noncomputable def CDiv (i j : Int) : Prop := 0 < j ∧ j < 1073741824
noncomputable def CPow (i j : Int) : Prop := 0 ≤ j ∧ j ≤ 1000000 ∧ i.natAbs < 2 ^ 64
noncomputable def CMul (i j : Int) : Prop := (-(2 ^ 64) < i ∧ i < 2 ^ 64) ∨ (-(2 ^ 64) < j ∧ j < 2 ^ 64)
theorem CMul.ok {i j : Int} (h : CMul i j) : IntMulOk i j := by
  rcases h with ⟨h1, h2⟩ | ⟨h1, h2⟩
  · exact .of_left (intBits_le_64 h1 h2)
  · exact .of_right (intBits_le_64 h1 h2)
theorem op_add : OpR X (binaryOp .Add) (rI0 fun i j => .int (i + j)) := opI0 fun _ _ _ _ _ _ _ q => add_int q
theorem op_sub : OpR X (binaryOp .Sub) (rI0 fun i j => .int (i - j)) := opI0 fun _ _ _ _ _ _ _ q => sub_int q
theorem op_mul : OpR X (binaryOp .Mult) (rI CMul fun i j => .int (i * j)) := opI fun _ _ _ _ _ _ _ hc q => mul_int q hc.ok
/-- // by a positive divisor -/
theorem op_fdiv : OpR X (binaryOp .FloorDiv) (rI CDiv fun i j => .int (i / j)) := opI fun i j _ _ _ _ _ hc q => by
  have h1 : (0 : Int) < j := hc.1
  have h2 : j < 1073741824 := hc.2
  exact floordiv_int (by omega) (by rw [Int.fdiv_eq_ediv_of_nonneg i (by omega)]; exact q) (.inl (PyProof.noPylong_small (by omega)))
/-- % by a positive divisor of any size -/
theorem op_mod : OpR X (binaryOp .Mod) (rI (fun _ j => 0 < j) fun i j => .int (i % j)) := opI fun i j _ _ _ _ _ hc q => by
  have h1 : (0 : Int) < j := hc
  exact mod_int' (by omega) (by rw [Int.fmod_eq_emod_of_nonneg i (by omega)]; exact q)
theorem op_pow : OpR X (binaryOp .Pow) (rI CPow fun i j => .int (i ^ j.toNat)) := opI fun _ _ _ _ _ _ _ hc q => pow_int_small hc.1 hc.2.1 hc.2.2 q
theorem iop_add : OpR X (inplaceOp .Add) (rI0 fun i j => .int (i + j)) := opI0 fun _ _ _ _ _ _ _ q => iadd_int q
theorem unI {f : Value → Sem Value} {g : Int → Int}
    (rule : ∀ (i : Int) (t : Tok) (s : Shared) (Q : Value → Shared → Prop) (E : Value → Shared → Prop), Q (.int (g i) s.toks) { s with toks := s.toks + 1 } → wpAny (model X.prog X.w) X.A (f (.int i t)) Q E s) :
    UnR X f (rU fun i => .int (g i)) := by
  intro pins s σ H x v Q I rx h
  obtain ⟨i, rfl, q⟩ := h
  obtain ⟨t, rfl⟩ := rx
  exact rule i t s _ _ ⟨.int (g i), H, I.tok _, ⟨_, rfl⟩, q⟩
theorem un_neg : UnR X (unaryOp .USub) (rU fun i => .int (-i)) := unI fun _ _ _ _ _ q => neg_int q
/-! ### bools among ints: n += (a < b) -/
end

/-! ### comparisons -/
/-- the scalars that == tells apart as data does -/
noncomputable def scal : V → V → Bool
  | .non, .non => true | .non, .int _ => true | .int _, .non => true | .non, .bl _ => true | .bl _, .non => true | .non, .str _ => true | .str _, .non => true
  | .int _, .int _ => true | .bl _, .bl _ => true | .str _, .str _ => true | .byt _, .byt _ => true
  | .int _, .str _ => true | .str _, .int _ => true | .bl _, .str _ => true | .str _, .bl _ => true
  | _, _ => false
noncomputable def rEq : R2 := fun x y H Q => scal x y = true ∧ Q (.bl (decide (x = y))) H
noncomputable def rNe : R2 := fun x y H Q => scal x y = true ∧ Q (.bl (!decide (x = y))) H

theorem dec_int {i j : Int} : decide (V.int i = V.int j) = (i == j) := by
  rw [Bool.eq_iff_iff]
  simp
theorem dec_bl {i j : Bool} : decide (V.bl i = V.bl j) = (i == j) := by
  rw [Bool.eq_iff_iff]
  simp
theorem dec_str {i j : Str} : decide (V.str i = V.str j) = (i == j) := by
  rw [Bool.eq_iff_iff]
  simp
theorem dec_byt {i j : Array UInt8} : decide (V.byt i = V.byt j) = (i.toList == j.toList) := by
  rw [Bool.eq_iff_iff]
  cases i
  cases j
  simp

section
variable {X : Cx} {a b c : Expr} {ta tb tc : TE} {pos : Pos}
theorem fin_bl {pins : List (Addr × Obj)} {σ : St} {H : Hp} {s : Shared} {Q : VK} {k k' : Bool} (I : Inv X pins σ H s) (q : Q (.bl k) H) (e : k = k') : EP X pins σ Q (.bool k') s := by
  subst e
  exact ⟨.bl k, H, I, rfl, q⟩
theorem op_eq : OpR X (compareOp .Eq) rEq := by
  intro pins s σ H x y v u Q I rx ry h
  obtain ⟨hs, q⟩ := h
  cases x with
  | non =>
    cases rx
    cases y with
    | non => cases ry; exact PySem.EqNone.eq_none_none (fin_bl I q (by simp))
    | bl j => cases ry; exact PySem.EqNone.eq_none_bool (fin_bl I q (by simp))
    | int j => obtain ⟨t', rfl⟩ := ry; exact PySem.EqNone.eq_none_int (fin_bl I q (by simp))
    | str j => obtain ⟨t', rfl⟩ := ry; exact PySem.EqNone.eq_none_str (fin_bl I q (by simp))
    | _ => exact absurd (show false = true from hs) Bool.false_ne_true
  | bl i =>
    cases rx
    cases y with
    | non => cases ry; exact PySem.EqNone.eq_bool_none (fin_bl I q (by simp))
    | bl j => cases ry; exact eq_bool (fin_bl I q dec_bl)
    | str j => obtain ⟨t', rfl⟩ := ry; exact PySem.EqMixed.eq_bool_str (fin_bl I q (by simp))
    | _ => exact absurd (show false = true from hs) Bool.false_ne_true
  | int i =>
    obtain ⟨t, rfl⟩ := rx
    cases y with
    | non => cases ry; exact PySem.EqNone.eq_int_none (fin_bl I q (by simp))
    | int j => obtain ⟨t', rfl⟩ := ry; exact eq_int (fin_bl I q dec_int)
    | str j => obtain ⟨t', rfl⟩ := ry; exact PySem.EqMixed.eq_int_str (fin_bl I q (by simp))
    | _ => exact absurd (show false = true from hs) Bool.false_ne_true
  | str i =>
    obtain ⟨t, rfl⟩ := rx
    cases y with
    | non => cases ry; exact PySem.EqNone.eq_str_none (fin_bl I q (by simp))
    | bl j => cases ry; exact PySem.EqMixed.eq_str_bool (fin_bl I q (by simp))
    | int j => obtain ⟨t', rfl⟩ := ry; exact PySem.EqMixed.eq_str_int (fin_bl I q (by simp))
    | str j => obtain ⟨t', rfl⟩ := ry; exact eq_str (fin_bl I q dec_str)
    | _ => exact absurd (show false = true from hs) Bool.false_ne_true
  | byt i =>
    obtain ⟨t, rfl⟩ := rx
    cases y with
    | byt j => obtain ⟨t', rfl⟩ := ry; exact PySem.W.eq_bytes (fin_bl I q dec_byt)
    | _ => exact absurd (show false = true from hs) Bool.false_ne_true
  | _ => cases y <;> exact absurd (show false = true from hs) Bool.false_ne_true
theorem op_ne : OpR X (compareOp .NotEq) rNe := by
  intro pins s σ H x y v u Q I rx ry h
  obtain ⟨hs, q⟩ := h
  cases x with
  | non =>
    cases rx
    cases y with
    | non => cases ry; exact PySem.EqNone.ne_none_none (fin_bl I q (by simp))
    | bl j => cases ry; exact PySem.EqNone.ne_none_bool (fin_bl I q (by simp))
    | int j => obtain ⟨t', rfl⟩ := ry; exact PySem.EqNone.ne_none_int (fin_bl I q (by simp))
    | str j => obtain ⟨t', rfl⟩ := ry; exact PySem.EqNone.ne_none_str (fin_bl I q (by simp))
    | _ => exact absurd (show false = true from hs) Bool.false_ne_true
  | bl i =>
    cases rx
    cases y with
    | non => cases ry; exact PySem.EqNone.ne_bool_none (fin_bl I q (by simp))
    | bl j => cases ry; exact ne_bool (fin_bl I q (congrArg not dec_bl))
    | str j => obtain ⟨t', rfl⟩ := ry; exact PySem.EqMixed.ne_bool_str (fin_bl I q (by simp))
    | _ => exact absurd (show false = true from hs) Bool.false_ne_true
  | int i =>
    obtain ⟨t, rfl⟩ := rx
    cases y with
    | non => cases ry; exact PySem.EqNone.ne_int_none (fin_bl I q (by simp))
    | int j => obtain ⟨t', rfl⟩ := ry; exact ne_int (fin_bl I q (congrArg not dec_int))
    | str j => obtain ⟨t', rfl⟩ := ry; exact PySem.EqMixed.ne_int_str (fin_bl I q (by simp))
    | _ => exact absurd (show false = true from hs) Bool.false_ne_true
  | str i =>
    obtain ⟨t, rfl⟩ := rx
    cases y with
    | non => cases ry; exact PySem.EqNone.ne_str_none (fin_bl I q (by simp))
    | bl j => cases ry; exact PySem.EqMixed.ne_str_bool (fin_bl I q (by simp))
    | int j => obtain ⟨t', rfl⟩ := ry; exact PySem.EqMixed.ne_str_int (fin_bl I q (by simp))
    | str j => obtain ⟨t', rfl⟩ := ry; exact ne_str (fin_bl I q (congrArg not dec_str))
    | _ => exact absurd (show false = true from hs) Bool.false_ne_true
  | byt i =>
    obtain ⟨t, rfl⟩ := rx
    cases y with
    | byt j => obtain ⟨t', rfl⟩ := ry; exact PySem.W.ne_bytes (fin_bl I q (congrArg not dec_byt))
    | _ => exact absurd (show false = true from hs) Bool.false_ne_true
  | _ => cases y <;> exact absurd (show false = true from hs) Bool.false_ne_true

theorem op_lt : OpR X (compareOp .Lt) (rI0 fun i j => .bl (decide (i < j))) := opB0 fun _ _ _ _ _ _ _ q => lt_int q
theorem op_le : OpR X (compareOp .LtE) (rI0 fun i j => .bl (decide (i ≤ j))) := opB0 fun _ _ _ _ _ _ _ q => le_int q
theorem op_gt : OpR X (compareOp .Gt) (rI0 fun i j => .bl (decide (j < i))) := opB0 fun _ _ _ _ _ _ _ q => gt_int q
theorem op_notin_str : OpR X (compareOp .NotIn) (fun x y H Q => ∃ i j, x = .str i ∧ y = .str j ∧ Q (.bl (!(!(Builtin.Str.occurrences j i 0 j.length 1).isEmpty))) H) := by
  intro pins s σ H x y v u Q I rx ry h
  obtain ⟨i, j, rfl, rfl, q⟩ := h
  obtain ⟨t, rfl⟩ := rx
  obtain ⟨t', rfl⟩ := ry
  exact notIn_str (fin_bl I q rfl)
theorem nomark (b : Expr) {op : CmpOp} (h : op ≠ .In := by decide) (h2 : op ≠ .NotIn := by decide) : behindInMarks op b = false := by
  have e1 : (op == CmpOp.In) = false := by cases op <;> first | rfl | exact absurd rfl h
  have e2 : (op == CmpOp.NotIn) = false := by cases op <;> first | rfl | exact absurd rfl h2
  cases b <;> simp [behindInMarks, e1, e2]
/-- a comparison as a value; hm: nomark b, or (for in, not in) by with_unfolding_all rfl -/
theorem pe_cmpR {op : CmpOp} {r : R2} (ho : OpR X (compareOp op) r) (ha : PE X a ta) (hb : PE X b tb) (hm : behindInMarks op b = false) : PE X (.Compare a [op] [b] pos) (tOp r ta tb) := by
  intro pins s σ H Q I h
  exact wpAny_Compare1 (binT ha hb I h fun v u s2 x y H2 I2 rx ry q => ho pins s2 σ H2 x y v u Q I2 rx ry q) hm
/-- a reading of a value as a test -/
noncomputable def tTest (t : TE) : TT := fun σ H Q => t σ H fun x H' => ∃ k, x = .bl k ∧ Q k H'
theorem pt_cmpR {op : CmpOp} {r : R2} (ho : OpR X (compareOp op) r) (ha : PE X a ta) (hb : PE X b tb) (hm : behindInMarks op b = false) : PT X (.Compare a [op] [b] pos) (tTest (tOp r ta tb)) := by
  intro pins s σ H Q I h
  refine wpAny_isTrue_Compare1 (thn (ha pins s σ H _ I h) fun v s1 ⟨x, H1, I1, r1, q1⟩ => thn (hb pins s1 σ H1 _ I1 q1) fun u s2 ⟨y, H2, I2, r2, q2⟩ =>
    thn (ho pins s2 σ H2 x y v u _ I2 r1 r2 q2) fun c s3 ⟨z, H3, I3, r3, k, e, q3⟩ => ?_) hm
  subst e
  cases r3
  exact wpAny_truthy_bool ⟨H3, I3, q3⟩
/-- a op1 b op2 c -/
noncomputable def tChain (r r' : R2) (ta tb tc : TE) : TE := fun σ H Q => ta σ H fun x H1 => tb σ H1 fun y H2 => r x y H2 fun z H3 => ∃ k, z = .bl k ∧
  (if k = true then tc σ H3 fun w' H4 => r' y w' H4 Q else Q (.bl false) H3)
theorem pe_chain {op op' : CmpOp} {r r' : R2} (ho : OpR X (compareOp op) r) (ho' : OpR X (compareOp op') r') (ha : PE X a ta) (hb : PE X b tb) (hc : PE X c tc)
    (hm : lastMarks [op, op'] [b, c] = false := by with_unfolding_all rfl) : PE X (.Compare a [op, op'] [b, c] pos) (tChain r r' ta tb tc) := by
  intro pins s σ H Q I h
  refine Compare_chain (thn (ha pins s σ H _ I h) fun v s1 ⟨x, H1, I1, r1, q1⟩ => chain_link (thn (hb pins s1 σ H1 _ I1 q1) fun u s2 ⟨y, H2, I2, r2, q2⟩ =>
    thn (ho pins s2 σ H2 x y v u _ I2 r1 r2 q2) fun d s3 ⟨z, H3, I3, r3, k, e, q3⟩ => ?_)) hm
  subst e
  cases r3
  refine wpAny_truthy_bool ?_
  cases k with
  | false => exact ite_ff ⟨.bl false, H3, I3, rfl, q3⟩
  | true => exact ite_tt (chain_last (thn (hc pins s3 σ H3 _ I3 q3) fun w' s4 ⟨z', H4, I4, r4, q4⟩ => ho' pins s4 σ H4 y z' u w' Q I4 r2 r4 q4))
theorem pt_chain {op op' : CmpOp} {r r' : R2} (ho : OpR X (compareOp op) r) (ho' : OpR X (compareOp op') r') (ha : PE X a ta) (hb : PE X b tb) (hc : PE X c tc)
    (hm : lastMarks [op, op'] [b, c] = false := by with_unfolding_all rfl) : PT X (.Compare a [op, op'] [b, c] pos) (tTest (tChain r r' ta tb tc)) := by
  intro pins s σ H Q I h
  refine isTrue_chain (thn (ha pins s σ H _ I h) fun v s1 ⟨x, H1, I1, r1, q1⟩ => test_link (thn (hb pins s1 σ H1 _ I1 q1) fun u s2 ⟨y, H2, I2, r2, q2⟩ =>
    thn (ho pins s2 σ H2 x y v u _ I2 r1 r2 q2) fun d s3 ⟨z, H3, I3, r3, k, e, q3⟩ => ?_)) hm
  subst e
  cases r3
  refine wpAny_truthy_bool ?_
  cases k with
  | false =>
    obtain ⟨k', e', q'⟩ := q3
    cases e'
    exact ite_ff ⟨H3, I3, q'⟩
  | true =>
    refine ite_tt (test_last (thn (hc pins s3 σ H3 _ I3 q3) fun w' s4 ⟨z', H4, I4, r4, q4⟩ => thn (ho' pins s4 σ H4 y z' u w' _ I4 r2 r4 q4) fun d' s5 ⟨z2, H5, I5, r5, k2, e2, q5⟩ => ?_))
    subst e2
    cases r5
    exact wpAny_truthy_bool ⟨H5, I5, q5⟩

/-! ### truth -/
/-- a value's truth by the abstract heap -/
noncomputable def TruV (K : PySem.W.Frag) (x : V) (H : Hp) (k : Bool) : Prop :=
  match x with
  | .non => k = false
  | .bl b => k = b
  | .int i => k = (i != 0)
  | .str y => y.length ≤ sizeLine ∧ k = ((y.length : Int) != 0)
  | .byt y => y.size ≤ sizeLine ∧ k = ((y.size : Int) != 0)
  | .ref p => (∃ xs, SqL K H p xs ∧ k = !xs.isEmpty) ∨ (∃ xs, SqT K H p xs ∧ k = !xs.isEmpty) ∨ ∃ kvs, H p = some (.dK kvs) ∧ k = !kvs.isEmpty
  | _ => False
theorem isEmpty_kv {κ : Type} {kvs : List (κ × V)} {vs : List (κ × Value)} (r : KV kvs vs) : (!vs.isEmpty) = !kvs.isEmpty := by
  cases r <;> rfl
theorem isEmpty_of {xs : List V} {its : List Value} (r : Vals xs its) : (!its.toArray.isEmpty) = !xs.isEmpty := by
  cases r <;> simp
theorem line63 : (sizeLine : Nat) < 2 ^ 63 := by rw [sizeLine_eq]; decide
theorem tru_ok : TruR X (fun x H Q => ∃ k, TruV X.K x H k ∧ Q k H) := by
  intro pins s σ H x v Q I rx h
  obtain ⟨k, e, q⟩ := h
  have hl := line63
  have hs : sizeLine = 16777216 := sizeLine_eq
  cases x with
  | non =>
    cases rx
    have e' : k = false := e
    subst e'
    exact truthy_none ⟨H, I, q⟩
  | bl b =>
    cases rx
    have e' : k = b := e
    subst e'
    exact wpAny_truthy_bool ⟨H, I, q⟩
  | int i =>
    obtain ⟨t, rfl⟩ := rx
    have e' : k = (i != 0) := e
    subst e'
    exact PySem.P.truthy_int ⟨H, I, q⟩
  | str y =>
    obtain ⟨t, rfl⟩ := rx
    obtain ⟨hy, e'⟩ : y.length ≤ sizeLine ∧ k = ((y.length : Int) != 0) := e
    subst e'
    exact PySem.P.truthy_str (by omega) ⟨H, I.tok _, q⟩
  | byt y =>
    obtain ⟨t, rfl⟩ := rx
    obtain ⟨hy, e'⟩ : y.size ≤ sizeLine ∧ k = ((y.size : Int) != 0) := e
    subst e'
    exact PySem.W.truthy_bytes (by omega) ⟨H, I.tok _, q⟩
  | ref p =>
    cases rx
    have e' : (∃ xs, SqL X.K H p xs ∧ k = !xs.isEmpty) ∨ (∃ xs, SqT X.K H p xs ∧ k = !xs.isEmpty) ∨ ∃ kvs, H p = some (.dK kvs) ∧ k = !kvs.isEmpty := e
    rcases e' with ⟨xs, hx, e'⟩ | ⟨xs, hx, e'⟩ | ⟨kvs, hx, e'⟩
    · subst e'
      obtain ⟨its, r, pl, hz⟩ := I.list hx
      have hlen := r.length
      exact wpAny_truthy_list pl.isList (by simp only [List.size_toArray]; omega) ⟨H, I.tok _, by rw [isEmpty_of r]; exact q⟩
    · subst e'
      obtain ⟨its, r, pl, hz⟩ := I.tuple hx
      have hlen := r.length
      exact truthy_tuple pl (by simp only [List.size_toArray]; omega) ⟨H, I.tok _, by rw [isEmpty_of r]; exact q⟩
    · subst e'
      obtain ⟨hz, hS, vs, r, m⟩ : kvs.length ≤ sizeLine ∧ (p == sysModules) = false ∧ ∃ vs, KV kvs vs ∧ s.heap.DictOf (mixKind X.prog X.w) p vs := I.hok p _ hx
      have hlen : kvs.length = vs.length := Paired.length r
      exact wpAny_truthy_dict hS m (by omega) ⟨H, I.tok _, by rw [isEmpty_kv r]; exact q⟩
  | _ => exact (show False from e).elim
/-- any expression whose test is its value's truth (a name, a call, a subscript, a field ..: he by fun _ => rfl) -/
theorem pt_truth (ha : PE X a ta) (he : ∀ whole, isTrue a X.env whole = (do let v ← whole; standAt a.pos; holding [v] (truthy v))) :
    PT X a (fun σ H Q => ta σ H fun x H' => ∃ k, TruV X.K x H' k ∧ Q k H') := by
  intro pins s σ H Q I h
  exact isTrue_plain (thn (ha pins s σ H _ I h) fun v s1 ⟨x, H1, I1, r1, q1⟩ => tru_ok pins s1 σ H1 x v Q I1 r1 q1) (he _)

/-! ### strs and bytes -/
theorem op_add_str : OpR X (binaryOp .Add) (fun x y H Q => ∃ i j, x = .str i ∧ y = .str j ∧ i.length + j.length ≤ sizeLine ∧ Q (.str (i ++ j)) H) := by
  intro pins s σ H x y v u Q I rx ry h
  obtain ⟨i, j, rfl, rfl, hz, q⟩ := h
  obtain ⟨t, rfl⟩ := rx
  obtain ⟨t', rfl⟩ := ry
  exact add_str (fun t' tk => ⟨.str (i ++ j), H, I.tok _, ⟨_, rfl⟩, q⟩) hz
theorem iop_add_str : OpR X (inplaceOp .Add) (fun x y H Q => ∃ i j, x = .str i ∧ y = .str j ∧ i.length + j.length ≤ sizeLine ∧ Q (.str (i ++ j)) H) := by
  intro pins s σ H x y v u Q I rx ry h
  obtain ⟨i, j, rfl, rfl, hz, q⟩ := h
  obtain ⟨t, rfl⟩ := rx
  obtain ⟨t', rfl⟩ := ry
  exact iadd_str (fun t' tk => ⟨.str (i ++ j), H, I.tok _, ⟨_, rfl⟩, q⟩) hz
/-! ### scalar builtins, by CallR -/
theorem vals1 {x : V} {us : List Value} (r : Vals [x] us) : ∃ u, us = [u] ∧ RelV x u := by
  cases r with
  | cons r1 r2 => cases r2; exact ⟨_, rfl, r1⟩
theorem vals2 {x y : V} {us : List Value} (r : Vals [x, y] us) : ∃ u w', us = [u, w'] ∧ RelV x u ∧ RelV y w' := by
  cases r with
  | cons r1 r2 =>
    cases r2 with
    | cons r3 r4 => cases r4; exact ⟨_, _, rfl, r1, r3⟩
theorem call_max2 (hc : X.calm = true) : CallR X (.builtin "max") (fun xs H Q => ∃ i j, xs = [.int i, .int j] ∧ Q (.int (if j > i then j else i)) H) := by
  intro pins s σ H xs us Q I r h
  obtain ⟨i, j, rfl, q⟩ := h
  obtain ⟨u, w', rfl, ⟨t, rfl⟩, ⟨t', rfl⟩⟩ := vals2 r
  refine max_two_ints (I.ok.hd hc) fun h' tk k => ⟨_, H, I.kept k, ?_, q⟩
  by_cases hj : j > i
  · rw [if_pos hj, if_pos hj]; exact ⟨_, rfl⟩
  · rw [if_neg hj, if_neg hj]; exact ⟨_, rfl⟩
theorem call_min2 (hc : X.calm = true) : CallR X (.builtin "min") (fun xs H Q => ∃ i j, xs = [.int i, .int j] ∧ Q (.int (if j < i then j else i)) H) := by
  intro pins s σ H xs us Q I r h
  obtain ⟨i, j, rfl, q⟩ := h
  obtain ⟨u, w', rfl, ⟨t, rfl⟩, ⟨t', rfl⟩⟩ := vals2 r
  refine min_two_ints (I.ok.hd hc) fun h' tk k => ⟨_, H, I.kept k, ?_, q⟩
  by_cases hj : j < i
  · rw [if_pos hj, if_pos hj]; exact ⟨_, rfl⟩
  · rw [if_neg hj, if_neg hj]; exact ⟨_, rfl⟩
theorem call_int1 : CallR X (.type "int") (fun xs H Q => (∃ i, xs = [.int i] ∧ Q (.int i) H) ∨ ∃ k, xs = [.bl k] ∧ Q (.int (if k then 1 else 0)) H) := by
  intro pins s σ H xs us Q I r h
  rcases h with ⟨i, rfl, q⟩ | ⟨k, rfl, q⟩
  · obtain ⟨u, rfl, t, rfl⟩ := vals1 r
    exact call_int_int ⟨.int i, H, I, ⟨_, rfl⟩, q⟩
  · obtain ⟨u, rfl, r1⟩ := vals1 r
    cases r1
    exact call_int_bool ⟨.int (if k then 1 else 0), H, I.tok _, ⟨_, rfl⟩, q⟩
end
end L2

namespace L2
open PySem PySem.Spec PyProof.Rows

/-! ### an instance, its attributes a map -/
structure ObjM (h : Heap) (x dx C : Addr) (mA : Str → Option Value) : Prop where
  obj : h.get? x = some (PySem.W.instObj C dx)
  ns : h.Ns1 dx mA
  ne : dx ≠ x

theorem lookIn_ns {h : Heap} {dx : Addr} {mA : Str → Option Value} (n : h.Ns1 dx mA) : ∃ od, h.get? dx = some od ∧ ∀ name, PySem.W.lookIn name od = some (mA name) := by
  obtain ⟨o, es, ep, ho, hd, hk, _, hm⟩ := n
  refine ⟨o, ho, fun name => ?_⟩
  have e := hm name
  unfold nsFind findBy at e
  rw [← Array.find?_toList] at e
  unfold PySem.W.lookIn
  rw [hd]
  dsimp only
  split
  · rename_i y q
    rw [q] at e
    exact congrArg some e
  · rename_i q
    rw [q] at e
    have a : es.toList.any (·.refKey) = false := by
      rw [List.any_eq_false]
      intro y hy
      obtain ⟨z, t, hkey⟩ := hk y (Array.mem_toList_iff.mp hy)
      simp [DictEntry.refKey, hkey]
    have a' : ¬ es.toList.any (·.refKey) = true := by rw [a]; exact Bool.false_ne_true
    rw [if_neg a']
    exact congrArg some e

theorem ObjM.look {h : Heap} {x dx C : Addr} {mA : Str → Option Value} (I : ObjM h x dx C mA) : ∃ od, PySem.W.InstAt h x (PySem.W.instObj C dx) C (some od) ∧ ∀ name, PySem.W.lookIn name od = some (mA name) :=
  let ⟨od, ho, hl⟩ := lookIn_ns I.ns
  ⟨od, ⟨I.obj, rfl, rfl, ho⟩, hl⟩

section
variable {prog : Program} {w : World} {A : Around} {E : Value → Shared → Prop} {s : Shared} {K : PySem.W.Frag} {x dx C f : Addr} {mA : Str → Option Value} {name : Str} {v : Value}

theorem get_map {expr : Bool} {Q : Value → Shared → Prop} (X : K.In s.heap) (I : ObjM s.heap x dx C mA) (hg : PySem.W.plainGet K C name = true) (hh : PySem.W.hasDictIn K C = true)
    (ha : PySem.W.findIn K (.ref C) name = some none) (hv : mA name = some v) (hv' : PySem.W.handedIn v = true) (h : Q v { s with toks := s.toks + 1 }) :
    wpAny (model prog w) A (getAttr (.ref x) name expr) Q E s := by
  obtain ⟨od, J, hl⟩ := I.look
  exact PySem.W.get_value X J (PySem.W.plainGet_of hg).1 (PySem.W.findObj_own hh ha rfl (by rw [hl, hv])) hv' h

theorem get_meth {pl : Sem Bool} {Q : Value × List Value → Shared → Prop} (X : K.In s.heap) (I : ObjM s.heap x dx C mA) (hg : PySem.W.plainGet K C name = true)
    (hf : PySem.W.findIn K (.ref C) name = some (some (.ref f))) (ht : PySem.W.isFn K (.ref f) = true) (hv : mA name = none) (h : Q (.ref f, [.ref x]) s) :
    wpAny (model prog w) A (getMethod (.ref x) name pl) Q E s := by
  obtain ⟨od, J, hl⟩ := I.look
  exact PySem.W.method_fn X J (PySem.W.plainGet_of hg).1 (PySem.W.plainGet_of hg).2 hf (beq_iff_eq.mp ht) (by show (PySem.W.lookIn name od).map (·.isSome) = some false; rw [hl, hv]; rfl) h

theorem set_map {ns : List Str} {Q : Unit → Shared → Prop} (X : K.In s.heap) (I : ObjM s.heap x dx C mA)
    (hs : PySem.W.findIn K (.ref C) "__setattr__" = some (some (.builtin "object.__setattr__"))) (hp : PySem.W.plainOver K C = true) (ht : PySem.W.takerIn K C name = some none) (hh : PySem.W.hasDictIn K C = true)
    (hw : PySem.Within mA ns) (hsz : ns.length ≤ sizeLine)
    (h : ∀ h', ObjM h' x dx C (fun y => if y = name then some v else mA y) → Heap.SameBut dx s.heap h' → Q () { s with heap := h', toks := s.toks + 2 }) :
    wpAny (model prog w) A (setAttr (.ref x) name v) Q E s := by
  obtain ⟨od, J, hl⟩ := I.look
  refine PySem.W.set_plain X J hs (PySem.W.osa_open (s := { s with toks := s.toks + 1 }) (r := none) X J hp ht fun b => ?_)
  obtain ⟨cd, hc, hd'⟩ := PySem.W.any_some hh
  have hx : s.heap.get? x = some ⟨.ref C, some dx, .plain, #[]⟩ := I.obj
  refine wpAny_bind (wpAny_pure (wpAny_bind (wpAny_bind (wpAny_loadPart hx (wpAny_bind (PySem.W.Looks.here (s := { s with toks := s.toks + 1 }) (PySem.W.looks_clsIn X hc) ?_))))))
  rw [hd']
  refine wpAny_pure (a := some dx) (wpAny_bind (wpAny_pure (wpAny_bind ?_)))
  refine wpAny_nsSet1 (s := { s with toks := s.toks + 1 }) I.ns fun h' hn2 hs2 => ?_
  obtain ⟨oD, esD, epD, hoD, hdD, hcD⟩ := hn2.count (PySem.Within.cons name v hw)
  refine wpAny_bind (wpAny_lookBehind hoD (by rw [hdD]; exact pastItsLine_dict (Nat.le_trans hcD (by rw [List.length_cons]; omega))) ?_)
  exact wpAny_pure (h _ ⟨(hs2.2 _ (Ne.symm I.ne)).trans I.obj, hn2, I.ne⟩ hs2)

/-- C(..): the dict at the heap's end, the instance behind it; then its __init__ -/
theorem make_map {R : Result → Shared → Prop} {vs : List Value} {kw : List (Str × Value)} (X : K.In s.heap) (hm : PySem.W.makesIn K C = true)
    (hi : PySem.W.findIn K (.ref C) "__init__" = some (some (.ref f))) (hf : PySem.W.typeIn K (.ref f) = some (.type "function"))
    (h : codeAny (model prog w) (A.under (.builtin "type.__call__" ⟨.ref C :: vs, kw⟩)) (.call (.ref f) ⟨.ref (s.heap.objs.size + 1) :: vs, kw⟩) (PySem.W.InitBack (s.heap.objs.size + 1) R)
      { s with heap := (s.heap.push PySem.W.emptyDict).push (PySem.W.instObj C s.heap.objs.size) }) :
    codeAny (model prog w) A (.call (.ref C) ⟨vs, kw⟩) R s := by
  obtain ⟨hh, g, d, t, os⟩ := s
  exact PySem.W.make_core (PySem.W.makes_of X hm) (PySem.W.looks_findIn X hi) (fun self => PySem.W.bind_fn X self hf) (.inl rfl) h
end

/-! ### the attributes as a list of pairs -/
noncomputable def putF (f : Str) (v : V) : List (Str × V) → List (Str × V)
  | [] => [(f, v)]
  | (g, x) :: r => if g = f then (g, v) :: r else (g, x) :: putF f v r
theorem lookup_putF (f g : Str) (v : V) : ∀ fs : List (Str × V), (putF f v fs).lookup g = if g = f then some v else fs.lookup g
  | [] => by
    show List.lookup g [(f, v)] = _
    by_cases h : g = f
    · have hb : (g == f) = true := beq_iff_eq.mpr h
      simp only [List.lookup, hb, if_pos h]
    · have hb : (g == f) = false := beq_eq_false_iff_ne.mpr h
      simp only [List.lookup, hb, if_neg h]
  | (k, x) :: r => by
    have ih := lookup_putF f g v r
    rw [show putF f v ((k, x) :: r) = (if k = f then (k, v) :: r else (k, x) :: putF f v r) from rfl]
    by_cases hk : k = f
    · rw [if_pos hk]
      by_cases h : g = k
      · have hb : (g == k) = true := beq_iff_eq.mpr h
        simp only [List.lookup, hb, if_pos (h.trans hk)]
      · have hb : (g == k) = false := beq_eq_false_iff_ne.mpr h
        simp only [List.lookup, hb, if_neg (fun e : g = f => h (e.trans hk.symm))]
    · rw [if_neg hk]
      by_cases h : g = k
      · have hb : (g == k) = true := beq_iff_eq.mpr h
        simp only [List.lookup, hb, if_neg (fun e : g = f => hk (h.symm.trans e))]
      · have hb : (g == k) = false := beq_eq_false_iff_ne.mpr h
        simp only [List.lookup, hb]
        exact ih
theorem keys_putF (f : Str) (v : V) : ∀ fs : List (Str × V), f ∈ (putF f v fs).map (·.1) ∧ ∀ g, g ∈ fs.map (·.1) → g ∈ (putF f v fs).map (·.1)
  | [] => ⟨by simp [putF], fun g h => by simp at h⟩
  | (k, x) :: r => by
    obtain ⟨i1, i2⟩ := keys_putF f v r
    rw [show putF f v ((k, x) :: r) = (if k = f then (k, v) :: r else (k, x) :: putF f v r) from rfl]
    by_cases hk : k = f
    · rw [if_pos hk]
      subst hk
      exact ⟨by simp, fun g h => by simpa using h⟩
    · rw [if_neg hk]
      refine ⟨?_, fun g h => ?_⟩
      · rw [List.map_cons]
        exact List.mem_cons_of_mem _ i1
      · rw [List.map_cons] at h ⊢
        rcases List.mem_cons.mp h with e | e
        · exact List.mem_cons.mpr (.inl e)
        · exact List.mem_cons_of_mem _ (i2 g e)
theorem length_putF (f : Str) (v : V) : ∀ fs : List (Str × V), (putF f v fs).length ≤ fs.length + 1
  | [] => by simp [putF]
  | (k, x) :: r => by
    have ih := length_putF f v r
    rw [show putF f v ((k, x) :: r) = (if k = f then (k, v) :: r else (k, x) :: putF f v r) from rfl]
    by_cases hk : k = f
    · rw [if_pos hk, List.length_cons, List.length_cons]; omega
    · rw [if_neg hk, List.length_cons, List.length_cons]; omega

theorem RelO.some_of {v : V} {o : Option Value} (r : RelO (some v) o) : ∃ u, o = some u ∧ RelV v u := by
  cases o with
  | none => exact (show False from r).elim
  | some u => exact ⟨u, rfl, r⟩
theorem RelO.none_of {o : Option Value} (r : RelO none o) : o = none := by
  cases o with
  | none => rfl
  | some u => exact (show False from r).elim
theorem handed_of {v : V} {u : Value} (r : RelV v u) : PySem.W.handedIn u = true := by
  cases v with
  | non => cases (show u = Value.none from r); rfl
  | bl b => cases (show u = Value.bool b from r); rfl
  | int i => obtain ⟨t, e⟩ := (show ∃ t, u = Value.int i t from r); cases e; rfl
  | str x => obtain ⟨t, e⟩ := (show ∃ t, u = Value.str x t from r); cases e; rfl
  | byt b => obtain ⟨t, e⟩ := (show ∃ t, u = Value.bytes b t from r); cases e; rfl
  | flt b => obtain ⟨t, e⟩ := (show ∃ t, u = Value.float b t from r); cases e; rfl
  | ref a => cases (show u = Value.ref a from r); rfl
  | ty n => cases (show u = Value.type n from r); rfl

section
variable {P : Program} {w : World} {H H' : Hp} {h h' : Heap} {a C dx : Addr} {fs fs' : List (Str × V)}
theorem ins_get (hok : HOk P w H h) (e : H a = some (.ins C dx fs)) : ∃ mA, ObjM h a dx C mA ∧ (∀ f, RelO (fs.lookup f) (mA f)) ∧ PySem.Within mA (fs.map (·.1)) ∧ fs.length ≤ 1000 ∧ H dx = some (.own a) := by
  obtain ⟨d, z, ne, ob, mA, n, r, q⟩ := (show ObjOk P w H h a (.ins C dx fs) from hok a _ e)
  exact ⟨mA, ⟨ob, n, ne⟩, r, q, z, d⟩
end

/-! ### what of the text a class must have -/
structure Cls (K : PySem.W.Frag) (C : Addr) : Prop where
  pg : PySem.W.plainGet K C Str.empty = true
  hd : PySem.W.hasDictIn K C = true
  po : PySem.W.plainOver K C = true
  sa : PySem.W.findIn K (.ref C) "__setattr__" = some (some (.builtin "object.__setattr__"))
theorem Cls.get {K : PySem.W.Frag} {C : Addr} (c : Cls K C) (f : Str) : PySem.W.plainGet K C f = true := c.pg
/-- no class of it has the name -/
noncomputable def NoAttr (K : PySem.W.Frag) (C : Addr) (f : Str) : Prop := PySem.W.findIn K (.ref C) f = some none
theorem NoAttr.taker {K : PySem.W.Frag} {C : Addr} {f : Str} (n : NoAttr K C f) : PySem.W.takerIn K C f = some none := by
  unfold PySem.W.takerIn
  rw [show PySem.W.findIn K (.ref C) f = some none from n]
  rfl
/-- a method: a plain def of the class or of one above it -/
structure Meth (K : PySem.W.Frag) (C : Addr) (m : Str) (f : Addr) : Prop where
  at_ : PySem.W.findIn K (.ref C) m = some (some (.ref f))
  fn : PySem.W.isFn K (.ref f) = true
  kp : PySem.W.keepIn K (.ref f) = true

section
variable {X : Cx} {pins : List (Addr × Obj)} {σ : St} {H : Hp} {s : Shared} {a C dx : Addr} {fs : List (Str × V)} {f : Str} {v : V} {A : Around} {E : Value → Shared → Prop}

theorem getattr_ok {b : Bool} {Q : Value → Shared → Prop} (I : Inv X pins σ H s) (e : H a = some (.ins C dx fs)) (c : Cls X.K C) (n : NoAttr X.K C f) (l : fs.lookup f = some v)
    (h : ∀ u s', Inv X pins σ H s' → RelV v u → Q u s') : wpAny (model X.prog X.w) A (getAttr (.ref a) f b) Q E s := by
  obtain ⟨mA, O, r, _, _, _⟩ := ins_get I.hok e
  obtain ⟨u, hu, ru⟩ := RelO.some_of (v := v) (o := mA f) (by rw [← l]; exact r f)
  exact get_map I.kIn O (c.get f) c.hd n hu (handed_of ru) (h u _ (I.tok _) ru)

theorem getmeth_ok {m : Str} {g : Addr} {pl : Sem Bool} {Q : Value × List Value → Shared → Prop} (I : Inv X pins σ H s) (e : H a = some (.ins C dx fs)) (c : Cls X.K C) (k : Meth X.K C m g) (l : fs.lookup m = none)
    (h : Q (.ref g, [.ref a]) s) : wpAny (model X.prog X.w) A (getMethod (.ref a) m pl) Q E s := by
  obtain ⟨mA, O, r, _, _, _⟩ := ins_get I.hok e
  have hn : mA m = none := RelO.none_of (by rw [← l]; exact r m)
  exact get_meth I.kIn O (c.get m) k.at_ k.fn hn h

theorem setattr_ok {y : V} {u : Value} {Q : Unit → Shared → Prop} (I : Inv X pins σ H s) (e : H a = some (.ins C dx fs)) (c : Cls X.K C) (n : NoAttr X.K C f) (hl : fs.length < 1000) (ry : RelV y u)
    (h : ∀ s', Inv X pins σ (upd H a (.ins C dx (putF f y fs))) s' → Q () s') : wpAny (model X.prog X.w) A (setAttr (.ref a) f u) Q E s := by
  obtain ⟨mA, O, r, wi, _, ho⟩ := ins_get I.hok e
  have hz : (fs.map (·.1)).length ≤ sizeLine := by rw [List.length_map, sizeLine_eq]; omega
  refine set_map I.kIn O c.sa c.po n.taker c.hd wi hz fun h' O' sb => h _ ?_
  have hd : ∃ o, h'.get? dx = some o := let ⟨o, _, _, e', _⟩ := O'.ns; ⟨o, e'⟩
  refine I.write (x := a) (e := dx) (by rw [e]; exact True.intro) (.inr ho) (fun b q hb z => (sb.2 b hb).trans z) hd ?_
  refine ⟨by rw [upd_ne O.ne]; exact ho, ?_, O.ne, O'.obj, _, O'.ns, fun g => ?_, fun g hg => ?_⟩
  · have := length_putF f y fs; omega
  · show RelO ((putF f y fs).lookup g) (if g = f then some u else mA g)
    rw [lookup_putF]
    by_cases q : g = f
    · rw [if_pos q, if_pos q]; exact ry
    · rw [if_neg q, if_neg q]; exact r g
  · by_cases q : g = f
    · rw [q]; exact (keys_putF f y fs).1
    · refine (keys_putF f y fs).2 g (wi g fun z => hg ?_)
      show (if g = f then some u else mA g) = none
      rw [if_neg q]; exact z

/-- a new instance, tracked, without attributes -/
theorem Inv.made (I : Inv X pins σ H s) : Inv X pins σ (upd (upd H s.heap.objs.size (.own (s.heap.objs.size + 1))) (s.heap.objs.size + 1) (.ins C s.heap.objs.size []))
    { s with heap := (s.heap.push PySem.W.emptyDict).push (PySem.W.instObj C s.heap.objs.size) } := by
  have e1 : (s.heap.push PySem.W.emptyDict).get? s.heap.objs.size = some PySem.W.emptyDict := Heap.get?_push_size s.heap rfl
  have e2 : ((s.heap.push PySem.W.emptyDict).push (PySem.W.instObj C s.heap.objs.size)).get? (s.heap.objs.size + 1) = some (PySem.W.instObj C s.heap.objs.size) := by
    have := Heap.get?_push_size (s.heap.push PySem.W.emptyDict) (o := PySem.W.instObj C s.heap.objs.size) rfl
    rwa [Heap.size_push] at this
  have e3 : (s.heap.push PySem.W.emptyDict).Ns s.heap.objs.size (fun _ => none) := ⟨PySem.W.emptyDict, #[], _, e1, rfl, (fun e he => absurd he (by simp)), fun _ => rfl⟩
  have I1 := I.laid (a := s.heap.objs.size) (o := .own (s.heap.objs.size + 1)) (h' := s.heap.push PySem.W.emptyDict) (t' := s.toks) (fun b u q => Heap.get?_push_of_some _ q) (Nat.le_refl _) ⟨_, e1⟩
  refine I1.laid (a := s.heap.objs.size + 1) (o := .ins C s.heap.objs.size []) (t' := s.toks) (fun b u q => Heap.get?_push_of_some _ q) (Nat.le_of_eq (Heap.size_push _ _)) ?_
  have ne : s.heap.objs.size ≠ s.heap.objs.size + 1 := Nat.ne_of_lt (Nat.lt_succ_self _)
  refine ⟨by rw [upd_ne ne, upd_same], Nat.zero_le _, ne, e2, fun _ => none, (Heap.Ns1.of_empty e3).at fun o q => Heap.get?_push_of_some _ q, fun _ => True.intro, fun y hy => absurd rfl hy⟩

/-- e.f where nothing but the object is asked: through attributeBase (super) and the last hold -/
theorem attr_of {prog : Program} {w : World} {env : Env} {e : Expr} {f : Str} {pos : Pos} {s : Shared} {Q : Value → Shared → Prop} (hb : attributeBase e f env (eval e env) = eval e env)
    (h : wpAny (model prog w) A (eval e env) (fun o s₁ => wpAny (model prog w) A (getAttr o f true) Q E s₁) E s) : wpAny (model prog w) A (eval (.Attribute e f pos) env) Q E s :=
  Attribute_any_ h (by rw [arm_eval_Attribute, hb])
end

/-! ### readings and rules -/
/-- e.f, an attribute of the instance -/
noncomputable def tFld (K : PySem.W.Frag) (ta : TE) (f : Str) : TE := fun σ H Q => ta σ H fun x H1 => ∃ a C dx fs v, x = .ref a ∧ H1 a = some (.ins C dx fs) ∧ Cls K C ∧ NoAttr K C f ∧ fs.lookup f = some v ∧ Q v H1
/-- e.f = value -/
noncomputable def sFld (K : PySem.W.Frag) (ta tv : TE) (f : Str) : TS := fun D σ H => tv σ H fun y H1 => ta σ H1 fun x H2 => ∃ a C dx fs, x = .ref a ∧ H2 a = some (.ins C dx fs) ∧ Cls K C ∧ NoAttr K C f ∧ fs.length < 1000 ∧
  D.nx σ (upd H2 a (.ins C dx (putF f y fs)))
/-- an augmented operator on two values -/
noncomputable def InOp (X : Cx) (op : Operator) (rd : V → V → Hp → VK → Prop) : Prop :=
  ∀ (pins : List (Addr × Obj)) (s : Shared) (σ : St) (H : Hp) (x y : V) (u v : Value) (Q : VK), Inv X pins σ H s → RelV x u → RelV y v → rd x y H Q → wpAny (model X.prog X.w) X.A (inplaceOp op u v) (EP X pins σ Q) X.xe s
/-- e.f op= value -/
noncomputable def sFldAug (K : PySem.W.Frag) (ta tv : TE) (rd : V → V → Hp → VK → Prop) (f : Str) : TS := fun D σ H => ta σ H fun x H1 => ∃ a C dx fs v, x = .ref a ∧ H1 a = some (.ins C dx fs) ∧ Cls K C ∧ NoAttr K C f ∧ fs.lookup f = some v ∧
  tv σ H1 fun y H2 => rd v y H2 fun z H3 => ∃ dx' fs', H3 a = some (.ins C dx' fs') ∧ fs'.length < 1000 ∧ D.nx σ (upd H3 a (.ins C dx' (putF f z fs')))

section
variable {X : Cx} {o e value : Expr} {f : Str} {pos pos' tpos : Pos} {ta tv : TE}
theorem pe_fld (he : PE X e ta) (hb : attributeBase e f X.env (eval e X.env) = eval e X.env) : PE X (.Attribute e f pos) (tFld X.K ta f) := by
  intro pins s σ H Q I h
  refine attr_of hb (thn (he pins s σ H _ I h) fun u s1 ⟨x, H1, I1, rx, a, C, dx, fs, v, ex, ea, c, n, l, q⟩ => ?_)
  subst ex
  obtain rfl : u = Value.ref a := rx
  exact getattr_ok I1 ea c n l fun u' s2 I2 ru => ⟨v, H1, I2, ru, q⟩
theorem ps_fld (ha : PE X o ta) (hv : PE X value tv) (hs : swapsWith value (some (.Attribute o f pos')) pos.line X.env = pure false) : PS X (.Assign [.Attribute o f pos'] value pos) (sFld X.K ta tv f) := by
  intro pins s σ H D I h
  refine plainObj_wpAny_Assign_Attribute (thn (hv pins s σ H _ I h) fun u s1 ⟨y, H1, I1, ry, q⟩ => thn (ha pins s1 σ H1 _ I1 q) fun ov s2 ⟨x, H2, I2, rx, a, C, dx, fs, ex, ea, c, n, l, q2⟩ => ?_) hs
  subst ex
  obtain rfl : ov = Value.ref a := rx
  exact setattr_ok I2 ea c n l ry fun s3 I3 => ⟨σ, _, I3, q2⟩
theorem ps_fldaug {op : Operator} {rd : V → V → Hp → VK → Prop} (ha : PE X o ta) (hv : PE X value tv) (hop : InOp X op rd) : PS X (.AugAssign (.Attribute o f tpos) op value pos) (sFldAug X.K ta tv rd f) := by
  intro pins s σ H D I h
  refine wpAny_AugAssign_AttributeAny (thn (ha pins s σ H _ I h) fun ov s1 ⟨x, H1, I1, rx, a, C, dx, fs, v, ex, ea, c, n, l, q⟩ => ?_)
  subst ex
  obtain rfl : ov = Value.ref a := rx
  refine getattr_ok I1 ea c n l fun u s2 I2 ru => thn (hv pins s2 σ H1 _ I2 q) fun w3 s3 ⟨y, H2, I3, ry, q3⟩ => thn (hop pins s3 σ H2 v y u w3 _ I3 ru ry q3) fun w4 s4 ⟨z, H3, I4, rz, dx', fs', ea', l', q4⟩ => ?_
  exact setattr_ok I4 ea' c n l' rz fun s5 I5 => ⟨σ, _, I5, q4⟩
noncomputable def rAdd : V → V → Hp → VK → Prop := fun x y H Q => ∃ i j, x = .int i ∧ y = .int j ∧ Q (.int (i + j)) H
theorem in_add : InOp X .Add rAdd := by
  rintro pins s σ H x y u v Q I rx ry ⟨i, j, rfl, rfl, q⟩
  obtain ⟨t, rfl⟩ := (show ∃ t, u = Value.int i t from rx)
  obtain ⟨t', rfl⟩ := (show ∃ t', v = Value.int j t' from ry)
  exact PyProof.Rows.iadd_int ⟨.int (i + j), H, I.tok _, ⟨_, rfl⟩, q⟩
end

/-! ### isinstance -/
section
variable {X : Cx} {pins : List (Addr × Obj)} {σ : St} {H : Hp} {s : Shared} {A : Around} {E : Value → Shared → Prop} {Q : Value → Shared → Prop} {c : Value} {b : Bool}
end
end L2

namespace L2
open PySem PySem.Spec PyProof.Rows

/-! ### room -/
structure Room (k : Nat) (A : Around) : Prop where
  hd : A.handled = none
  dp : A.depth + 3 * k + 5 < recursionLimit
  un : A.units + 16 * k + 200 < cLine
theorem Room.mono {j k : Nat} {A : Around} (r : Room k A) (h : j ≤ k) : Room j A := ⟨r.hd, by have := r.dp; omega, by have := r.un; omega⟩
theorem Room.deeper {k : Nat} {A : Around} (r : Room (k + 1) A) (env : Env) : Room k (A.deeper env) :=
  ⟨r.hd, by have := r.dp; show A.depth + 1 + 3 * k + 5 < _; omega, by have := r.un; show A.units + 3 + 16 * k + 200 < _; omega⟩
theorem make_depth {A : Around} {C : Addr} {us : List Value} {kw : List (Str × Value)} : (A.under (.builtin "type.__call__" ⟨.ref C :: us, kw⟩)).depth = A.depth + 1 := by
  first | rfl | simp [Around.under, Code.weight, Code.isCreation, Code.isGuard, Code.isCaller, Code.frames, Code.isFrame, guardIds]
theorem make_units {A : Around} {C : Addr} {us : List Value} {kw : List (Str × Value)} : (A.under (.builtin "type.__call__" ⟨.ref C :: us, kw⟩)).units = A.units + 1 := by
  first | rfl | simp [Around.under, Code.cUnits, Code.frames, Code.isFrame]
theorem Room.make {k : Nat} {A : Around} (r : Room (k + 1) A) (C : Addr) (us : List Value) (kw : List (Str × Value)) : Room k (A.under (.builtin "type.__call__" ⟨.ref C :: us, kw⟩)) :=
  ⟨r.hd, by have := r.dp; rw [make_depth]; omega, by have := r.un; rw [make_units]; omega⟩
theorem Room.depth {k : Nat} {A : Around} (r : Room k A) : A.depth < recursionLimit := by have := r.dp; omega
theorem Room.units {k : Nat} {A : Around} (r : Room k A) : A.units + 64 < cLine := by have := r.un; omega
/-! ### argument lists and displays -/
noncomputable def tNil : TA := fun _ H Q => Q [] H
noncomputable def tCons (ta : TE) (tr : TA) : TA := fun σ H Q => ta σ H fun x H1 => tr σ H1 fun xs H2 => Q (x :: xs) H2
section
variable {X : Cx} {e : Expr} {es : List Expr} {te : TE} {t : TA} {pos : Pos}
theorem pa_nil : PA X [] tNil := fun _ _ _ _ H Q I h => Calls.spliced_nil ⟨[], H, I, .nil, h⟩
theorem pa_cons (ha : PE X e te) (hr : PA X es t) (hs : starEach (e :: es) X.env = (false, eval e X.env) :: starEach es X.env := by rfl) : PA X (e :: es) (tCons te t) := by
  intro pos pins s σ H Q I h
  rw [hs]
  show wpAny _ _ (spliced ((false, eval e X.env) :: backTo pos (starEach es X.env))) _ _ s
  refine Calls.spliced_cons (thn (ha pins s σ H _ I h) fun u s1 ⟨x, H1, I1, r1, q1⟩ => ?_)
  exact thn (hr pos pins s1 σ H1 _ I1 q1) fun us s2 ⟨xs, H2, I2, r2, q2⟩ => ⟨x :: xs, H2, I2, .cons r1 r2, q2⟩

/-- a tuple, a list of written items -/
noncomputable def tTup (t : TA) : TE := fun σ H Q => t σ H fun xs H1 => xs.length ≤ sizeLine ∧ ∀ p, H1 p = none → Q (.ref p) (upd H1 p (.tup xs))
noncomputable def tLst (t : TA) : TE := fun σ H Q => t σ H fun xs H1 => xs.length ≤ sizeLine ∧ ∀ p, H1 p = none → Q (.ref p) (upd H1 p (.lst xs))
theorem pe_tup {x1} (h : PA X es t) : PE X (.Tuple es x1 pos) (tTup t) := by
  intro pins s σ H Q I hq
  refine wpAny_Tuple_spliced (thn (h pos pins s σ H _ I hq) fun us s1 ⟨xs, H1, I1, r, z, q⟩ => ⟨by rw [← r.length]; exact z, ?_⟩)
  have hf : H1 s1.heap.objs.size = none := I1.hok.fresh (Nat.le_refl _)
  refine ⟨.ref s1.heap.objs.size, upd H1 s1.heap.objs.size (.tup xs), I1.laid (t' := s1.toks) (fun b u e => Heap.get?_push_of_some _ e) (Nat.le_refl _) ?_, rfl, q _ hf⟩
  exact ⟨z, us, r, ⟨_, Heap.get?_push_size _ rfl, rfl, _, rfl⟩⟩
theorem pe_lst (h : PA X es t) : PE X (.List es pos) (tLst t) := by
  intro pins s σ H Q I hq
  refine wpAny_List_spliced (thn (h pos pins s σ H _ I hq) fun us s1 ⟨xs, H1, I1, r, z, q⟩ => ⟨by rw [← r.length]; exact z, ?_⟩)
  have hf : H1 s1.heap.objs.size = none := I1.hok.fresh (Nat.le_refl _)
  refine ⟨.ref s1.heap.objs.size, upd H1 s1.heap.objs.size (.lst xs), I1.laid (t' := s1.toks) (fun b u e => Heap.get?_push_of_some _ e) (Nat.le_refl _) ?_, rfl, q _ hf⟩
  exact ⟨z, us, 0, r, Heap.get?_push_size _ rfl⟩
end

/-! ### what a def promises -/
/-- a def's promise: the bound arguments in the parameters' order, the heap, the wanted end, the wanted exception -/
noncomputable abbrev Sp := List V → Hp → VK → XK → Prop
/-- how an exception lies behind a call (file 08 gives it): the callers' frames, abstract heap and state ahead of the call, the wish, the exception, the state -/
noncomputable abbrev CXT := List Env → Hp → Shared → XK → Value → Shared → Prop

/-- the state at a call -/
structure Env0 (P : Program) (w : World) (K : PySem.W.Frag) (mg : Str → Option Value) (base : Heap) (A : Around) (outer : List Env) (s : Shared) (H : Hp) : Prop where
  frames : A.frames = some outer
  mod : Mod K mg base
  bs : ∀ b o, base.get? b = some o → s.heap.get? b = some o ∧ H b = none
  bsz : base.objs.size ≤ s.heap.objs.size
  funs : s.heap.FunFrames base outer
  frf : ∀ b ∈ frs outer, H b = none
  hok : HOk P w H s.heap
  bare : AllBare s.gens
/-- a call's end -/
noncomputable def CE (outer : List Env) (P : Program) (w : World) (H : Hp) (s : Shared) (Q : VK) (u : Value) (s' : Shared) : Prop :=
  ∃ v H', s'.os = s.os ∧ AllBare s'.gens ∧ Un (frs outer) [] H H' s.heap s'.heap ∧ HOk P w H' s'.heap ∧ RelV v u ∧ Q v H'
noncomputable def CR (CX : CXT) (outer : List Env) (P : Program) (w : World) (H : Hp) (s : Shared) (Q : VK) (E : XK) (r : Result) (s' : Shared) : Prop :=
  match r with
  | .ok (.ret u) => CE outer P w H s Q u s'
  | .ok _ => False
  | .error e => CX outer H s E e s'
structure FnOk (P : Program) (w : World) (K : PySem.W.Frag) (mg : Str → Option Value) (base : Heap) (CX : CXT) (k : Nat) (f : Addr) (fd : FuncData) (ps : List Str) (sp : Sp) : Prop where
  len : ∀ vs H Q E, sp vs H Q E → vs.length = ps.length
  run : ∀ (A : Around) (outer : List Env) (s : Shared) (H : Hp) (args : Args) (us : List Value) (vs : List V) (Q : VK) (E : XK), Room k A → Env0 P w K mg base A outer s H → BindsTo s fd args (ps.zip us) → Vals vs us → sp vs H Q E →
    codeAny (model P w) A (.call (.ref f) args) (CR CX outer P w H s Q E) s
theorem FnOk.mono {P : Program} {w : World} {K : PySem.W.Frag} {mg : Str → Option Value} {base : Heap} {CX : CXT} {j k : Nat} {f : Addr} {fd : FuncData} {ps : List Str} {sp : Sp} (F : FnOk P w K mg base CX j f fd ps sp) (h : j ≤ k) :
    FnOk P w K mg base CX k f fd ps sp := ⟨F.len, fun A outer s H args us vs Q E hr => F.run A outer s H args us vs Q E (hr.mono h)⟩
/-- a weaker promise -/
theorem FnOk.imp {P : Program} {w : World} {K : PySem.W.Frag} {mg : Str → Option Value} {base : Heap} {CX : CXT} {k : Nat} {f : Addr} {fd : FuncData} {ps : List Str} {sp sp' : Sp} (F : FnOk P w K mg base CX k f fd ps sp)
    (h : ∀ vs H Q E, sp' vs H Q E → sp vs H Q E) : FnOk P w K mg base CX k f fd ps sp' :=
  ⟨fun vs H Q E q => F.len vs H Q E (h _ _ _ _ q), fun A outer s H args us vs Q E hr he hb hv hs => F.run A outer s H args us vs Q E hr he hb hv (h _ _ _ _ hs)⟩

theorem Env0.make {P : Program} {w : World} {K : PySem.W.Frag} {mg : Str → Option Value} {base : Heap} {A : Around} {outer : List Env} {s : Shared} {H : Hp} (e : Env0 P w K mg base A outer s H) (C : Addr) (us : List Value) (kw : List (Str × Value)) :
    Env0 P w K mg base (A.under (.builtin "type.__call__" ⟨.ref C :: us, kw⟩)) outer s H := ⟨by first | exact e.frames | (simpa [Around.under, Code.envs, Code.isFrame, pushEnvs] using e.frames), e.mod, e.bs, e.bsz, e.funs, e.frf, e.hok, e.bare⟩
section
variable {X : Cx} {pins : List (Addr × Obj)} {σ : St} {H : Hp} {s s' : Shared}
/-- from a body: what a callee wants -/
theorem Inv.env0 (I : Inv X pins σ H s) : Env0 X.prog X.w X.K X.mg X.base X.A X.stack s H :=
  ⟨I.ok.frames, I.ok.mod, I.bs, Nat.le_trans I.ok.bsz I.sz, I.stack, I.stkFree, I.hok, I.bare⟩
/-- behind a call -/
theorem Inv.after {Q : VK} {u : Value} (I : Inv X pins σ H s) (h : CE X.stack X.prog X.w H s Q u s') : EP X pins σ Q u s' := by
  obtain ⟨v, H', os, bare, un, hok, r, q⟩ := h
  obtain ⟨hh, g, d, t, os'⟩ := s'
  obtain rfl : os' = s.os := os
  exact ⟨v, H', I.call (h' := hh) (g' := g) (d' := d) (t' := t) (ch := []) un hok bare (fun b z => absurd z (by simp)), r, q⟩
end

/-! ### calls -/
/-- f(..): the written arguments, then the defaults dvs; E: what is wanted of an exception -/
noncomputable def tCall (sp : Sp) (dvs : List V) (E : XK) (t : TA) : TE := fun σ H Q => t σ H fun vs H1 => sp (vs ++ dvs) H1 Q E
/-- o.m(..) of an instance of the class at C -/
noncomputable def tMeth (C : Addr) (m : Str) (sp : Sp) (dvs : List V) (E : XK) (ta : TE) (t : TA) : TE := fun σ H Q => ta σ H fun x H1 => ∃ a dx fs, x = .ref a ∧ H1 a = some (.ins C dx fs) ∧ fs.lookup m = none ∧
  t σ H1 fun vs H2 => sp (x :: (vs ++ dvs)) H2 Q E
/-- C(..): a new instance and its dict, then __init__ -/
noncomputable def tMake (C : Addr) (sp : Sp) (dvs : List V) (E : XK) (t : TA) : TE := fun σ H Q => t σ H fun vs H1 => ∀ x dx, H1 x = none → H1 dx = none → dx ≠ x →
  sp (.ref x :: (vs ++ dvs)) (upd (upd H1 dx (.own x)) x (.ins C dx [])) (fun v H2 => v = .non ∧ Q (.ref x) H2) E

/-- how the parameters are bound: us the positional arguments, kw the keywords' values by name, ds the defaults that fill up -/
noncomputable def Binds (K : PySem.W.Frag) (fd : FuncData) (ps : List Str) (ds : List Value) : Prop :=
  ∀ (s : Shared) (us : List Value), K.In s.heap → (us ++ ds).length = ps.length → BindsTo s fd ⟨us, []⟩ (ps.zip (us ++ ds))
/-- every parameter is given -/
theorem Binds.all {K : PySem.W.Frag} {fd : FuncData} {ps : List Str} (h : ∀ us : List Value, us.length = ps.length → bindArgs fd ⟨us, []⟩ = pure (ps.zip us)) : Binds K fd ps [] := fun s us _ hl => by
  rw [List.append_nil] at hl ⊢
  exact .of_eq (h us hl)

/-- an exception of a callee reaches what this body wants of exceptions -/
noncomputable def Passes (CX : CXT) (X : Cx) (E : XK) : Prop := ∀ (pins : List (Addr × Obj)) (σ : St) (H : Hp) (s : Shared) (e : Value) (s' : Shared), Inv X pins σ H s → CX X.stack H s E e s' → X.xe e s'

section
variable {X : Cx} {CX : CXT} {k : Nat} {f C : Addr} {fd : FuncData} {ps : List Str} {sp : Sp} {dvs : List V} {ds : List Value} {E : XK} {x m : Str} {p pos apos : Pos} {e o : Expr} {es : List Expr} {ta : TE} {t : TA}

/-- the callee runs -/
theorem run_fn {pins : List (Addr × Obj)} {σ : St} {H : Hp} {s : Shared} {Q : VK} {us : List Value} {vs : List V} (F : FnOk X.prog X.w X.K X.mg X.base CX k f fd ps sp) (hr : Room k X.A) (hb : Binds X.K fd ps ds) (hd : Vals dvs ds) (hx : Passes CX X E)
    (I : Inv X pins σ H s) (r : Vals vs us) (h : sp (vs ++ dvs) H Q E) : wpAny (model X.prog X.w) X.A (call (.ref f) us) (EP X pins σ Q) X.xe s := by
  have r2 : Vals (vs ++ dvs) (us ++ ds) := r.append hd
  have hl : (us ++ ds).length = ps.length := by rw [← r2.length]; exact F.len _ _ _ _ h
  refine wpAny_call (codeAny_mono (F.run X.A X.stack s H ⟨us, []⟩ (us ++ ds) (vs ++ dvs) Q E hr I.env0 (hb s us I.kIn hl) r2 h) fun r s' hq => ?_)
  cases r with
  | error e => exact hx pins σ H s e s' I hq
  | ok fl =>
    cases fl with
    | ret u => exact I.after hq
    | next => exact False.elim hq
    | brk => exact False.elim hq
    | cont => exact False.elim hq

theorem pe_call (F : FnOk X.prog X.w X.K X.mg X.base CX k f fd ps sp) (hr : Room k X.A) (hg : Gl X x) (hm : X.mg x = some (.ref f)) (hk : PySem.W.keepIn X.K (.ref f) = true) (hb : Binds X.K fd ps ds) (hd : Vals dvs ds) (hx : Passes CX X E)
    (ha : PA X (e :: es) t) (hdb : (x == ("__debug__" : Str)) = false := by decide) (he : starEach (e :: es) X.env = (false, eval e X.env) :: starEach es X.env := by rfl) (hpl : (backTo pos (starEach es X.env)).any (·.1) = false := by rfl) :
    PE X (.Call (.Name x p) (e :: es) [] pos) (tCall sp dvs E t) := by
  intro pins s σ H Q I h
  refine wpAny_Call_Name_kw (ld_glob I hg hm ?_ hdb)
  refine PySem.W.callWith_K (h₀ := X.base) I.ok.mod.kin hk (thn (ha pos pins s σ H _ I h) fun us s1 ⟨vs, H1, I1, r, q⟩ => ⟨I1.kIn, ?_⟩) he hpl
  exact run_fn F hr hb hd hx I1 r q
/-- o.m(e, ..) -/
theorem pe_meth {pl : Sem Bool} (he : PE X o ta) (c : Cls X.K C) (hm : Meth X.K C m f) (F : FnOk X.prog X.w X.K X.mg X.base CX k f fd ps sp) (hr : Room k X.A) (hb : Binds X.K fd ps ds) (hd : Vals dvs ds) (hx : Passes CX X E) (ha : PA X (e :: es) t)
    (hst : starEach (e :: es) X.env = (false, eval e X.env) :: starEach es X.env := by rfl) (hpl : (backTo pos (starEach es X.env)).any (·.1) = false := by rfl)
    (ht : eval (.Call (.Attribute o m apos) (e :: es) [] pos) X.env = (do
      let ov ← eval o X.env
      standAt apos.atName
      let (f, first) ← holding [ov] (getMethod ov m pl)
      callWith pos f first (backTo pos (starEach (e :: es) X.env)) (backToKw pos (keywordEach [] X.env))) := by rfl) :
    PE X (.Call (.Attribute o m apos) (e :: es) [] pos) (tMeth C m sp dvs E ta t) := by
  intro pins s σ H Q I h
  refine PySem.W.methodCall_KW (pl := pl) (thn (he pins s σ H _ I h) fun u s1 ⟨x, H1, I1, rx, a, dx, fs, ex, ea, l, q⟩ => ?_) ht
  subst ex
  obtain rfl : u = Value.ref a := rx
  refine getmeth_ok I1 ea c hm l ?_
  refine PySem.W.callWith_K (first := [.ref a]) (h₀ := X.base) I.ok.mod.kin hm.kp (thn (ha pos pins s1 σ H1 _ I1 q) fun us s2 ⟨vs, H2, I2, r, q2⟩ => ⟨I2.kIn, ?_⟩) hst hpl
  exact run_fn (us := .ref a :: us) (vs := .ref a :: vs) F hr hb hd hx I2 (.cons rfl r) q2
/-- o.m() -/
theorem pe_meth0 {pl : Sem Bool} (he : PE X o ta) (c : Cls X.K C) (hm : Meth X.K C m f) (F : FnOk X.prog X.w X.K X.mg X.base CX k f fd ps sp) (hr : Room k X.A) (hb : Binds X.K fd ps ds) (hd : Vals dvs ds) (hx : Passes CX X E)
    (ht : eval (.Call (.Attribute o m apos) [] [] pos) X.env = (do
      let ov ← eval o X.env
      standAt apos.atName
      let (f, first) ← holding [ov] (getMethod ov m pl)
      callWith pos f first (backTo pos (starEach [] X.env)) (backToKw pos (keywordEach [] X.env))) := by rfl) :
    PE X (.Call (.Attribute o m apos) [] [] pos) (tMeth C m sp dvs E ta tNil) := by
  intro pins s σ H Q I h
  refine PySem.W.methodCall_KW (pl := pl) (thn (he pins s σ H _ I h) fun u s1 ⟨x, H1, I1, rx, a, dx, fs, ex, ea, l, q⟩ => ?_) ht
  subst ex
  obtain rfl : u = Value.ref a := rx
  refine getmeth_ok I1 ea c hm l ?_
  exact PySem.W.callWith_K0 (first := [.ref a]) I1.kIn hm.kp (run_fn (us := [.ref a]) (vs := [.ref a]) F hr hb hd hx I1 (.cons rfl .nil) q)

/-- what a class must have to be made -/
structure Mk (K : PySem.W.Frag) (C f : Addr) : Prop where
  makes : PySem.W.makesIn K C = true
  init : PySem.W.findIn K (.ref C) "__init__" = some (some (.ref f))
  fn : PySem.W.isFn K (.ref f) = true
  kp : PySem.W.keepIn K (.ref C) = true

theorem run_make {pins : List (Addr × Obj)} {σ : St} {H : Hp} {s : Shared} {Q : VK} {us : List Value} {vs : List V} (M : Mk X.K C f) (F : FnOk X.prog X.w X.K X.mg X.base CX k f fd ps sp) (hr : Room (k + 1) X.A) (hb : Binds X.K fd ps ds) (hd : Vals dvs ds)
    (hx : Passes CX X E) (I : Inv X pins σ H s) (r : Vals vs us)
    (h : ∀ x dx, H x = none → H dx = none → dx ≠ x → sp (.ref x :: (vs ++ dvs)) (upd (upd H dx (.own x)) x (.ins C dx [])) (fun v H2 => v = .non ∧ Q (.ref x) H2) E) :
    wpAny (model X.prog X.w) X.A (call (.ref C) us) (EP X pins σ Q) X.xe s := by
  have hq := h (s.heap.objs.size + 1) s.heap.objs.size (I.hok.fresh (Nat.le_succ _)) (I.hok.fresh (Nat.le_refl _)) (Nat.ne_of_lt (Nat.lt_succ_self _))
  have I2 := Inv.made (C := C) I
  have r2 : Vals (V.ref (s.heap.objs.size + 1) :: (vs ++ dvs)) (Value.ref (s.heap.objs.size + 1) :: (us ++ ds)) := .cons rfl (r.append hd)
  have hl : (Value.ref (s.heap.objs.size + 1) :: us ++ ds).length = ps.length := by
    have e := r2.length
    rw [F.len _ _ _ _ hq] at e
    exact e.symm
  refine wpAny_call (make_map (f := f) I.kIn M.makes M.init (beq_iff_eq.mp M.fn) (codeAny_mono (F.run _ X.stack _ _ ⟨Value.ref (s.heap.objs.size + 1) :: us, []⟩ (Value.ref (s.heap.objs.size + 1) :: (us ++ ds)) _ _ E (hr.make C us [])
    (I2.env0.make C us []) (hb _ (Value.ref (s.heap.objs.size + 1) :: us) I2.kIn hl) r2 hq) fun r s' hq' => ?_))
  cases r with
  | error e => exact hx pins σ _ _ e s' I2 hq'
  | ok fl =>
    cases fl with
    | ret u =>
      obtain ⟨v, H', I3, rv, ev, q3⟩ := I2.after hq'
      subst ev
      exact ⟨rv, ⟨V.ref (s.heap.objs.size + 1), H', I3, rfl, q3⟩⟩
    | next => exact False.elim hq'
    | brk => exact False.elim hq'
    | cont => exact False.elim hq'
theorem pe_make (M : Mk X.K C f) (F : FnOk X.prog X.w X.K X.mg X.base CX k f fd ps sp) (hr : Room (k + 1) X.A) (hg : Gl X x) (hm : X.mg x = some (.ref C)) (hb : Binds X.K fd ps ds) (hd : Vals dvs ds) (hx : Passes CX X E)
    (ha : PA X (e :: es) t) (hdb : (x == ("__debug__" : Str)) = false := by decide) (he : starEach (e :: es) X.env = (false, eval e X.env) :: starEach es X.env := by rfl) (hpl : (backTo pos (starEach es X.env)).any (·.1) = false := by rfl) :
    PE X (.Call (.Name x p) (e :: es) [] pos) (tMake C sp dvs E t) := by
  intro pins s σ H Q I h
  refine wpAny_Call_Name_kw (ld_glob I hg hm ?_ hdb)
  refine PySem.W.callWith_K (h₀ := X.base) I.ok.mod.kin M.kp (thn (ha pos pins s σ H _ I h) fun us s1 ⟨vs, H1, I1, r, q⟩ => ⟨I1.kIn, ?_⟩) he hpl
  exact run_make M F hr hb hd hx I1 r q
end

/-! ### keywords -/
section
variable {X : Cx} {CX : CXT} {k : Nat} {f C : Addr} {fd : FuncData} {ps ks : List Str} {sp : Sp} {E : XK} {x m : Str} {p pos apos kpos : Pos} {e o : Expr} {es : List Expr} {kws : List Keyword} {te ta : TE} {t tk : TA} {nm : Option Str}
variable {g : List Value → List Value → List Value} {gV : List V → List V → List V}
end

/-! ### a def's body keeps its promise -/
/-- names: the parameters first -/
structure FnScope (N P : List Str) (sc : Scope) : Prop where
  kind : sc.kind = .function
  co : sc.isCoroutine = false
  gen : sc.isGenerator = false
  nd : N.Nodup
  pre : N.take P.length = P
  par : ∀ x ∈ P, sc.names.lookup x = some .local ∨ sc.names.lookup x = some .cell
  nofree : ∀ y ∈ sc.names, y.2 ≠ .free

theorem bindL_out {kindOf : Str → Option NameKind} {x : Str} : ∀ {binds : List (Str × Value)} {m : Str → Option Value}, (∀ v, (x, v) ∉ binds) → bindL kindOf binds m x = m x
  | [], _, _ => rfl
  | (n, v) :: r, m, h => by
    unfold bindL
    rw [bindL_out fun w hw => h w (List.mem_cons_of_mem _ hw)]
    split
    · have : x ≠ n := by rintro rfl; exact h v List.mem_cons_self
      simp [this]
    · rfl
theorem bindC_out {kindOf : Str → Option NameKind} {x : Str} : ∀ {binds : List (Str × Value)} {m : Str → Option Value}, (∀ v, (x, v) ∉ binds) → bindC kindOf binds m x = m x
  | [], _, _ => rfl
  | (n, v) :: r, m, h => by
    unfold bindC
    rw [bindC_out fun w hw => h w (List.mem_cons_of_mem _ hw)]
    split
    · rfl
    · have : x ≠ n := by rintro rfl; exact h v List.mem_cons_self
      simp [this]
theorem bindL_get {kindOf : Str → Option NameKind} {x : Str} {v : Value} : ∀ {P : List Str} {vs : List Value} {i : Nat} {m : Str → Option Value}, P.Nodup → P[i]? = some x → vs[i]? = some v → kindOf x = some .local →
    bindL kindOf (P.zip vs) m x = some v
  | [], _, _, _, _, h, _, _ => by simp at h
  | _ :: _, [], _, _, _, _, h, _ => by simp at h
  | p :: P, w :: vs, 0, m, nd, h1, h2, hk => by
    simp at h1 h2; subst h1; subst h2
    show bindL kindOf ((p, w) :: P.zip vs) m p = _
    unfold bindL
    rw [bindL_out fun v hv => (List.nodup_cons.mp nd).1 (List.of_mem_zip hv).1, if_pos hk]
    simp
  | p :: P, w :: vs, i + 1, m, nd, h1, h2, hk => by
    show bindL kindOf ((p, w) :: P.zip vs) m x = _
    unfold bindL
    exact bindL_get (i := i) (List.nodup_cons.mp nd).2 (by simpa using h1) (by simpa using h2) hk
theorem bindC_get {kindOf : Str → Option NameKind} {x : Str} {v : Value} : ∀ {P : List Str} {vs : List Value} {i : Nat} {m : Str → Option Value}, P.Nodup → P[i]? = some x → vs[i]? = some v → kindOf x ≠ some .local →
    bindC kindOf (P.zip vs) m x = some v
  | [], _, _, _, _, h, _, _ => by simp at h
  | _ :: _, [], _, _, _, _, h, _ => by simp at h
  | p :: P, w :: vs, 0, m, nd, h1, h2, hk => by
    simp at h1 h2; subst h1; subst h2
    show bindC kindOf ((p, w) :: P.zip vs) m p = _
    unfold bindC
    rw [bindC_out fun v hv => (List.nodup_cons.mp nd).1 (List.of_mem_zip hv).1, if_neg hk]
    simp
  | p :: P, w :: vs, i + 1, m, nd, h1, h2, hk => by
    show bindC kindOf ((p, w) :: P.zip vs) m x = _
    unfold bindC
    exact bindC_get (i := i) (List.nodup_cons.mp nd).2 (by simpa using h1) (by simpa using h2) hk

/-- the names' values at the entry -/
noncomputable def start (N : List Str) (vs : List V) : St := vs.map some ++ List.replicate (N.length - vs.length) none

/-- the context of a def's body, at its entry; an exception leaves the frame, then lies as CX says -/
noncomputable def cxOf (CX : CXT) (P : Program) (w : World) (K : PySem.W.Frag) (mg : Str → Option Value) (base : Heap) (N : List Str) (qual : Str) (scope : Scope) (f : Addr) (cd : Value) (A : Around) (outer : List Env) (s : Shared) (H : Hp) (E : XK) : Cx where
  prog := P
  w := w
  K := K
  mg := mg
  base := base
  A := A.deeper (envOfC qual scope s.heap.objs.size f cd)
  N := N
  s₀ := s
  H₀ := H
  env := envOfC qual scope s.heap.objs.size f cd
  outer := outer
  stack := envOfC qual scope s.heap.objs.size f cd :: outer
  ex := []
  calm := true
  fn := fun _ => true
  pn := []
  xe := fun e s' => wpAny (model P w) (A.deeper (envOfC qual scope s.heap.objs.size f cd)) (leaving (envOfC qual scope s.heap.objs.size f cd) e) (fun _ s'' => CX outer H s E e s'') (fun e' s'' => CX outer H s E e' s'') s'

theorem cell_has {sc : Scope} {n : Nat} {x : Str} (h : sc.names.lookup x = some .cell) : ∃ c, (cellsFrom n sc.names []).lookup x = some c := by
  have q := PySem.W.cellsFrom_some sc.names n [] (.inl h)
  exact Option.isSome_iff_exists.mp q

theorem inv_start {CX : CXT} {P : Program} {w : World} {K : PySem.W.Frag} {mg : Str → Option Value} {base : Heap} {N ps : List Str} {qual : Str} {scope : Scope} {f : Addr} {cd : Value} {A : Around} {outer : List Env} {s s1 : Shared} {H : Hp} {E : XK} {us : List Value} {vs : List V}
    (S : FnScope N ps scope) (hd : A.handled = none) (e0 : Env0 P w K mg base A outer s H) (hl : vs.length = ps.length) (r : Vals vs us)
    (x : InCallC s s.heap.objs.size (bindL (envOfC qual scope s.heap.objs.size f cd).kindOf (ps.zip us) fun _ => none) (cellsFrom (s.heap.objs.size + 1) scope.names []) (bindC (envOfC qual scope s.heap.objs.size f cd).kindOf (ps.zip us) fun _ => none) s1) :
    Inv (cxOf CX P w K mg base N qual scope f cd A outer s H E) [] (start N vs) H s1 := by
  have hpl : ps.length ≤ N.length := by have := congrArg List.length S.pre; rw [List.length_take] at this; omega
  obtain ⟨h1, tk, rfl, hk⟩ := x.done
  have noA : ∀ b : Addr, b ∉ (cxOf CX P w K mg base N qual scope f cd A outer s H E).ex := fun b z => absurd (show b ∈ ([] : List Addr) from z) (by simp)
  refine ⟨⟨e0.mod, S.kind, rfl, rfl, Nat.le_refl _, fun y z c h1 h2 => ?_, fun y hy => ?_, fun y c _ h => ?_, fun _ => hd, Around.frames_deeper e0.frames, .inr ⟨rfl, rfl⟩, fun b z => absurd z (noA b), e0.bs, e0.bsz, fun b _ _ => noA b, fun b z => absurd z (noA b), e0.funs, e0.frf⟩,
    rfl, e0.bare, Un.kept hk, ⟨_, x.toInCall.ns, fun i y v h1 h2 h3 => ?_⟩, fun y c h => ⟨_, x.cell y c h⟩, e0.hok.fresh (Nat.le_refl _), fun y c h => ?_, fun p hp => absurd (show p ∈ ([] : List (Addr × Obj)) from hp) (by simp), e0.hok.kept hk, ?_⟩
  · exact name_of_addr x.apart (PySem.mem_of_lookup h1) (PySem.mem_of_lookup h2)
  · have hy : scope.names.lookup y = some .cell ∨ scope.names.lookup y = some .free := hy
    rcases hy with hy | hy
    · exact cell_has hy
    · exact absurd rfl (S.nofree _ (PySem.mem_of_lookup hy))
  · exact Nat.le_of_lt (x.above y c (PySem.mem_of_lookup h))
  · have hi : i < vs.length := by
      unfold start at h2
      by_cases hi : i < vs.length
      · exact hi
      · rw [List.getElem?_append_right (by simpa using hi)] at h2
        rw [List.getElem?_replicate] at h2
        split at h2 <;> cases h2
    have ha : vs[i]? = some v := by
      unfold start at h2
      rw [List.getElem?_append_left (by simpa using hi), List.getElem?_map] at h2
      cases e : vs[i]? with
      | none => rw [e] at h2; cases h2
      | some a => rw [e] at h2; cases h2; rfl
    obtain ⟨u, hu, rv⟩ := r.get ha
    have hp : ps[i]? = some y := by
      rw [← S.pre, List.getElem?_take_of_lt (by omega)]; exact h1
    have ndP : ps.Nodup := by rw [← S.pre]; exact S.nd.sublist (List.take_sublist _ _)
    refine ⟨u, rv, ?_⟩
    rcases S.par y (List.mem_of_getElem? hp) with k | k
    · exact .inl ⟨k, bindL_get ndP hp hu k⟩
    · obtain ⟨c, e⟩ := cell_has (n := s.heap.objs.size + 1) k
      refine .inr ⟨.inl k, c, e, ?_⟩
      have q := x.cell y c e
      rw [bindC_get ndP hp hu (by show scope.names.lookup y ≠ _; rw [k]; decide)] at q
      exact q
  · exact e0.hok.fresh (Nat.le_of_lt (x.above y c (PySem.mem_of_lookup h)))
  · unfold start
    show _ = N.length
    rw [List.length_append, List.length_map, List.length_replicate]
    omega

/-- THE RULE: a def (or a method) of the text, by its body. The body's reading t is chosen for each entry; it is run at the parameters' values -/
theorem fn_of {CX : CXT} {P : Program} {w : World} {K : PySem.W.Frag} {mg : Str → Option Value} {base : Heap} {k : Nat} {f : Addr} {name qual : Str} {params : Arguments} {body : List Stmt} {scope : Scope} {dV kV doc pm cdv ct oc : Value} {an od : Option Addr}
    {osl : Array (Option Value)} {N ps : List Str} {sp : Sp} (lk : K.lookup f = some ⟨oc, od, .func (PySem.W.fnOf name qual params body scope dV kV doc pm an cdv ct), osl⟩) (hcd : PySem.W.codeIn K cdv qual = true) (S : FnScope N ps scope)
    (len : ∀ vs H Q E, sp vs H Q E → vs.length = ps.length)
    (hbody : ∀ (A : Around) (outer : List Env) (s : Shared) (H : Hp) (vs : List V) (Q : VK) (E : XK), Room k (A.deeper (envOfC qual scope s.heap.objs.size f cdv)) → sp vs H Q E →
      ∃ t, PSs (cxOf CX P w K mg base N qual scope f cdv A outer s H E) body t ∧ t { nx := fun _ H' => Q .non H', rt := Q } (start N vs) H) :
    FnOk P w K mg base CX (k + 1) f (PySem.W.fnOf name qual params body scope dV kV doc pm an cdv ct) ps sp := by
  refine ⟨len, fun A outer s H args us vs Q E hr e0 hb r hsp => ?_⟩
  have hl := len _ _ _ _ hsp
  have KX : K.In s.heap := e0.mod.kin.keeps fun b o e => (e0.bs b o e).1
  have lim : s.heap.NoLimit := e0.mod.nolimit.keeps fun b o e => (e0.bs b o e).1
  have hkind : ∀ y ∈ ps.zip us, scope.names.lookup y.1 = some .local ∨ (scope.names.lookup y.1 = some .cell ∧ ((cellsFrom (s.heap.objs.size + 1) scope.names []).lookup y.1).isSome = true) := fun ⟨n, v⟩ hy => by
    rcases S.par n (List.of_mem_zip hy).1 with q | q
    · exact .inl q
    · exact .inr ⟨q, PySem.W.cellsFrom_some _ _ _ (.inl q)⟩
  refine codeAny_call_function hr.depth (KX _ _ lk) rfl S.co S.gen rfl (PySem.W.codeRec_of KX hcd) (hb _ _ _ _ ?_)
  refine wpAny_newFunctionEnv_cells S.kind hkind fun env he s1 x => ?_
  subst he
  refine ⟨lim.keeps x.toInCall.keep, codeAny_func ?_⟩
  obtain ⟨t, ht, hq⟩ := hbody A outer s H vs Q E (hr.deeper _) hsp
  have I : Inv (cxOf CX P w K mg base N qual scope f cdv A outer s H E) [] (start N vs) H s1 := inv_start S hr.hd e0 hl r x
  refine wpAny_mono (ht [] s1 (start N vs) H _ I hq) (fun fl s' hs => ?_) fun e s' hs => hs
  have fin : ∀ {σ' : St} {H' : Hp} {v : V} {u : Value}, Inv (cxOf CX P w K mg base N qual scope f cdv A outer s H E) [] σ' H' s' → RelV v u → Q v H' → CE outer P w H s Q u s' :=
    fun {σ' H' v u} J rv q => ⟨v, H', J.os, J.bare, J.base, J.hok, rv, q⟩
  cases fl with
  | ret u =>
    obtain ⟨v, σ', H', J, rv, q⟩ := hs
    exact fin J rv q
  | next =>
    obtain ⟨σ', H', J, q⟩ := hs
    exact fin (v := V.non) (u := Value.none) J rfl q
  | brk =>
    obtain ⟨_, _, _, q⟩ := hs
    exact False.elim q
  | cont =>
    obtain ⟨_, _, _, q⟩ := hs
    exact False.elim q
end L2

namespace L2
open PySem PySem.Spec PyProof.Rows
section
variable {X : Cx} {x : Str} {p pos : Pos} {e : Expr} {es : List Expr} {t : TA} {id T : String} {r : List V → Hp → VK → Prop}

noncomputable def tCB (r : List V → Hp → VK → Prop) (t : TA) : TE := fun σ H Q => t σ H fun vs H1 => r vs H1 Q
/-- f(e, ..), f a built-in function -/
theorem pe_callB (hc : CallR X (.builtin id) r) (hg : Gl X x) (hm : X.mg x = none) (hv : bootBuiltins x = some (.builtin id)) (ha : PA X (e :: es) t) (hn : x ≠ "__name__" := by decide) (hdb : (x == ("__debug__" : Str)) = false := by decide)
    (he : starEach (e :: es) X.env = (false, eval e X.env) :: starEach es X.env := by rfl) (hpl : (backTo pos (starEach es X.env)).any (·.1) = false := by rfl) : PE X (.Call (.Name x p) (e :: es) [] pos) (tCB r t) := by
  intro pins s σ H Q I h
  refine wpAny_Call_Name_kw (ld_blt I hg hm hv ?_ hn hdb)
  exact PyProof.Rows.callWith_builtin1 (thn (ha pos pins s σ H _ I h) fun us s1 ⟨vs, H1, I1, r1, q1⟩ => hc pins s1 σ H1 vs us Q I1 r1 q1) he hpl
/-- T(e, ..), T a built-in type -/
theorem pe_callTy (hc : CallR X (.type T) r) (hg : Gl X x) (hm : X.mg x = none) (hv : bootBuiltins x = some (.type T)) (ha : PA X (e :: es) t) (hn : x ≠ "__name__" := by decide) (hdb : (x == ("__debug__" : Str)) = false := by decide)
    (he : starEach (e :: es) X.env = (false, eval e X.env) :: starEach es X.env := by rfl) (hpl : (backTo pos (starEach es X.env)).any (·.1) = false := by rfl) : PE X (.Call (.Name x p) (e :: es) [] pos) (tCB r t) := by
  intro pins s σ H Q I h
  refine wpAny_Call_Name_kw (ld_blt I hg hm hv ?_ hn hdb)
  exact PyProof.Rows.callWith_type1 (thn (ha pos pins s σ H _ I h) fun us s1 ⟨vs, H1, I1, r1, q1⟩ => hc pins s1 σ H1 vs us Q I1 r1 q1) he hpl
end
end L2

namespace HT
open PySem PyProof.Rows

section
open PySem.SeqAt
open PySem.AutoSeq1 (wpAny_loadPart')
open PySem.MeetsSeq PySem.MeetsSeq2 PySem.MeetsSeq3

end

section
variable {prog : Program} {w : World} {A : Around} {E : Value → Shared → Prop} {s : Shared}

/-- t + u, t not empty -/
theorem cat_tup {t b : Addr} {vs ws : List Value} {Q : Value → Shared → Prop} (ht : IsTup s.heap t vs.toArray) (hb : IsTup s.heap b ws.toArray) (hv : vs ≠ [])
    (h1 : ws = [] → Q (.ref t) s) (h2 : ws ≠ [] → Q (.ref s.heap.objs.size) { s with heap := s.heap.push { cls := .type "tuple", data := .seq (vs ++ ws).toArray } })
    (hsz : vs.length + ws.length ≤ sizeLine) : wpAny (model prog w) A (binaryOp .Add (.ref t) (.ref b)) Q E s := by
  obtain ⟨⟨cls, dd, data, sl⟩, ho, hc, n, hd⟩ := id ht
  obtain ⟨⟨cls2, dd2, data2, sl2⟩, ho2, hc2, n2, hd2⟩ := id hb
  simp only at hc hd hc2 hd2
  subst hc hd hc2 hd2
  have e : vs.toArray ++ ws.toArray = (vs ++ ws).toArray := by simp
  by_cases hw : ws = []
  · exact concat_meets ⟨_, ho, rfl⟩ ⟨_, ho2, rfl⟩ noFill_tuple_add seq_tuple_add PySem.F.slot_tuple_add PySem.F.entry_tuple_add (PySem.F.args_tuple_add_2 _ _)
      (tuple_addW1 t b vs.toArray ws.toArray n n2 dd dd2 sl sl2 (by simpa using hv) (by simp [hw])) ⟨ho, ho2, h1 hw⟩
  · refine concat_meets ⟨_, ho, rfl⟩ ⟨_, ho2, rfl⟩ noFill_tuple_add seq_tuple_add PySem.F.slot_tuple_add PySem.F.entry_tuple_add (PySem.F.args_tuple_add_2 _ _)
      (tuple_addW2 t b vs.toArray ws.toArray n n2 dd dd2 sl sl2 (by simpa using hv) (by simpa using hw) (by rw [List.size_toArray, List.size_toArray]; exact hsz)) ⟨ho, ho2, ?_⟩
    rw [e]
    exact h2 hw

/-! ### t[a:b], not the whole -/
/-- a slice's bound as a place among n (d where it is left out) -/
noncomputable def sIx (n d : Nat) : Option Int → Nat
  | none => d
  | some v => if v < 0 then (v + (n : Int)).toNat else min v.toNat n
theorem sIx_nat (n d k : Nat) : sIx n d (some (k : Int)) = min k n := by
  show (if (k : Int) < 0 then ((k : Int) + (n : Int)).toNat else min (k : Int).toNat n) = min k n
  rw [if_neg (by omega), Int.toNat_natCast]
theorem sIx_le (n d : Nat) (hd : d ≤ n) (o : Option Int) : sIx n d o ≤ n := by
  cases o with
  | none => exact hd
  | some v =>
    show (if v < 0 then (v + (n : Int)).toNat else min v.toNat n) ≤ n
    by_cases hv : v < 0
    · rw [if_pos hv]; omega
    · rw [if_neg hv]; exact Nat.min_le_right _ _
theorem clip_eq (v : Int) (n d : Nat) : (if v < 0 then max (v + (n : Int)) 0 else min v (n : Int)) = ((sIx n d (some v) : Nat) : Int) := by
  show (if v < 0 then max (v + (n : Int)) 0 else min v (n : Int)) = (((if v < 0 then (v + (n : Int)).toNat else min v.toNat n) : Nat) : Int)
  by_cases hv : v < 0
  · simp only [if_pos hv]; omega
  · simp only [if_neg hv]; omega
theorem adjust_gen (lo hi : Option Int) (n : Nat) : Builtin.Slice.sliceAdjust lo hi 1 (n : Int) = (((sIx n 0 lo : Nat) : Int), ((sIx n n hi : Nat) : Int)) := by
  have h1 : ¬ ((1 : Int) < 0) := by omega
  unfold Builtin.Slice.sliceAdjust
  simp only [h1, if_false]
  refine Prod.ext ?_ ?_
  · cases lo with
    | none => rfl
    | some v => exact clip_eq v n 0
  · cases hi with
    | none => rfl
    | some v => exact clip_eq v n n
theorem places_gen (i j : Nat) : Builtin.Slice.slicePlaces (i : Int) (j : Int) 1 = j - i := by
  unfold Builtin.Slice.slicePlaces
  have h1 : (1 : Int) > 0 := by omega
  simp only [h1, if_true, Int.ediv_one]
  split <;> omega
theorem slicePart_ {v : Value} {o : Option Int} {Q : Option Int → Shared → Prop} (p : IsPart v o) (h : Q o s) : wpAny (model prog w) A (Builtin.Slice.slicePartIndex v) Q E s := by
  cases p with
  | none => exact slicePart_none h
  | int i t => exact slicePart_int h
theorem sliceApplied_gen {sl : Addr} {vl vu : Value} {lo hi : Option Int} {n : Nat} {Q : Int × Int × Nat → Shared → Prop} (hs : s.heap.IsSliceOf sl vl vu .none) (pl : IsPart vl lo) (pu : IsPart vu hi)
    (h : Q (((sIx n 0 lo : Nat) : Int), 1, sIx n n hi - sIx n 0 lo) s) : wpAny (model prog w) A (Builtin.Slice.sliceApplied (.ref sl) (pure (n : Int))) Q E s := by
  obtain ⟨os, hos, hcs, hds⟩ := id hs
  unfold Builtin.Slice.sliceApplied Builtin.Slice.sliceFields
  refine wpAny_bind (wpAny_bind (wpAny_field hos hds (x := vl) rfl (wpAny_bind (wpAny_field hos hds (x := vu) rfl (wpAny_bind (wpAny_field hos hds (x := .none) rfl (wpAny_pure ?_)))))))
  refine wpAny_bind (slicePart_none ?_)
  show wpAny _ _ (if ((1 : Int) == 0) = true then _ else _) _ _ s
  rw [if_neg (by decide)]
  refine wpAny_bind (slicePart_ pl (wpAny_bind (slicePart_ pu (wpAny_bind (wpAny_pure ?_)))))
  show wpAny _ _ (match Builtin.Slice.sliceAdjust lo hi 1 (n : Int) with | (lo, hi) => pure (lo, (1 : Int), Builtin.Slice.slicePlaces lo hi 1)) _ _ s
  rw [adjust_gen lo hi n]
  show wpAny _ _ (pure (((sIx n 0 lo : Nat) : Int), (1 : Int), Builtin.Slice.slicePlaces ((sIx n 0 lo : Nat) : Int) ((sIx n n hi : Nat) : Int) 1)) _ _ s
  rw [places_gen]
  exact wpAny_pure h
theorem pick_gen (xs : Array Value) (i k : Nat) : ((List.range k).filterMap fun (m : Nat) => xs[((i : Int) + (m : Int) * 1).toNat]?).toArray = ((xs.toList.drop i).take k).toArray := by
  have e : (fun (m : Nat) => xs[((i : Int) + (m : Int) * 1).toNat]?) = fun m => xs[i + m]? := by
    funext m
    have : ((i : Int) + (m : Int) * 1).toNat = i + m := by omega
    rw [this]
  rw [e]
  have := pick_run xs i k
  rw [List.filterMap_map] at this
  have e2 : ((fun x => xs[x]?) ∘ fun x => i + x) = fun m => xs[i + m]? := rfl
  rw [e2] at this
  rw [this]

theorem getItem_tuple_cut {t sl : Addr} {items : Array Value} {vl vu : Value} {lo hi : Option Int} {Q : Value → Shared → Prop} (ht : IsTup s.heap t items) (hs : s.heap.IsSliceOf sl vl vu .none) (pl : IsPart vl lo) (pu : IsPart vu hi)
    (hw : ¬ (sIx items.size 0 lo = 0 ∧ sIx items.size items.size hi = items.size))
    (h : Q (.ref s.heap.objs.size) { s with heap := s.heap.push { cls := .type "tuple", data := .seq ((items.toList.drop (sIx items.size 0 lo)).take (sIx items.size items.size hi - sIx items.size 0 lo)).toArray } })
    (hsz : items.size ≤ sizeLine) : wpAny (model prog w) A (getItem (.ref t) (.ref sl)) Q E s := by
  have htake : sizeOk (.seq ((items.toList.drop (sIx items.size 0 lo)).take (sIx items.size items.size hi - sIx items.size 0 lo)).toArray) := by
    show ((items.toList.drop (sIx items.size 0 lo)).take (sIx items.size items.size hi - sIx items.size 0 lo)).toArray.size ≤ sizeLine
    rw [List.size_toArray, List.length_take, List.length_drop, Array.length_toList]
    omega
  have hj : sIx items.size items.size hi ≤ items.size := sIx_le _ _ (Nat.le_refl _) hi
  obtain ⟨os, hos, hcs, hds⟩ := id hs
  have hTs : s.TypeIs (.ref sl) "slice" := ⟨os, hos, hcs⟩
  unfold getItem
  try with_reducible refine wpAny_holding ?_
  first | refine wpAny_bind (wpAny_pure ?_) | skip
  refine wpAny_bind (wpAny_sequenceKey ht.typeIs (by decide) ?_)
  refine wpAny_bind (wpAny_callSpecial?_slot (name := Str.ofString "__getitem__") ht.typeIs PyProof.Rows.slot_tuple_getitem
    (wpAny_call_entry PyProof.Rows.slot_tuple_getitem ht.typeIs entry_tuple_getitem ?_ (args_tuple_getitem _ _)))
  show wpAny _ _ (Builtin.Tuple.tupleItemsOf (.ref t) >>= _) _ _ s
  refine wpAny_bind (tupleItemsOf_ ht ?_)
  refine wpAny_bind (wpAny_typeOf hTs ?_)
  rw [if_pos (by decide)]
  refine wpAny_bind (sliceApplied_gen hs pl pu ?_)
  have hno : ¬ ((((sIx items.size 0 lo : Nat) : Int) == 0 && (1 : Int) == 1 && (sIx items.size items.size hi - sIx items.size 0 lo) == items.size) = true) := by
    intro q
    rw [Bool.and_eq_true, Bool.and_eq_true] at q
    have q1 : ((sIx items.size 0 lo : Nat) : Int) = 0 := eq_of_beq q.1.1
    have q2 : sIx items.size items.size hi - sIx items.size 0 lo = items.size := eq_of_beq q.2
    exact hw ⟨by omega, by omega⟩
  show wpAny _ _ (if (((sIx items.size 0 lo : Nat) : Int) == 0 && (1 : Int) == 1 && (sIx items.size items.size hi - sIx items.size 0 lo) == items.size) = true then _ else _) _ _ s
  rw [if_neg hno, pick_gen]
  first
    | exact wpAny_bind (m := Builtin.Tuple.tupleExact _) (wpAny_newObj_type (wpAny_pure ⟨_, rfl, wpAny_pure h⟩) htake)
    | exact wpAny_bind (m := Builtin.Tuple.tupleExact _) (wpAny_newObj_type (wpAny_bind (wpAny_pure (wpAny_pure ⟨_, rfl, wpAny_pure h⟩))) htake)
    | exact wpAny_bind (wpAny_bind (m := Builtin.Tuple.tupleExact _) (wpAny_newObj_type (wpAny_pure (wpAny_pure ⟨_, rfl, wpAny_pure h⟩)) htake))
    | exact wpAny_bind (wpAny_bind (m := Builtin.Tuple.tupleExact _) (wpAny_newObj_type (wpAny_pure ⟨_, rfl, wpAny_pure h⟩) htake))
end
end HT

namespace L2
open PySem PySem.Spec PyProof.Rows

/-! ### the parts of a slice -/
noncomputable abbrev TO := St → Hp → (Option Int → Hp → Prop) → Prop
/-- a slice's part (left out, or an int) -/
noncomputable def PO (X : Cx) (e : Option Expr) (t : TO) : Prop :=
  ∀ (pins : List (Addr × Obj)) (s : Shared) (σ : St) (H : Hp) (Q : Option Int → Hp → Prop), Inv X pins σ H s → t σ H Q →
    wpAny (model X.prog X.w) X.A (evalPart e X.env) (fun u s' => ∃ o H', Inv X pins σ H' s' ∧ IsPart u o ∧ Q o H') X.xe s
noncomputable def tNoPart : TO := fun _ H Q => Q none H
noncomputable def tPart (t : TE) : TO := fun σ H Q => t σ H fun x H1 => ∃ i, x = .int i ∧ Q (some i) H1

section
variable {X : Cx} {e : Expr} {te : TE} {lo hi : Option Expr} {tl th : TO} {pos p2 : Pos}

theorem po_none : PO X none tNoPart := by
  intro pins s σ H Q I h
  rw [evalPart_none]
  exact wpAny_pure ⟨none, H, I, .none, h⟩
theorem po_some (h : PE X e te) : PO X (some e) (tPart te) := by
  intro pins s σ H Q I hw
  rw [evalPart_some]
  refine thn (h pins s σ H _ I hw) fun u s1 ⟨x, H1, I1, r1, q1⟩ => ?_
  obtain ⟨i, rfl, q⟩ := q1
  obtain ⟨t, rfl⟩ := r1
  exact ⟨some i, H1, I1, .int i t, q⟩

/-- what a slice of a value is, by values: the slice object stands at sl -/
noncomputable def SlR (X : Cx) (r : V → Option Int → Option Int → Hp → VK → Prop) : Prop :=
  ∀ (pins : List (Addr × Obj)) (s : Shared) (σ : St) (H : Hp) (x : V) (v vl vu : Value) (lo hi : Option Int) (sl : Addr) (Q : VK), Inv X pins σ H s → RelV x v → s.heap.IsSliceOf sl vl vu .none → IsPart vl lo → IsPart vu hi → r x lo hi H Q →
    ∃ T id, typeLookup (.type T) "__getitem__" = pure (some (.builtin id)) ∧ s.TypeIs v T ∧ wpAny (model X.prog X.w) X.A (getItem v (.ref sl)) (EP X pins σ Q) X.xe s
noncomputable def tSl (r : V → Option Int → Option Int → Hp → VK → Prop) (te : TE) (tl th : TO) : TE := fun σ H Q => te σ H fun x H1 => tl σ H1 fun l H2 => th σ H2 fun u H3 => r x l u H3 Q
/-- a[lo:hi], any a -/
theorem pe_slice {r : V → Option Int → Option Int → Hp → VK → Prop} (hr : SlR X r) (he : PE X e te) (hl : PO X lo tl) (hu : PO X hi th) : PE X (.Subscript e (.Slice lo hi none p2) pos) (tSl r te tl th) := by
  intro pins s σ H Q I h
  refine Subscript_ (thn (he pins s σ H _ I h) fun v s1 ⟨x, H1, I1, r1, q1⟩ => ?_)
  refine wpAny_Slice (thn (hl pins s1 σ H1 _ I1 q1) fun vl s2 ⟨l, H2, I2, pl, q2⟩ => thn (hu pins s2 σ H2 _ I2 q2) fun vu s3 ⟨u, H3, I3, pu, q3⟩ => ?_)
  rw [evalPart_none]
  refine wpAny_pure ?_
  have I4 : Inv X pins σ H3 { s3 with heap := s3.heap.push { cls := .type "slice", data := .fields #[vl, vu, .none] } } := I3.kept (t' := s3.toks) fun b ob q => Heap.get?_push_of_some _ q
  obtain ⟨T, id, hT, ht, hg⟩ := hr pins { s3 with heap := s3.heap.push { cls := .type "slice", data := .fields #[vl, vu, .none] } } σ H3 x v vl vu l u s3.heap.objs.size Q I4 r1 (Heap.IsSliceOf.new ..) pl pu q3
  show wpAny (model X.prog X.w) X.A (subscriptTail e (.Slice lo hi none p2) v (.ref s3.heap.objs.size)) (EP X pins σ Q) X.xe { s3 with heap := s3.heap.push { cls := .type "slice", data := .fields #[vl, vu, .none] } }
  exact tail_any (ops := [.ref s3.heap.objs.size, v]) ht hT hg (by with_unfolding_all rfl)

/-- the items of xs[lo:hi] -/
noncomputable def cutV (xs : List V) (lo hi : Option Int) : List V := (xs.drop (HT.sIx xs.length 0 lo)).take (HT.sIx xs.length xs.length hi - HT.sIx xs.length 0 lo)
theorem cutV_length (xs : List V) (lo hi : Option Int) : (cutV xs lo hi).length ≤ xs.length := by
  unfold cutV
  rw [List.length_take, List.length_drop]
  omega
/-- t[lo:hi], not the whole of it (the whole would be t itself) -/
noncomputable def rSlT (K : PySem.W.Frag) : V → Option Int → Option Int → Hp → VK → Prop := fun x lo hi H Q => ∃ a xs, x = .ref a ∧ SqT K H a xs ∧
  ¬ (HT.sIx xs.length 0 lo = 0 ∧ HT.sIx xs.length xs.length hi = xs.length) ∧ ∀ p, H p = none → Q (.ref p) (upd H p (.tup (cutV xs lo hi)))
theorem sl_tup : SlR X (rSlT X.K) := by
  intro pins s σ H x v vl vu lo hi sl Q I rx hs pl pu h
  obtain ⟨a, xs, rfl, hx, hw, q⟩ := h
  cases rx
  obtain ⟨its, r, ht, hz⟩ := I.tuple hx
  have hlen : its.toArray.size = xs.length := by rw [List.size_toArray]; exact r.length.symm
  refine ⟨"tuple", _, PyProof.Rows.slot_tuple_getitem.lookup, ht.typeIs, ?_⟩
  refine HT.getItem_tuple_cut ht hs pl pu (by rw [hlen]; exact hw) ?_ (by rw [hlen]; exact hz)
  rw [hlen]
  refine ⟨.ref s.heap.objs.size, _, I.laid (t' := s.toks) (o := .tup (cutV xs lo hi)) (fun b ob q => Heap.get?_push_of_some _ q) (Nat.le_refl _) ?_, rfl, q _ (I.hok.fresh (Nat.le_refl _))⟩
  exact ⟨Nat.le_trans (cutV_length xs lo hi) hz, _, (r.drop (HT.sIx xs.length 0 lo)).take (HT.sIx xs.length xs.length hi - HT.sIx xs.length 0 lo), IsTup.new _ _⟩

/-! ### t < u, t + u -/
/-- t + u, t not empty: u empty gives t itself -/
noncomputable def rCatT (K : PySem.W.Frag) : R2 := fun x y H Q => ∃ a b xs ys, x = .ref a ∧ y = .ref b ∧ SqT K H a xs ∧ SqT K H b ys ∧ xs ≠ [] ∧ xs.length + ys.length ≤ sizeLine ∧
  (ys = [] → Q (.ref a) H) ∧ (ys ≠ [] → ∀ p, H p = none → Q (.ref p) (upd H p (.tup (xs ++ ys))))
theorem Vals.nil_iff {xs : List V} {us : List Value} (r : Vals xs us) : us = [] ↔ xs = [] := by
  cases r with
  | nil => simp
  | cons _ _ => simp
theorem op_catT : OpR X (binaryOp .Add) (rCatT X.K) := by
  intro pins s σ H x y v u Q I rx ry h
  obtain ⟨a, b, xs, ys, rfl, rfl, ha, hb, hx, hz, q1, q2⟩ := h
  cases rx
  cases ry
  obtain ⟨its, r1, p1, _⟩ := I.tuple ha
  obtain ⟨its2, r2, p2, _⟩ := I.tuple hb
  refine HT.cat_tup p1 p2 (fun z => hx (r1.nil_iff.mp z)) (fun z => ⟨.ref a, H, I, rfl, q1 (r2.nil_iff.mp z)⟩) (fun z => ?_) (by rw [← r1.length, ← r2.length]; exact hz)
  refine ⟨.ref s.heap.objs.size, _, I.laid (t' := s.toks) (o := .tup (xs ++ ys)) (fun b ob q => Heap.get?_push_of_some _ q) (Nat.le_refl _) ?_, rfl, q2 (fun w => z (r2.nil_iff.mpr w)) _ (I.hok.fresh (Nat.le_refl _))⟩
  exact ⟨by rw [List.length_append]; exact hz, _, r1.append r2, IsTup.new _ _⟩
end
end L2

namespace L2
open PySem PySem.Spec PyProof.Rows

/-! ### places -/
/-- the place that an index of any sign means -/
noncomputable def ixN (n : Nat) (i : Int) : Option Nat := if 0 ≤ i then (if i < n then some i.toNat else none) else if -(n : Int) ≤ i then some (i + n).toNat else none
noncomputable def atI {α : Type} (xs : List α) (i : Int) : Option α := (ixN xs.length i).bind fun j => xs[j]?
theorem ixN_seq {n : Nat} {i : Int} {j : Nat} (h : ixN n i = some j) : seqIndex? i n = some j ∧ j < n ∧ -(n : Int) ≤ i ∧ i < n := by
  unfold ixN at h
  by_cases h0 : 0 ≤ i
  · rw [if_pos h0] at h
    by_cases h1 : i < n
    · rw [if_pos h1] at h
      have e : i.toNat = j := Option.some.inj h
      exact ⟨by rw [seqIndex_of h0 h1, e], by omega, by omega, h1⟩
    · rw [if_neg h1] at h; cases h
  · rw [if_neg h0] at h
    by_cases h1 : -(n : Int) ≤ i
    · rw [if_pos h1] at h
      have e : (i + n).toNat = j := Option.some.inj h
      exact ⟨by rw [seqIndex_neg (by omega) h1, e], by omega, h1, by omega⟩
    · rw [if_neg h1] at h; cases h
theorem atI_get {α : Type} {xs : List α} {i : Int} {v : α} (h : atI xs i = some v) : ∃ j, seqIndex? i xs.length = some j ∧ xs[j]? = some v ∧ j < xs.length ∧ -(xs.length : Int) ≤ i ∧ i < xs.length := by
  unfold atI at h
  cases e : ixN xs.length i with
  | none => rw [e] at h; cases h
  | some j =>
    rw [e] at h
    obtain ⟨h1, h2, h3, h4⟩ := ixN_seq e
    exact ⟨j, h1, h, h2, h3, h4⟩
theorem atI_nat {α : Type} {xs : List α} {j : Nat} {v : α} (h : xs[j]? = some v) : atI xs (j : Int) = some v := by
  have hj : j < xs.length := (List.getElem?_eq_some_iff.mp h).1
  have e : ixN xs.length (j : Int) = some j := by
    unfold ixN
    rw [if_pos (by omega), if_pos (by omega)]; simp
  unfold atI; rw [e]; exact h
theorem atI_last {α : Type} (xs : List α) (v : α) : atI (xs ++ [v]) (-1) = some v := by
  have hl : (xs ++ [v]).length = xs.length + 1 := by simp
  have e : ixN (xs ++ [v]).length (-1) = some xs.length := by
    unfold ixN
    rw [hl, if_neg (by decide), if_pos (by omega)]
    congr 1
    omega
  unfold atI
  rw [e]
  show (xs ++ [v])[xs.length]? = some v
  simp

/-! ### what may be subscripted -/
/-- what stands as an index of a plain subscript -/
noncomputable def PlainIx (b : Expr) : Prop := ∀ o i, subscripted b false o i = operate [o, i] (getItem o i)
/-- a subscript by values -/
noncomputable def IxR (X : Cx) (r : R2) : Prop :=
  ∀ (value slice : Expr) (pins : List (Addr × Obj)) (s : Shared) (σ : St) (H : Hp) (x y : V) (v u : Value) (Q : VK), Inv X pins σ H s → RelV x v → RelV y u → r x y H Q →
    subscripted slice false v u = operate [v, u] (getItem v u) → wpAny (model X.prog X.w) X.A (subscriptTail value slice v u) (EP X pins σ Q) X.xe s
/-- a call of a builtin's method by values: the receiver, the arguments -/
noncomputable def MtR (X : Cx) (id : String) (r : V → List V → Hp → VK → Prop) : Prop :=
  ∀ (pins : List (Addr × Obj)) (s : Shared) (σ : St) (H : Hp) (x : V) (xs : List V) (v : Value) (us : List Value) (Q : VK), Inv X pins σ H s → RelV x v → Vals xs us → r x xs H Q →
    wpAny (model X.prog X.w) X.A (call (.builtin id) (v :: us)) (EP X pins σ Q) X.xe s
section
variable {X : Cx} {a b : Expr} {ta tb : TE} {pos : Pos}
/-- a[b] -/
theorem pe_ix {r : R2} (hr : IxR X r) (ha : PE X a ta) (hb : PE X b tb) (hs : PlainIx b) : PE X (.Subscript a b pos) (tOp r ta tb) := by
  intro pins s σ H Q I h
  exact Subscript_ (binT ha hb I h fun v u s2 x y H2 I2 rx ry q => hr a b pins s2 σ H2 x y v u Q I2 rx ry q (hs _ _))

noncomputable def rIxL (K : PySem.W.Frag) : R2 := fun x y H Q => ∃ p xs i v, x = .ref p ∧ y = .int i ∧ SqL K H p xs ∧ atI xs i = some v ∧ Q v H
noncomputable def rIxT (K : PySem.W.Frag) : R2 := fun x y H Q => ∃ p xs i v, x = .ref p ∧ y = .int i ∧ SqT K H p xs ∧ atI xs i = some v ∧ Q v H
noncomputable def rIxS : R2 := fun x y H Q => ∃ z i c, x = .str z ∧ y = .int i ∧ z.length ≤ sizeLine ∧ atI z.cps.toList i = some c ∧ Q (.str ⟨#[c]⟩) H
theorem ix_list : IxR X (rIxL X.K) := by
  intro value slice pins s σ H x y v u Q I rx ry h hs
  obtain ⟨p, xs, i, z, rfl, rfl, hq, he, q⟩ := h
  cases rx
  obtain ⟨t, rfl⟩ := ry
  obtain ⟨its, r, pl, hz⟩ := I.list hq
  obtain ⟨j, h1, h2, h3, h4, h5⟩ := atI_get he
  obtain ⟨w, ew, rw'⟩ := r.get h2
  have hl := r.length
  have hn := line63
  have fin : EP X pins σ Q w s := ⟨z, H, I, rw', q⟩
  by_cases h0 : 0 ≤ i
  · have hj : i.toNat = j := by
      rw [seqIndex_of h0 h5] at h1
      exact Option.some.inj h1
    exact item_listR pl.isList h0 (by omega) (by rw [hj]; simpa using ew) fin hs
  · have hj : (i + (its.toArray.size : Int)).toNat = j := by
      rw [seqIndex_neg (by omega) h4] at h1
      rw [List.size_toArray, ← hl]
      exact Option.some.inj h1
    exact subscriptTail_builtinR (x := w) pl.isList.typeIs slot_list_getitem.lookup
      (wpAny_getItem_list_neg (Q := fun r s' => r = w ∧ EP X pins σ Q r s') pl.isList (by omega) (by rw [List.size_toArray] <;> omega) (by omega) (by rw [hj]; simpa using ew) ⟨rfl, fin⟩) hs
theorem ix_tup : IxR X (rIxT X.K) := by
  intro value slice pins s σ H x y v u Q I rx ry h hs
  obtain ⟨p, xs, i, z, rfl, rfl, hq, he, q⟩ := h
  cases rx
  obtain ⟨t, rfl⟩ := ry
  obtain ⟨its, r, pl, hz⟩ := I.tuple hq
  obtain ⟨j, h1, h2, h3, h4, h5⟩ := atI_get he
  obtain ⟨w, ew, rw'⟩ := r.get h2
  have hl := r.length
  have hn := line63
  have fin : EP X pins σ Q w s := ⟨z, H, I, rw', q⟩
  exact subscriptTail_builtinR (x := w) pl.typeIs slot_tuple_getitem.lookup
    (getItem_tuple (j := j) (Q := fun r s' => r = w ∧ EP X pins σ Q r s') pl (by omega) (by omega) (by rw [List.size_toArray, ← hl]; exact h1) (by simpa using ew) ⟨rfl, fin⟩) hs
theorem ix_str : IxR X rIxS := by
  intro value slice pins s σ H x y v u Q I rx ry h hs
  obtain ⟨z, i, c, rfl, rfl, hz, he, q⟩ := h
  obtain ⟨t, rfl⟩ := rx
  obtain ⟨t', rfl⟩ := ry
  obtain ⟨j, h1, h2, h3, h4, h5⟩ := atI_get he
  have hl : z.cps.toList.length = z.length := by simp [Str.length]
  rw [hl] at h1 h4 h5
  have hn := line63
  exact tail_any (typeIs_str s z t) slot_str_getitem.lookup (getItem_str (c := c) (by
    have e1 : decide (i < -(2 ^ 63 : Int)) = false := decide_eq_false (by omega)
    have e2 : decide (i ≥ 2 ^ 63) = false := decide_eq_false (by omega)
    rw [e1, e2, Bool.or_false]) (by rw [h1]; simpa using h2) ⟨.str ⟨#[c]⟩, H, I.tok _, ⟨_, rfl⟩, q⟩) hs
/-! ### xs[i] = v, any sign -/
/-- the list's object behind a store -/
theorem mapSeq_set (its : List Value) (n j : Nat) (u : Value) : Obj.mapSeq (·.setIfInBounds j u) { cls := .type "list", data := .seq its.toArray n } = { cls := .type "list", data := .seq (its.set j u).toArray n } := by
  simp [Obj.mapSeq]
theorem Inv.lst {pins : List (Addr × Obj)} {σ : St} {H : Hp} {s : Shared} {p : Addr} {xs : List V} (I : Inv X pins σ H s) (h : H p = some (.lst xs)) :
    ∃ (its : List Value) (n : Nat), Vals xs its ∧ s.heap.get? p = some { cls := .type "list", data := .seq its.toArray n } ∧ xs.length ≤ sizeLine := by
  obtain ⟨z, its, n, r, e⟩ := I.hok p _ h
  exact ⟨its, n, r, e, z⟩
/-- the list at p is written by an update of its object -/
theorem Inv.lstUpd {pins : List (Addr × Obj)} {σ : St} {H : Hp} {s : Shared} {p : Addr} {xs ys : List V} {its its' : List Value} {n n' : Nat} {f : Obj → Obj} (I : Inv X pins σ H s) (h : H p = some (.lst xs))
    (ho : s.heap.get? p = some { cls := .type "list", data := .seq its.toArray n }) (hf : f { cls := .type "list", data := .seq its.toArray n } = { cls := .type "list", data := .seq its'.toArray n' }) (r : Vals ys its') (hz : ys.length ≤ sizeLine) (t : Nat) :
    Inv X pins σ (upd H p (.lst ys)) { s with heap := s.heap.update p f, toks := t } := by
  have e : (s.heap.update p f).get? p = some { cls := .type "list", data := .seq its'.toArray n' } := by
    rw [Heap.get?_update_self f ho (by rw [hf] <;> rfl), hf]
  refine I.write (x := p) (e := p) (by rw [h]; trivial) (.inl rfl) (fun b u hb q => (Heap.get?_update_other _ _ (Ne.symm hb)).trans q) ⟨_, e⟩ ?_
  exact ⟨hz, its', n', r, e⟩
noncomputable def rSetL : V → V → V → Hp → (Hp → Prop) → Prop := fun o i v H Q => ∃ p xs k j, o = .ref p ∧ i = .int k ∧ H p = some (.lst xs) ∧ ixN xs.length k = some j ∧ Q (upd H p (.lst (xs.set j v)))
theorem set_list : PSet X rSetL := by
  intro pins s σ H o i v ov iv u Q I ro ri rv h
  obtain ⟨p, xs, k, j, rfl, rfl, hp, hj, q⟩ := h
  cases ro
  obtain ⟨t, rfl⟩ := ri
  obtain ⟨its, n, r, ho, hz⟩ := I.lst hp
  obtain ⟨h1, h2, h3, h4⟩ := ixN_seq hj
  have hl := r.length
  have hn := line63
  have I' : Inv X pins σ (upd H p (.lst (xs.set j v))) { s with heap := s.heap.update p (Obj.mapSeq (·.setIfInBounds j u)) } :=
    I.lstUpd hp ho (mapSeq_set its n j u) (r.set rv j) (by rw [List.length_set]; exact hz) s.toks
  by_cases h0 : 0 ≤ k
  · have hk : k.toNat = j := by
      rw [seqIndex_of h0 h4] at h1
      exact Option.some.inj h1
    exact PySem.W.ki_setAt ho h0 (by omega) (by rw [List.size_toArray, ← hl]; exact h4) (by rw [hk]; exact ⟨_, I', q⟩)
  · have hk : (k + (its.toArray.size : Int)).toNat = j := by
      rw [seqIndex_neg (by omega) h3] at h1
      rw [List.size_toArray, ← hl]
      exact Option.some.inj h1
    exact PySem.W.ki_setBack ho (by omega) (by rw [List.size_toArray, ← hl]; exact h3) (by omega) (by rw [hk]; exact ⟨_, I', q⟩)

/-! ### slices -/
theorem slice_bounds (lo hi : Option Int) (n : Nat) : (sliceBounds lo hi none n).1 = ((HT.sIx n 0 lo : Nat) : Int) ∧ (sliceBounds lo hi none n).2.1 = ((HT.sIx n n hi : Nat) : Int) ∧ (sliceBounds lo hi none n).2.2 = 1 := by
  refine ⟨?_, ?_, rfl⟩
  · cases lo with
    | none => simp [sliceBounds, HT.sIx]
    | some i =>
      simp only [sliceBounds, HT.sIx, Option.getD_none, show (1 : Int) > 0 by decide, if_true]
      by_cases h : i < 0
      · simp only [h, if_true] <;> omega
      · simp only [h, if_false] <;> omega
  · cases hi with
    | none => simp [sliceBounds, HT.sIx]
    | some i =>
      simp only [sliceBounds, HT.sIx, Option.getD_none, show (1 : Int) > 0 by decide, if_true]
      by_cases h : i < 0
      · simp only [h, if_true] <;> omega
      · simp only [h, if_false] <;> omega
theorem slicePick_cut (its : List Value) (lo hi : Option Int) : slicePick its.toArray lo hi none = ((its.drop (HT.sIx its.length 0 lo)).take (HT.sIx its.length its.length hi - HT.sIx its.length 0 lo)).toArray := by
  obtain ⟨h1, h2, h3⟩ := slice_bounds lo hi its.toArray.size
  unfold slicePick
  rw [h1, h2, h3]
  simp only [sliceRange_one, pick_run, List.size_toArray] <;> rfl
/-- xs[lo:hi] of a list: a new list -/
noncomputable def rSlL (K : PySem.W.Frag) : V → Option Int → Option Int → Hp → VK → Prop := fun x lo hi H Q => ∃ a xs, x = .ref a ∧ SqL K H a xs ∧ ∀ p, H p = none → Q (.ref p) (upd H p (.lst (cutV xs lo hi)))
theorem sl_list : SlR X (rSlL X.K) := by
  intro pins s σ H x v vl vu lo hi sl Q I rx hs pl pu h
  obtain ⟨a, xs, rfl, hx, q⟩ := h
  cases rx
  obtain ⟨its, r, ht, hz⟩ := I.list hx
  have hlen := r.length
  refine ⟨"list", _, slot_list_getitem.lookup, ht.isList.typeIs, ?_⟩
  refine wpAny_getItem_list_slice ht.isList hs pl pu .none (by simp) ?_ (by rw [List.size_toArray] <;> omega)
  rw [slicePick_cut, ← hlen]
  refine ⟨.ref s.heap.objs.size, _, I.laid (t' := s.toks) (o := .lst (cutV xs lo hi)) (fun b ob q => Heap.get?_push_of_some _ q) (Nat.le_refl _) ?_, rfl, q _ (I.hok.fresh (Nat.le_refl _))⟩
  exact ⟨Nat.le_trans (cutV_length xs lo hi) hz, _, 0, (r.drop (HT.sIx xs.length 0 lo)).take (HT.sIx xs.length xs.length hi - HT.sIx xs.length 0 lo), Heap.get?_push_size _ rfl⟩

/-! ### in, not in: flat items -/
noncomputable def flatV : V → Bool
  | .non => true
  | .bl _ => true
  | .int _ => true
  | .str _ => true
  | _ => false
/-- == of flat values -/
noncomputable def eqV : V → V → Bool
  | .non, .non => true
  | .bl a, .bl b => a == b
  | .bl a, .int b => (if a then 1 else 0) == b
  | .int a, .bl b => a == (if b then 1 else 0)
  | .int a, .int b => a == b
  | .str a, .str b => a == b
  | _, _ => false
theorem eqAt_V {A : Around} {s : Shared} {y x : V} {u v : Value} (ry : RelV y u) (rx : RelV x v) (fy : flatV y = true) (fx : flatV x = true) : SeqAt.EqAt A s u v (eqV y x) := by
  cases y with
  | non =>
    cases ry
    cases x with
    | non => cases rx; exact SeqAt.EqAt.same _
    | bl b => cases rx; exact SeqAt.EqAt.none_bool b
    | int b => obtain ⟨t, rfl⟩ := rx; exact SeqAt.EqAt.none_int b t
    | str b => obtain ⟨t, rfl⟩ := rx; exact SeqAt.EqAt.none_str b t
    | _ => exact absurd (show false = true from fx) Bool.false_ne_true
  | bl a =>
    cases ry
    cases x with
    | non => cases rx; exact SeqAt.EqAt.bool_none a
    | bl b => cases rx; exact SeqAt.EqAt.bool_bool a b
    | int b => obtain ⟨t, rfl⟩ := rx; exact SeqAt.EqAt.bool_int a b t
    | str b => obtain ⟨t, rfl⟩ := rx; exact SeqAt.EqAt.bool_str a b t
    | _ => exact absurd (show false = true from fx) Bool.false_ne_true
  | int a =>
    obtain ⟨t', rfl⟩ := ry
    cases x with
    | non => cases rx; exact SeqAt.EqAt.int_none a t'
    | bl b => cases rx; exact SeqAt.EqAt.int_bool a t' b
    | int b => obtain ⟨t, rfl⟩ := rx; exact SeqAt.EqAt.int_int a t' b t
    | str b => obtain ⟨t, rfl⟩ := rx; exact SeqAt.EqAt.int_str a t' b t
    | _ => exact absurd (show false = true from fx) Bool.false_ne_true
  | str a =>
    obtain ⟨t', rfl⟩ := ry
    cases x with
    | non => cases rx; exact SeqAt.EqAt.str_none a t'
    | bl b => cases rx; exact SeqAt.EqAt.str_bool a t' b
    | int b => obtain ⟨t, rfl⟩ := rx; exact SeqAt.EqAt.str_int a t' b t
    | str b => obtain ⟨t, rfl⟩ := rx; exact SeqAt.EqAt.str_str a t' b t
    | _ => exact absurd (show false = true from fx) Bool.false_ne_true
  | _ => exact absurd (show false = true from fy) Bool.false_ne_true
/-- the items' answers, read off the values (a value's own answer does not lean on its token) -/
noncomputable def eqU (x : V) (u : Value) : Bool := match u with
  | .none => eqV .non x
  | .bool b => eqV (.bl b) x
  | .int i _ => eqV (.int i) x
  | .str z _ => eqV (.str z) x
  | _ => false
theorem eqU_of {x y : V} {u : Value} (r : RelV y u) (f : flatV y = true) : eqU x u = eqV y x := by
  cases y with
  | non => cases r; rfl
  | bl b => cases r; rfl
  | int i => obtain ⟨t, rfl⟩ := r; rfl
  | str z => obtain ⟨t, rfl⟩ := r; rfl
  | _ => exact absurd (show false = true from f) Bool.false_ne_true
theorem any_eqU {x : V} : ∀ {xs : List V} {us : List Value}, Vals xs us → xs.all flatV = true → us.any (eqU x) = xs.any fun y => eqV y x
  | _, _, .nil, _ => rfl
  | y :: xs, u :: us, .cons r t, f => by
    rw [List.all_cons, Bool.and_eq_true] at f
    rw [List.any_cons, List.any_cons, eqU_of r f.1, any_eqU t f.2]
theorem mem_eqAt {A : Around} {s : Shared} {x : V} {v : Value} (rx : RelV x v) (fx : flatV x = true) : ∀ {xs : List V} {us : List Value}, Vals xs us → xs.all flatV = true → ∀ u ∈ us, SeqAt.EqAt A s u v (eqU x u)
  | _, _, .nil, _ => fun u hu => by cases hu
  | y :: xs, u :: us, .cons r t, f => fun u' hu => by
    rw [List.all_cons, Bool.and_eq_true] at f
    rcases List.mem_cons.mp hu with rfl | hu
    · rw [eqU_of r f.1]; exact eqAt_V r rx f.1 fx
    · exact mem_eqAt rx fx t f.2 u' hu
noncomputable def inV (x : V) (xs : List V) : Bool := xs.any fun y => eqV y x
/-- x in a list or tuple of flat items -/
noncomputable def rIn (K : PySem.W.Frag) (neg : Bool) : R2 := fun x y H Q => ∃ p xs, y = .ref p ∧ (SqL K H p xs ∨ SqT K H p xs) ∧ flatV x = true ∧ xs.all flatV = true ∧ Q (.bl (if neg then !inV x xs else inV x xs)) H
theorem op_notIn_seq : OpR X (compareOp .NotIn) (rIn X.K true) := by
  intro pins s σ H x y v u Q I rx ry h
  obtain ⟨p, xs, rfl, hq, fx, fs, q⟩ := h
  cases ry
  rcases hq with hq | hq
  · obtain ⟨its, r, pl, hz⟩ := I.list hq
    refine SeqAt.notIn_listAt (eqU x) pl.isList (fun w hw => mem_eqAt rx fx r fs w (by simpa using hw)) ⟨.bl _, H, I, rfl, ?_⟩
    rw [show its.toArray.any (eqU x) = its.any (eqU x) by simp, any_eqU r fs]
    exact q
  · obtain ⟨its, r, pl, hz⟩ := I.tuple hq
    refine SeqAt.notIn_tupleAt (eqU x) pl (fun w hw => mem_eqAt rx fx r fs w (by simpa using hw)) ⟨.bl _, H, I, rfl, ?_⟩
    rw [show its.toArray.any (eqU x) = its.any (eqU x) by simp, any_eqU r fs]
    exact q
/-! ### len, list(x), tuple(x) of any list or tuple that is read -/
theorem call_len_seq : CallR X (.builtin "len") (fun xs H Q => ∃ p ys, xs = [.ref p] ∧ (SqL X.K H p ys ∨ SqT X.K H p ys) ∧ Q (.int ys.length) H) := by
  intro pins s σ H xs us Q I r h
  obtain ⟨p, ys, rfl, hq, q⟩ := h
  obtain ⟨u, rfl, rx⟩ := vals1 r
  cases rx
  have hn := line63
  rcases hq with hq | hq
  · obtain ⟨its, r', pl, hz⟩ := I.list hq
    have hlen := r'.length
    exact Calls.call_len_list pl.isList (by simp only [List.size_toArray] <;> omega) ⟨.int ys.length, H, I.tok _, ⟨s.toks + 1, by rw [List.size_toArray, hlen]⟩, q⟩
  · obtain ⟨its, r', pl, hz⟩ := I.tuple hq
    have hlen := r'.length
    exact len_tuple pl (by simp only [List.size_toArray] <;> omega) ⟨.int ys.length, H, I.tok _, ⟨s.toks + 1, by rw [List.size_toArray, hlen]⟩, q⟩
theorem call_len_str : CallR X (.builtin "len") (fun xs H Q => ∃ z, xs = [.str z] ∧ z.length ≤ sizeLine ∧ Q (.int z.length) H) := by
  intro pins s σ H xs us Q I r h
  obtain ⟨z, rfl, hz, q⟩ := h
  obtain ⟨u, rfl, t, rfl⟩ := vals1 r
  have hn := line63
  exact len_str (by omega) ⟨.int z.length, H, I.tok _, ⟨_, rfl⟩, q⟩
theorem call_tuple_of : CallR X (.type "tuple") (fun xs H Q => ∃ p ys, xs = [.ref p] ∧ ((SqL X.K H p ys ∧ ∀ l, H l = none → Q (.ref l) (upd H l (.tup ys))) ∨ (SqT X.K H p ys ∧ Q (.ref p) H))) := by
  intro pins s σ H xs us Q I r h
  obtain ⟨p, ys, rfl, h⟩ := h
  obtain ⟨u, rfl, rx⟩ := vals1 r
  cases rx
  rcases h with ⟨hq, q⟩ | ⟨hq, q⟩
  · obtain ⟨its, r', pl, hz⟩ := I.list hq
    have hlen := r'.length
    refine call_tuple_list pl.isList (fun h' kp => ?_) (by simp only [List.size_toArray] <;> omega)
    have I1 : Inv X pins σ H { s with heap := h' } := I.kept (t' := s.toks) kp
    have I2 : Inv X pins σ (upd H h'.objs.size (.tup ys)) { s with heap := h'.push { cls := .type "tuple", data := .seq its.toArray } } :=
      I1.laid (t' := s.toks) (fun b o e => Heap.get?_push_of_some _ e) (Nat.le_refl _) (show ObjOk X.prog X.w _ _ _ (.tup ys) from ⟨hz, its, r', IsTup.new _ _⟩)
    exact ⟨.ref h'.objs.size, _, I2, rfl, q _ (I1.hok.fresh (Nat.le_refl _))⟩
  · obtain ⟨its, r', pl, hz⟩ := I.tuple hq
    exact call_tuple_same pl ⟨.ref p, H, I, rfl, q⟩

/-! ### the call of a builtin's method: o.m(..) -/
/-- the value is of that builtin type -/
noncomputable def tyV (K : PySem.W.Frag) (T : String) (x : V) (H : Hp) : Prop := match x with
  | .str _ => T = "str"
  | .int _ => T = "int"
  | .ref p => (T = "list" ∧ ∃ xs, SqL K H p xs) ∨ (T = "tuple" ∧ ∃ o, K.lookup p = some o ∧ o.cls = .type "tuple" ∧ o.dict = none) ∨
      (T = "dict" ∧ ((∃ kvs, H p = some (.dK kvs)) ∨ ∃ kvs, H p = some (.dT kvs))) ∨ (T = "set" ∧ ∃ S n, H p = some (.set S n))
  | _ => False
theorem tyV_is {pins : List (Addr × Obj)} {σ : St} {H : Hp} {s : Shared} {T : String} {x : V} {v : Value} (I : Inv X pins σ H s) (r : RelV x v) (ty : tyV X.K T x H) :
    s.TypeIs v T ∧ ∀ a, v = .ref a → ∃ ob, s.heap.get? a = some ob ∧ ob.dict = none := by
  cases x with
  | str z =>
    obtain ⟨t, rfl⟩ := r
    cases (show T = "str" from ty)
    exact ⟨typeIs_str s z t, fun _ e => nomatch e⟩
  | int i =>
    obtain ⟨t, rfl⟩ := r
    cases (show T = "int" from ty)
    exact ⟨typeIs_int s i t, fun _ e => nomatch e⟩
  | ref p =>
    cases r
    rcases ty with ⟨rfl, xs, hq⟩ | ⟨rfl, o, hk, hc, hd⟩ | ⟨rfl, hk⟩ | ⟨rfl, S, n, hk⟩
    · obtain ⟨its, _, pl, _⟩ := I.list hq
      refine ⟨pl.isList.typeIs, fun a e => ?_⟩
      cases e
      obtain ⟨o, n, e, c, hd, _⟩ := pl
      exact ⟨o, e, hd⟩
    · refine ⟨⟨o, I.kIn p o hk, hc⟩, fun a e => ?_⟩
      cases e
      exact ⟨o, I.kIn _ o hk, hd⟩
    · have z : ∃ o, s.heap.get? p = some o ∧ o.ExactDict := by
        rcases hk with ⟨kvs, hk⟩ | ⟨kvs, hk⟩
        · obtain ⟨_, _, _, _, o, _, _, e, ex, _⟩ := I.hok p _ hk
          exact ⟨o, e, ex⟩
        · obtain ⟨_, _, _, _, o, _, _, e, ex, _⟩ := I.hok p _ hk
          exact ⟨o, e, ex⟩
      obtain ⟨o, e, ex⟩ := z
      refine ⟨⟨o, e, ex.1⟩, fun a e2 => ?_⟩
      cases e2
      exact ⟨o, e, ex.2.1⟩
    · obtain ⟨o, _, _, _, e, ex, _⟩ := I.hok p _ hk
      refine ⟨⟨o, e, ex.1⟩, fun a e2 => ?_⟩
      cases e2
      exact ⟨o, e, ex.2.1⟩
  | _ => exact False.elim ty
noncomputable def tBM0 (K : PySem.W.Frag) (T : String) (r : V → List V → Hp → VK → Prop) (to : TE) : TE := fun σ H Q => to σ H fun x H1 => tyV K T x H1 ∧ r x [] H1 Q
noncomputable def tBM (K : PySem.W.Frag) (T : String) (r : V → List V → Hp → VK → Prop) (to : TE) (t : TA) : TE := fun σ H Q => to σ H fun x H1 => tyV K T x H1 ∧ t σ H1 fun xs H2 => r x xs H2 Q
variable {o e : Expr} {es : List Expr} {to : TE} {t : TA} {name : Str} {apos cpos : Pos} {T id : String} {r : V → List V → Hp → VK → Prop}
theorem pe_bm0 (pa : PlainAttrs T) (slot : Slot T name id) (hty : typeOf (.builtin id) = pure (.type "method_descriptor")) (hm : MtR X id r) (ho : PE X o to)
    (hbase : attributeBase o name X.env (eval o X.env) = eval o X.env := by rfl) (hline : (apos.endLine == cpos.line) = true := by rfl) : PE X (.Call (.Attribute o name apos) [] [] cpos) (tBM0 X.K T r to) := by
  intro pins s σ H Q I h
  refine wpAny_Call_method0_late hbase hline (thn (ho pins s σ H _ I h) fun v s1 ⟨x, H1, I1, r1, ty, q1⟩ => ?_)
  obtain ⟨h1, h2⟩ := tyV_is I1 r1 ty
  exact ⟨T, id, pa, slot, hty, h1, h2, Calls.callWith_builtin rfl (PySem.evalArgs_none (hm pins s1 σ H1 x [] v [] Q I1 r1 .nil q1))⟩
theorem pe_bm (pa : PlainAttrs T) (slot : Slot T name id) (hty : typeOf (.builtin id) = pure (.type "method_descriptor")) (hm : MtR X id r) (ho : PE X o to) (ha : PA X (e :: es) t)
    (hbase : attributeBase o name X.env (eval o X.env) = eval o X.env := by rfl)
    (hfew : ((backTo cpos (starEach (e :: es) X.env)).all (fun x => !x.1) && (backToKw cpos (keywordEach [] X.env)).all (fun x => x.1.isSome)
      && decide ((e :: es).length + ([] : List Keyword).length + (if ([] : List Keyword).isEmpty then 0 else 1) < 30)) = true := by rfl)
    (hline : (apos.endLine == cpos.line) = true := by rfl) (hs : starEach (e :: es) X.env = (false, eval e X.env) :: starEach es X.env := by rfl) (hplain : (backTo cpos (starEach es X.env)).any (·.1) = false := by rfl) :
    PE X (.Call (.Attribute o name apos) (e :: es) [] cpos) (tBM X.K T r to t) := by
  intro pins s σ H Q I h
  refine wpAny_Call_method_late hbase hfew hline rfl (thn (ho pins s σ H _ I h) fun v s1 ⟨x, H1, I1, r1, ty, q1⟩ => ?_)
  obtain ⟨h1, h2⟩ := tyV_is I1 r1 ty
  refine ⟨T, id, pa, slot, hty, h1, h2, ?_⟩
  have hA := ha cpos pins s1 σ H1 _ I1 q1
  rw [hs] at hA ⊢
  refine Calls.callWith_builtin (by show (false || (backTo cpos (starEach es X.env)).any (·.1)) = false; rw [hplain] <;> rfl) (Calls.evalArgs_plain ?_)
  exact thn hA fun us s2 ⟨vs, H2, I2, r2, q2⟩ => hm pins s2 σ H2 x vs v us Q I2 r1 r2 q2
/- xs.append(e), list.index on a module's tuple .. are MtR facts of 06m -/
end
end L2

namespace L2
open PySem PySem.Spec PyProof.Rows

noncomputable def MtM (X : Cx) (id : String) (r : V → List V → Hp → VK → Prop) : Prop :=
  ∀ (pins : List (Addr × Obj)) (s : Shared) (σ : St) (H : Hp) (x : V) (xs : List V) (v : Value) (us : List Value) (Q : VK), Inv X pins σ H s → RelV x v → Vals xs us → r x xs H Q →
    wpAny (model X.prog X.w) X.A (call (.builtin id) (v :: us)) (EP X pins σ Q) X.xe s

/-! ### lists of values -/
theorem Vals.one : ∀ {x : V} {us : List Value}, Vals [x] us → ∃ u, us = [u] ∧ RelV x u
  | _, _, .cons r .nil => ⟨_, rfl, r⟩
theorem Vals.zero : ∀ {us : List Value}, Vals [] us → us = []
  | _, .nil => rfl
theorem Vals.dropLast {xs : List V} {us : List Value} (h : Vals xs us) : Vals xs.dropLast us.dropLast := by
  induction h with
  | nil => exact .nil
  | cons r t ih =>
    cases t with
    | nil => exact .nil
    | cons q t' => exact .cons r ih
theorem erase_last {α : Type} (l : List α) : l.eraseIdx (l.length - 1) = l.dropLast := by
  induction l with
  | nil => rfl
  | cons a r ih =>
    cases r with
    | nil => rfl
    | cons b r =>
      have e : (a :: b :: r).length - 1 = ((b :: r).length - 1) + 1 := by
        have h1 : (a :: b :: r).length = r.length + 2 := rfl
        have h2 : (b :: r).length = r.length + 1 := rfl
        omega
      rw [e, List.eraseIdx_cons_succ, ih]
      all_goals rfl
section
variable {X : Cx} {pins : List (Addr × Obj)} {σ : St} {H : Hp} {s : Shared} {l b : Addr} {xs ys zs : List V}

/-! ### the two steps: a tracked list is rewritten, a new list is laid -/
theorem Inv.lset {its its' : List Value} {n : Nat} {f : Array Value → Array Value} {t' : Nat} (I : Inv X pins σ H s) (hH : H l = some (.lst xs))
    (e : s.heap.get? l = some { cls := .type "list", data := .seq its.toArray n }) (hf : f its.toArray = its'.toArray) (hv : Vals ys its') (hz : ys.length ≤ sizeLine) :
    Inv X pins σ (upd H l (.lst ys)) { s with heap := s.heap.update l (Obj.mapSeq f), toks := t' } := by
  have q := PySem.IsL.update e f
  rw [hf] at q
  refine I.write (x := l) (e := l) (by rw [hH]; exact trivial) (.inl rfl) (fun b' u hb hu => (Heap.get?_update_other s.heap (Obj.mapSeq f) (Ne.symm hb)).trans hu) ⟨_, q⟩ ?_
  exact ⟨hz, its', _, hv, q⟩
theorem Inv.lnew {its : List Value} {t' : Nat} (I : Inv X pins σ H s) (hv : Vals ys its) (hz : ys.length ≤ sizeLine) :
    Inv X pins σ (upd H s.heap.objs.size (.lst ys)) { s with heap := s.heap.push { cls := .type "list", data := .seq its.toArray }, toks := t' } :=
  I.laid (fun _ _ q => Heap.get?_push_of_some _ q) (Nat.le_refl _) ⟨hz, its, 0, hv, Heap.get?_push_size _ rfl⟩
theorem Inv.fresh (I : Inv X pins σ H s) : H s.heap.objs.size = none := I.hok.fresh (Nat.le_refl _)
theorem Inv.lstM (I : Inv X pins σ H s) (hH : H l = some (.lst xs)) : xs.length ≤ sizeLine ∧ ∃ (its : List Value) (n : Nat), Vals xs its ∧ xs.length = its.length ∧ s.heap.get? l = some { cls := .type "list", data := .seq its.toArray n } := by
  obtain ⟨z, its, n, r, e⟩ := I.hok l _ hH
  exact ⟨z, its, n, r, r.length, e⟩

end

section
variable {X : Cx}

/-! ### methods -/
noncomputable def rAppend : V → List V → Hp → VK → Prop := fun x vs H Q => ∃ l xs y, x = .ref l ∧ vs = [y] ∧ H l = some (.lst xs) ∧ xs.length < sizeLine ∧ Q .non (upd H l (.lst (xs ++ [y])))
theorem mt_append : MtM X "list.append" rAppend := by
  intro pins s σ H x vs v us Q I rx rv h
  obtain ⟨l, xs, y, rfl, rfl, hH, hz, q⟩ := h
  cases rx
  obtain ⟨u, rfl, ru⟩ := rv.one
  obtain ⟨z, its, n, r, hl, e⟩ := I.lstM hH
  refine call_meets F.slot_list_append ⟨_, e, rfl⟩ F.entry_list_append (F.args_list_append_2 _ _) (PySem.list_append l its.toArray n u (by rw [List.size_toArray]; omega)) ⟨e, ?_⟩
  refine ⟨.non, _, I.lset (its' := its ++ [u]) hH e (by simp) (r.append (.cons ru .nil)) ?_, rfl, q⟩
  rw [List.length_append, List.length_singleton]
  omega

noncomputable def rPop : V → List V → Hp → VK → Prop := fun x vs H Q => ∃ l xs y, x = .ref l ∧ vs = [] ∧ H l = some (.lst xs) ∧ xs[xs.length - 1]? = some y ∧ Q y (upd H l (.lst xs.dropLast))
theorem mt_pop : MtM X "list.pop" rPop := by
  intro pins s σ H x vs v us Q I rx rv h
  obtain ⟨l, xs, y, rfl, rfl, hH, hy, q⟩ := h
  cases rx
  have hus := rv.zero
  subst hus
  obtain ⟨z, its, n, r, hl, e⟩ := I.lstM hH
  obtain ⟨u, hu, ru⟩ := r.get hy
  have hy' : its.toArray[its.toArray.size - 1]? = some u := by
    show its.toArray[its.length - 1]? = some u
    rw [← Array.getElem?_toList, ← hl]
    exact hu
  refine call_meets F.slot_list_pop ⟨_, e, rfl⟩ F.entry_list_pop (F.args_list_pop_1 _) (MeetsSeq.list_pop_last l its.toArray n u hy' (by rw [List.size_toArray]; omega)) ⟨e, ?_⟩
  refine ⟨y, _, I.lset (its' := its.dropLast) hH e ?_ r.dropLast ?_, ru, q⟩
  · show its.toArray.eraseIdxIfInBounds (its.toArray.size - 1) = its.dropLast.toArray
    rw [List.size_toArray, List.eraseIdxIfInBounds_toArray, erase_last]
  · rw [List.length_dropLast]
    omega

/-! ### list + list, list += list, list * int -/
/-! ### del xs[i] -/
end

/-! ### xs[a:b] = ys -/
section
variable {prog : Program} {w : World} {A : Around} {E : Value → Shared → Prop} {s : Shared}
end

section
variable {X : Cx}
end
end L2

namespace Att
open PySem PySem.W PySem.Calls PyProof.Rows

/-! ### the script -/
theorem ints_of_wellAll {P : Params} {h : Heap} : ∀ (ns : List Int) (vs : List Value), WellAll P h vs (ns.map WData.int) → IntsAre vs ns := by
  intro ns
  induction ns with
  | nil =>
    intro vs w
    rw [List.map_nil] at w
    cases w
    exact .nil
  | cons n ns ih =>
    intro vs w
    rw [List.map_cons] at w
    cases w with
    | cons a b =>
      cases a
      exact .cons _ _ (ih _ b)

theorem script_of {l : OpenLaw} {n : Nat} (hn : l.most = some n) {P : Params} {h : Heap} {args : List WData} {vals : List Value}
    (hpre : l.row.toRowW.claim.pre args = true) (hwl : WellAll P h vals args) :
    ∃ a vs ns, vals = [Value.ref a] ∧ args = [WData.list (ns.map WData.int)] ∧ h.get? a = some { cls := .type "list", data := .seq vs.toArray } ∧ IntsAre vs ns ∧ ns.length ≤ n := by
  have hsh : WShape.hasAll [] args [.list .int] = true := (pre_splitW hpre).1
  have hc : l.pre.holds [] { args := args } = true := (pre_splitW hpre).2
  obtain ⟨d, r, rfl, h1, h2⟩ := hasAllW_cons hsh
  obtain rfl := hasAllW_nil h2
  obtain ⟨xs, rfl, h3⟩ := hasW_list h1
  obtain ⟨ns, rfl⟩ := items_int h3
  have hlen : ns.length ≤ n := by
    unfold OpenLaw.pre at hc
    have h4 : (WTm.not (.lt (.lit (.int (n : Int))) (.len (.arg 0)))).holds [] { args := [.list (ns.map .int)] } = true := by
      have h4 := (holds_andW hc).1
      rw [hn] at h4
      exact h4
    have h5 := condW_of h4 (w_not (w_lt w_lit (w_len_list (w_arg rfl))))
    rw [List.length_map] at h5
    refine Nat.le_of_not_lt fun q => ?_
    have q' : (n : Int) < ((ns.length : Nat) : Int) := by omega
    first
      | (rw [decide_eq_true q'] at h5; exact absurd h5 (by decide))
      | (simp at h5; omega)
  cases hwl with
  | cons w1 w2 =>
    cases w2
    cases w1 with
    | list ho hall => exact ⟨_, _, ns, rfl, rfl, ho, ints_of_wellAll ns _ hall, hlen⟩

theorem post_true (l : OpenLaw) (args : List WData) : l.row.toRowW.claim.post args (.bool true) args = true :=
  postW_of (r := l.row.toRowW) (X := (true == true))
    (show WShape.has [] (.bool true) .bool = true by first | rfl | decide | simp [WShape.has, WShape.arms, WShape.armsAll])
    (show (WTm.eq .res (.lit (.bool true))).value [] { args := args, res := some (.bool true), after := args } = some (.bool (true == true)) from w_eq_bool (w_res rfl) w_lit) rfl

/-! ### the attachment: holds_open's last premise (the goal 'hc' behind k_head) from a wpAny of the law's body -/
/-- the same from a codeAny of the CALL (for a layer whose function contracts speak of calls) -/
theorem attach_call {l : OpenLaw} {n : Nat} {q : Program} {loose : List Str} {XP : (Str → Option Value) → Heap → Prop} {YP : World → Heap → Prop} {d : DefRec}
    (hn : l.most = some n) (hdf : d.params.defaults = [])
    (call : ∀ (w : World) (s₀ s₁ : Shared) (mg mb : Str → Option Value) (fa : Addr) (o : Obj) (pm cd doc : Value) (a : Addr) (vs : List Value) (ns : List Int),
      Ground q loose [] XP w s₀ mg mb s₁.heap → YP w s₁.heap →
      s₁.heap.get? fa = some o → o.data = .func (docDef d.name d.params d.body d.scope pm cd doc) → s₁.heap.CodeRec cd d.name → mg d.name = some (.ref fa) →
      s₁.heap.get? a = some { cls := .type "list", data := .seq vs.toArray } → IntsAre vs ns → ns.length ≤ n → s₁.gens = #[] →
      codeAny (model l.prog w) callerA (.call (.ref fa) ⟨[.ref a], []⟩) (fun r s' => r = .ok (.ret (.bool true)) ∧ OldK s₁.heap s'.heap ∧ s'.os = s₁.os ∧ AllBare s'.gens) s₁) :
    WalkO q loose XP YP l.row.toRowW d [] (fun f vs => PySem.call f vs) := by
  intro w s₀ s₁ mg mb G Y fa o pm cd doc dV kV ho hd hcd hD hmg hg args vals as hpre hlay hrd hwl hlo
  obtain rfl : dV = .none := Dflts.none hD hdf
  obtain rfl : kV = .none := Dflts.noKw hD
  obtain ⟨a, vs, ns, rfl, rfl, hobj, hints, hlen⟩ := script_of hn hpre hwl
  refine enter_call (codeAny_mono (call w s₀ s₁ mg mb fa o pm cd doc a vs ns G Y ho (fd_plain hd) hcd hmg hobj hints hlen hg) fun r s' hq => ?_)
  obtain ⟨rfl, h2, h3, h4⟩ := hq
  exact ⟨.inl ⟨.bool true, .bool true, [], rfl, fun _ => rfl, .bool true, post_true l _, fun _ => ⟨List.Pairwise.nil, fun _ hm => (nomatch hm)⟩⟩, h2, h3, h4⟩

/-! ### rules over ANY heap (no ledger) from facts about the written part K: the library's own take a ledger (News) for what they write -/
section
variable {prog : Program} {w : World} {A : Around} {E : Value → Shared → Prop} {s : Shared} {K : Frag}

/-! the whole heap as the ledger: makes every rule that writes through a ledger a rule over any heap -/
noncomputable def ledger (h : Heap) (L d : Addr) : List (Addr × Obj) := (List.range h.objs.size).filterMap fun a => if a = L ∨ a = d then none else (h.get? a).map fun o => (a, o)
end
end Att

namespace L2
open PySem PySem.Spec PyProof.Rows

theorem vals_ints : ∀ {vs : List Value} {ns : List Int}, IntsAre vs ns → Vals (ns.map V.int) vs
  | _, _, .nil => .nil
  | _, _, .cons n t h => .cons ⟨t, rfl⟩ (vals_ints h)

/-- nothing is tracked but the script, known to the object (or it is an object of the module) -/
noncomputable def Only (H : Hp) : Prop := ∀ b, H b = none ∨ ∃ o xs, H b = some (.frz o (.lst xs))

/-- THE HEAD: the law's promise, at the heap behind the top. F, the promise of the law's def, may use that base is part of the heap (so K.In base, base.Ns mainGlobals mg stand in Mod) -/
theorem law_call {P : Program} {w : World} {K : PySem.W.Frag} {mg mb : Str → Option Value} {CX : CXT} {k : Nat} {fa a : Addr} {fd : FuncData} {x : Str} {sp : Sp} {s₁ : Shared} {vs : List Value} {ns : List Int}
    (KX : K.In s₁.heap) (hns : s₁.heap.Ns mainGlobals mg) (hb : s₁.heap.Ns builtinsNs mb) (hbb : ∀ x : Str, x ≠ "__name__" → mb x = bootBuiltins x) (hlim : s₁.heap.NoLimit) (hg : s₁.gens = #[])
    (ha : s₁.heap.get? a = some { cls := .type "list", data := .seq vs.toArray }) (hi : IntsAre vs ns) (hl : ns.length ≤ sizeLine) (hr : Room k callerA)
    (F : ∀ base : Heap, K.In base → base.Ns mainGlobals mg → FnOk P w K mg base CX k fa fd [x] sp) (hbind : ∀ (s : Shared) (u : Value), BindsTo s fd ⟨[u], []⟩ [(x, u)])
    (hsp : ∀ H : Hp, Only H → SqL K H a (ns.map V.int) → sp [.ref a] H (fun v _ => v = .bl true) fun _ _ _ => False)
    (hCX : ∀ H e s', CX [] H s₁ (fun _ _ _ => False) e s' → False) :
    codeAny (model P w) callerA (.call (.ref fa) ⟨[.ref a], []⟩) (fun r s' => r = .ok (.ret (.bool true)) ∧ OldK s₁.heap s'.heap ∧ s'.os = s₁.os ∧ AllBare s'.gens) s₁ := by
  have rv := vals_ints hi
  have lenV := hi.length
  -- from an abstract heap in which nothing but the script may be tracked
  have core : ∀ H : Hp, Only H → SqL K H a (ns.map V.int) → HOk P w H s₁.heap → (∀ b, H b ≠ none → b = a) → (H a ≠ none → K.lookup a = none) →
      codeAny (model P w) callerA (.call (.ref fa) ⟨[.ref a], []⟩) (fun r s' => r = .ok (.ret (.bool true)) ∧ OldK s₁.heap s'.heap ∧ s'.os = s₁.os ∧ AllBare s'.gens) s₁ := by
    intro H hO hS hok hA hK
    have base_of : ∀ {b : Addr} {o : Obj}, s₁.heap.get? b = some o → H b = none → (hidT s₁.heap H).get? b = some o := fun e n => hidT_get e n
    have noA : ∀ {b : Addr} {o : Obj} {es : Array DictEntry} {ep : Nat}, s₁.heap.get? b = some o → o.data = .dict es ep → H b = none := fun {b o es ep} e d => by
      cases q : H b with
      | none => rfl
      | some u =>
        have e' : b = a := hA b (by rw [q]; simp)
        subst e'
        rw [ha] at e; cases e
        have d' : Data.seq vs.toArray _ = Data.dict es ep := d
        cases d'
    have nsK : ∀ {b : Addr} {m : Str → Option Value}, s₁.heap.Ns b m → (hidT s₁.heap H).Ns b m := fun {b m} ⟨o, es, ep, e, d, r⟩ => ⟨o, es, ep, base_of e (noA e d), d, r⟩
    have hKb : K.In (hidT s₁.heap H) := fun b o e => base_of (KX b o e) (by
      cases q : H b with
      | none => rfl
      | some u =>
        have e' : b = a := hA b (by rw [q]; simp)
        subst e'
        rw [hK (by rw [q]; simp)] at e; cases e)
    have hM : Mod K mg (hidT s₁.heap H) := ⟨hKb, nsK hns, ⟨mb, nsK hb, hbb⟩, let ⟨mc, h1, h2⟩ := hlim; ⟨mc, nsK h1, h2⟩⟩
    have e0 : Env0 P w K mg (hidT s₁.heap H) callerA [] s₁ H := ⟨rfl, hM, fun b o e => of_hidT e, Nat.le_of_eq (hidT_size _ _), trivial, fun b hb => absurd (show b ∈ ([] : List Addr) from hb) (by simp), hok, .of_eq hg⟩
    refine codeAny_mono ((F _ hKb (nsK hns)).run callerA [] s₁ H ⟨[.ref a], []⟩ [.ref a] [.ref a] _ _ hr e0 (hbind s₁ (.ref a)) (.cons rfl .nil) (hsp H hO hS)) fun r s' h => ?_
    cases r with
    | error e => exact (hCX H e s' h).elim
    | ok fl =>
      cases fl with
      | next => exact False.elim h
      | brk => exact False.elim h
      | cont => exact False.elim h
      | ret u =>
        obtain ⟨v, H', os, bare, un, hok', r', q⟩ := h
        have q' : v = .bl true := q
        subst q'
        obtain rfl : u = Value.bool true := r'
        refine ⟨rfl, OldK.of_keep fun b o e => ?_, os, bare⟩
        cases q : H b with
        | none => exact un.keep b o e q (by intro z; exact absurd (show b ∈ ([] : List Addr) from z) (by simp)) (by simp)
        | some u =>
          rcases hO b with z | ⟨ob, xs, z⟩
          · rw [q] at z; cases z
          · have z2 := un.frzs b ob _ z
            obtain ⟨e1, _⟩ := hok b _ z
            obtain ⟨e2, _⟩ := hok' b _ z2
            rw [e] at e1; cases e1
            exact e2
  cases hk : K.lookup a with
  | some o =>
    -- the script is one of the module's own objects
    have e := KX a o hk
    rw [ha] at e
    cases e
    refine core (fun _ => none) (fun _ => .inl rfl) (.inr ⟨_, vs.toArray, _, hk, rfl, rfl, rfl, by rw [List.size_toArray, lenV]; exact hl, by simpa using rv⟩) (fun b u z => by have z' : (none : Option HO) = some u := z; cases z') (fun b z => absurd rfl z) fun z => absurd rfl z
  | none =>
    refine core (fun b => if b = a then some (.frz { cls := .type "list", data := .seq vs.toArray } (.lst (ns.map V.int))) else none) (fun b => ?_) (.inl (.inr ⟨{ cls := .type "list", data := .seq vs.toArray }, if_pos rfl⟩)) (fun b u z => ?_) (fun b z => ?_) fun _ => hk
    · by_cases hb : b = a
      · exact .inr ⟨_, _, if_pos hb⟩
      · exact .inl (if_neg hb)
    · by_cases hb : b = a
      · have z' := (if_pos hb).symm.trans z
        cases z'
        subst hb
        exact ⟨ha, by rw [List.length_map]; exact hl, vs, _, rv, ha⟩
      · have z' := (if_neg hb).symm.trans z
        cases z'
    · by_cases hb : b = a
      · exact hb
      · exact absurd (if_neg hb) z
end L2

namespace L2
open PySem PySem.Spec PyProof.Rows

noncomputable abbrev KOf {K : PySem.W.Frag} {h : Heap} (_ : K.In h) : PySem.W.Frag := K

/-- the goal that k_head leaves (case hc), from the law's promise. F gives the function object fd (K's own) once, then the promise over every base -/
theorem walk_of {l : PySem.W.OpenLaw} {n k : Nat} {q : Program} {loose : List Str} {XP : (Str → Option Value) → Heap → Prop} {YP : World → Heap → Prop} {d : DefRec} {K : Params → PySem.W.Frag} {CX : World → CXT} {sp : World → Sp} {x : Str}
    (hn : l.most = some n) (hn2 : n ≤ sizeLine) (hdf : d.params.defaults = []) (hr : Room k callerA)
    (hY : ∀ (w : World) (h : Heap), YP w h → (K w.params).In h)
    (F : ∀ (w : World) (mg : Str → Option Value) (fa : Addr) (h : Heap), (K w.params).In h → h.Ns mainGlobals mg → mg d.name = some (.ref fa) →
      ∃ fd : FuncData, (∀ (s : Shared) (u : Value), BindsTo s fd ⟨[u], []⟩ [(x, u)]) ∧
        ∀ base : Heap, (K w.params).In base → base.Ns mainGlobals mg → FnOk l.prog w (K w.params) mg base (CX w) k fa fd [x] (sp w))
    (hsp : ∀ (w : World) (H : Hp) (a : Addr) (ns : List Int), ns.length ≤ n → Only H → SqL (K w.params) H a (ns.map V.int) → sp w [.ref a] H (fun v _ => v = .bl true) fun _ _ _ => False)
    (hCX : ∀ (w : World) (H : Hp) (s : Shared) (e : Value) (s' : Shared), CX w [] H s (fun _ _ _ => False) e s' → False) :
    PySem.W.WalkO q loose XP YP l.row.toRowW d [] (fun f vs => PySem.call f vs) := by
  refine Att.attach_call hn hdf fun w s₀ s₁ mg mb fa o pm cd doc a vs ns G Y ho hd hcd hmg hobj hints hlen hg => ?_
  have KX := hY w _ Y
  obtain ⟨fd, hb, hF⟩ := F w mg fa _ KX G.T.g hmg
  exact law_call KX G.T.g G.T.b G.T.builtins G.T.nolimit hg hobj hints (Nat.le_trans hlen hn2) hr hF hb (fun H hO hS => hsp w H a ns hlen hO hS) fun H e s' => hCX w H s₁ e s'
end L2

/- THE LAST THEOREM (shape; LID, My.* are yours):
   My.Adr: a structure of the addresses that your layer names (classes, functions); My.Txt K t: a structure (Prop) of the equations over K;
   My.txt_mk : {K} {implicit addresses ..} (e1 : nsIn K mainGlobals "law" = some (some (.ref f))) (e2 : K.lookup f = some ⟨oc, od, .func (fnOf "law" "law" params body scope dV kV doc pm an cdv ct), sl⟩) (e3 : codeIn K cdv "law" = true) .. : ∃ t, My.Txt K t

set_option maxRecDepth 100000 in
set_option maxHeartbeats 0 in
theorem PySem.Challenge.cw_LID_holds : PySem.Challenge.rw_LID.Holds := by
  w_on; o_law; k_head; (case hw => w_witness2)
  k_fill
  refine L2.walk_of (l := PySem.Challenge.rw_LID) (n := 63) (k := 40) (x := "script") (CX := fun w => ..) (sp := fun _ => My.sp_law) rfl (by decide) rfl ⟨rfl, by decide, by decide⟩ (fun w h Y => PySem.W.kIn_of Y) ?F ?S ?C
  case F =>
    intro w mg fa h KX G hmg
    have T : ∃ t, My.Txt (L2.KOf KX) t := by
      dsimp only [L2.KOf]                          -- K must stand as «<heap const> w.params» for k_is
      refine' My.txt_mk ?e1 ?e2 ?e3 ..
      (case e1 => PySem.W.k_is)                    -- in the order: a name -> its address -> its object -> its parts
      (case e2 => PySem.W.k_is)
      ..
    obtain ⟨t, T⟩ := T
    have e0 := hmg.symm.trans (PySem.W.mg_of KX G T.law)
    cases e0                                       -- fa is the law's own address
    exact ⟨_, fun s u => .of_eq rfl, fun base kb nb => My.law_fn T kb nb⟩     -- if «.of_eq rfl» comes too early: refine' ⟨_, ?b, fun base kb nb => My.law_fn T kb nb⟩; exact fun s u => .of_eq rfl
  case S => exact fun w H a ns hl hO hS => ..
  case C => exact ..
(the tactic k_is has no namespace: write k_is) -/

/-! SHORT WORDS over the layer: a def of the text, its body, what a loop and a test want. -/
namespace L2
open PySem PySem.Spec PyProof.Rows

/-! ### the text by places -/
/-- the j-th statement of a class's body -/
noncomputable def inClass (s : Stmt) (j : Nat) : Stmt := match s with
  | .ClassDef _ _ _ body _ _ _ _ _ _ _ => body.getD j (.Pass ⟨0, 0, 0, 0⟩)
  | _ => .Pass ⟨0, 0, 0, 0⟩
noncomputable def defArgs (s : Stmt) : Arguments := match s with
  | .FunctionDef _ a _ _ _ _ _ _ _ _ => a
  | _ => { posonlyargs := [], args := [], vararg := none, kwonlyargs := [], kw_defaults := [], kwarg := none, defaults := [] }
noncomputable def defBody (s : Stmt) : List Stmt := match s with
  | .FunctionDef _ _ b _ _ _ _ _ _ _ => b
  | _ => []
noncomputable def defScope (s : Stmt) : Scope := match s with
  | .FunctionDef _ _ _ _ _ _ sc _ _ _ => sc
  | _ => { kind := .function, names := [], isGenerator := false, isCoroutine := false }

/-! ### no exception leaves a def -/
noncomputable abbrev CX0 : CXT := fun _ _ _ _ _ _ => False
noncomputable abbrev E0 : XK := fun _ _ _ => False
theorem pass0 {X : Cx} : Passes CX0 X E0 := fun _ _ _ _ _ _ _ h => h.elim

/-! ### a def (or method) of the text as it stands behind the top -/
structure Fun (K : PySem.W.Frag) (x qual : Str) (st : Stmt) (f : Addr) (fd : FuncData) : Prop where
  ex : ∃ (oc : Value) (od : Option Addr) (kV doc pm : Value) (an : Option Addr) (cdv ct : Value) (osl : Array (Option Value)),
    fd = PySem.W.fnOf x qual (defArgs st) (defBody st) (defScope st) .none kV doc pm an cdv ct ∧ K.lookup f = some ⟨oc, od, .func fd, osl⟩ ∧ PySem.W.codeIn K cdv qual = true
  kp : PySem.W.keepIn K (.ref f) = true
section
variable {P : Program} {w : World} {K : PySem.W.Frag} {mg : Str → Option Value} {base : Heap}
/-- THE RULE for a def: its body as a term of rules, and the reading of that term -/
theorem Fun.ok {x qual : Str} {st : Stmt} {f : Addr} {fd : FuncData} {N ps : List Str} {k : Nat} {sp : Sp} (F : Fun K x qual st f fd) (S : FnScope N ps (defScope st)) (len : ∀ vs H Q E, sp vs H Q E → vs.length = ps.length)
    (hbody : ∀ (cdv : Value) (A : Around) (outer : List Env) (s : Shared) (H : Hp) (vs : List V) (Q : VK) (E : XK), Room k (A.deeper (envOfC qual (defScope st) s.heap.objs.size f cdv)) → sp vs H Q E →
      ∃ t, PSs (cxOf CX0 P w K mg base N qual (defScope st) f cdv A outer s H E).nox (defBody st) t ∧ t { nx := fun _ H' => Q .non H', rt := Q } (start N vs) H) : FnOk P w K mg base CX0 (k + 1) f fd ps sp := by
  obtain ⟨oc, od, kV, doc, pm, an, cdv, ct, osl, rfl, lk, hcd⟩ := F.ex
  refine fn_of lk hcd S len fun A outer s H vs Q E hr hsp => ?_
  obtain ⟨t, h, q⟩ := hbody cdv A outer s H vs Q E hr hsp
  exact ⟨t, h.nox, q⟩
/-- how its arguments bind (no defaults): h is «fun _ _ _ _ _ _ us hl => match us, hl with | [_, _], _ => rfl», one _ a parameter -/
theorem Fun.binds {x qual : Str} {st : Stmt} {f : Addr} {fd : FuncData} {ps : List Str} (F : Fun K x qual st f fd)
    (h : ∀ (kV doc pm : Value) (an : Option Addr) (cdv ct : Value) (us : List Value), us.length = ps.length → bindArgs (PySem.W.fnOf x qual (defArgs st) (defBody st) (defScope st) .none kV doc pm an cdv ct) ⟨us, []⟩ = pure (ps.zip us)) : Binds K fd ps [] := by
  obtain ⟨oc, od, kV, doc, pm, an, cdv, ct, osl, rfl, lk, hcd⟩ := F.ex
  exact .all (h kV doc pm an cdv ct)
theorem fun_mk {x qual : Str} {st : Stmt} {f : Addr} {oc : Value} {od an : Option Addr} {osl : Array (Option Value)} {kV doc pm cdv ct : Value} (l : K.lookup f = some ⟨oc, od, .func (PySem.W.fnOf x qual (defArgs st) (defBody st) (defScope st) .none kV doc pm an cdv ct), osl⟩)
    (c : PySem.W.codeIn K cdv qual = true) (k : PySem.W.keepIn K (.ref f) = true) : Fun K x qual st f (PySem.W.fnOf x qual (defArgs st) (defBody st) (defScope st) .none kV doc pm an cdv ct) := ⟨⟨oc, od, kV, doc, pm, an, cdv, ct, osl, rfl, l, c⟩, k⟩
end
theorem hu_of {A : Around} {k : Nat} (hr : Room k A) : A.units + 1 < cLine := Nat.lt_of_le_of_lt (Nat.add_le_add_left (by decide : 1 ≤ 64) _) hr.units
theorem small1000 {n : Nat} (h : n ≤ 1000) : n < sizeLine := Nat.lt_of_le_of_lt h (by decide)

/-! ### expressions in short: the name that stands in the i-th slot -/
section
variable {X : Cx}
end

/-! ### tests -/
theorem iteF {A B : Prop} (h : B) : if false = true then A else B := by
  rw [if_neg Bool.false_ne_true]
  exact h
/-! ### heaps -/
end L2

namespace L2
open PySem PySem.Spec PyProof.Rows

/-! ### lists of pairs as tables -/
section
variable {κ : Type} [DecidableEq κ]
noncomputable def valV (kvs : List (κ × V)) (k : κ) : Option V := (kvs.find? fun kv => decide (kv.1 = k)).map (·.2)
/-- in its place, or at the end -/
noncomputable def putK (kvs : List (κ × V)) (k : κ) (v : V) : List (κ × V) :=
  if (kvs.any fun kv => decide (kv.1 = k)) = true then kvs.map (fun kv => if kv.1 = k then (kv.1, v) else kv) else kvs ++ [(k, v)]
theorem valV_pos {p : κ × V} {r : List (κ × V)} {k : κ} (e : p.1 = k) : valV (p :: r) k = some p.2 := by simp [valV, List.find?_cons, e]
theorem valV_neg {p : κ × V} {r : List (κ × V)} {k : κ} (e : ¬ p.1 = k) : valV (p :: r) k = valV r k := by simp [valV, List.find?_cons, e]
theorem valV_any (k : κ) : ∀ kvs : List (κ × V), (kvs.any fun kv => decide (kv.1 = k)) = (valV kvs k).isSome
  | [] => rfl
  | p :: r => by
    rw [List.any_cons]
    by_cases e : p.1 = k
    · simp only [valV_pos e, decide_eq_true e, Bool.true_or, Option.isSome_some]
    · rw [valV_neg e, decide_eq_false e, Bool.false_or]; exact valV_any k r
theorem length_putK (kvs : List (κ × V)) (k : κ) (v : V) : (putK kvs k v).length ≤ kvs.length + 1 := by
  unfold putK
  split
  · rw [List.length_map]; omega
  · rw [List.length_append, List.length_cons, List.length_nil]; omega
theorem RelO.isSome_eq {o : Option V} {u : Option Value} (r : RelO o u) : o.isSome = u.isSome := by
  cases o with
  | none => cases u with
    | none => rfl
    | some _ => exact (show False from r).elim
  | some _ => cases u with
    | none => exact (show False from r).elim
    | some _ => rfl
theorem RelO.getD {o : Option V} {u : Option Value} {d : V} {d' : Value} (r : RelO o u) (rd : RelV d d') : RelV (o.getD d) (u.getD d') := by
  cases o with
  | none => cases u with
    | none => exact rd
    | some _ => exact (show False from r).elim
  | some _ => cases u with
    | none => exact (show False from r).elim
    | some _ => exact r

/-- raw tables of the same keys -/
theorem KV.val {kvs : List (κ × V)} {vs : List (κ × Value)} (r : KV kvs vs) (k : κ) : RelO (valV kvs k) (valueAt vs k) := by
  unfold KV at r
  induction r with
  | nil => exact True.intro
  | @cons p q ps qs h t ih =>
    obtain ⟨h1, h2⟩ := h
    by_cases e : p.1 = k
    · have e' : q.1 = k := h1.symm.trans e
      have b : valueAt (q :: qs) k = some q.2 := by simp [valueAt, List.find?_cons, e']
      rw [valV_pos e, b]; exact h2
    · have e' : ¬ q.1 = k := fun z => e (h1.trans z)
      have b : valueAt (q :: qs) k = valueAt qs k := by simp [valueAt, List.find?_cons, e']
      rw [valV_neg e, b]; exact ih
theorem KV.any {kvs : List (κ × V)} {vs : List (κ × Value)} (r : KV kvs vs) (k : κ) : (kvs.any fun kv => decide (kv.1 = k)) = vs.any fun kv => decide (kv.1 = k) := by
  unfold KV at r
  induction r with
  | nil => rfl
  | cons h t ih => rw [List.any_cons, List.any_cons, ih, h.1]
theorem KV.repl {kvs : List (κ × V)} {vs : List (κ × Value)} (r : KV kvs vs) (k : κ) {y : V} {u : Value} (ry : RelV y u) :
    KV (kvs.map fun kv => if kv.1 = k then (kv.1, y) else kv) (vs.map fun kv => if kv.1 = k then (kv.1, u) else kv) := by
  unfold KV at r ⊢
  induction r with
  | nil => exact .nil
  | @cons p q ps qs h t ih =>
    rw [List.map_cons, List.map_cons]
    refine .cons ?_ ih
    obtain ⟨h1, h2⟩ := h
    by_cases e : p.1 = k
    · rw [if_pos e, if_pos (h1.symm.trans e)]; exact ⟨h1, ry⟩
    · rw [if_neg e, if_neg (fun z => e (h1.trans z))]; exact ⟨h1, h2⟩
theorem KV.put {kvs : List (κ × V)} {vs : List (κ × Value)} (r : KV kvs vs) (k : κ) {y : V} {u : Value} (ry : RelV y u) : KV (putK kvs k y) (stored vs k u) := by
  unfold putK stored
  rw [r.any k]
  by_cases e : (vs.any fun kv => decide (kv.1 = k)) = true
  · rw [if_pos e, if_pos e]; exact r.repl k ry
  · rw [if_neg e, if_neg e]; exact Paired.snoc r ⟨rfl, ry⟩
theorem KV.keys {kvs : List (κ × V)} {vs : List (κ × Value)} (r : KV kvs vs) : kvs.map (·.1) = vs.map (·.1) := by
  unfold KV at r
  induction r with
  | nil => rfl
  | cons h t ih => rw [List.map_cons, List.map_cons, ih, h.1]
theorem KV.length {kvs : List (κ × V)} {vs : List (κ × Value)} (r : KV kvs vs) : kvs.length = vs.length := Paired.length r
end


/-! ### a tracked dict, its keys ints and texts or tuples of these -/
theorem kV_is {P : Program} {w : World} {k : Key} {u : Value} (r : RelV (kV k) u) : (mixKind P w).is k u = true := by
  cases k with
  | inl i => obtain ⟨t, e⟩ := (show ∃ t, u = Value.int i t from r); subst e; exact mixKind_int P w i t
  | inr x => obtain ⟨t, e⟩ := (show ∃ t, u = Value.str x t from r); subst e; exact mixKind_str P w x t
theorem items_are {P : Program} {w : World} : ∀ {ks : List Key} {us : List Value}, Vals (ks.map kV) us → ItemsAre (mixKind P w) ks us
  | [], _, r => by rw [List.map_nil] at r; cases r; exact .nil
  | k :: ks, _, r => by
    rw [List.map_cons] at r
    cases r with
    | cons h t => exact .cons (kV_is h) (items_are t)

/-- raw entries of a dict with tuple keys -/
noncomputable abbrev KT (H : Hp) : List (List Key × V) → List (List Key × Addr × Value) → Prop := Paired fun p q => p.1 = q.1 ∧ H q.2.1 = some (.tup (p.1.map kV)) ∧ RelV p.2 q.2.2
theorem KT.val {H : Hp} {kvs : List (List Key × V)} {xs : List (List Key × Addr × Value)} (r : KT H kvs xs) (k : List Key) : RelO (valV kvs k) ((atKey xs k).map (·.2)) := by
  induction r with
  | nil => exact True.intro
  | @cons p q ps qs h t ih =>
    obtain ⟨h1, _, h2⟩ := h
    by_cases e : p.1 = k
    · have e' : q.1 = k := h1.symm.trans e
      have b : atKey (q :: qs) k = some q.2 := by simp [atKey, List.find?_cons, e']
      rw [valV_pos e, b]; exact h2
    · have e' : ¬ q.1 = k := fun z => e (h1.trans z)
      have b : atKey (q :: qs) k = atKey qs k := by simp [atKey, List.find?_cons, e']
      rw [valV_neg e, b]; exact ih
theorem KT.repl {H : Hp} {kvs : List (List Key × V)} {xs : List (List Key × Addr × Value)} (r : KT H kvs xs) (k : List Key) {y : V} {u : Value} (ry : RelV y u) :
    KT H (kvs.map fun kv => if kv.1 = k then (kv.1, y) else kv) (xs.map (putAt k u)) := by
  induction r with
  | nil => exact .nil
  | @cons p q ps qs h t ih =>
    rw [List.map_cons, List.map_cons]
    refine .cons ?_ ih
    obtain ⟨h1, h2, h3⟩ := h
    unfold putAt
    by_cases e : p.1 = k
    · rw [if_pos e, if_pos (h1.symm.trans e)]; exact ⟨h1, h2, ry⟩
    · rw [if_neg e, if_neg (fun z => e (h1.trans z))]; exact ⟨h1, h2, h3⟩
theorem KT.put {H : Hp} {kvs : List (List Key × V)} {xs : List (List Key × Addr × Value)} (r : KT H kvs xs) (k : List Key) {b : Addr} {y : V} {u : Value} (hb : H b = some (.tup (k.map kV))) (ry : RelV y u) :
    KT H (putK kvs k y) (storedH xs k b u) := by
  have e : (kvs.any fun kv => decide (kv.1 = k)) = (atKey xs k).isSome := by
    rw [valV_any, (r.val k).isSome_eq, Option.isSome_map]
  unfold putK storedH
  rw [e]
  by_cases q : (atKey xs k).isSome = true
  · rw [if_pos q, if_pos q]; exact r.repl k ry
  · rw [if_neg q, if_neg q]; exact Paired.snoc r ⟨rfl, hb, ry⟩
theorem KT.keeps {H H' : Hp} {kvs : List (List Key × V)} {xs : List (List Key × Addr × Value)} (r : KT H kvs xs) (ht : ∀ b ys, H b = some (.tup ys) → H' b = some (.tup ys)) : KT H' kvs xs :=
  Paired.mapP r fun _ _ z => ⟨z.1, ht _ _ z.2.1, z.2.2⟩

section
variable {P : Program} {w : World} {H : Hp} {h : Heap} {a : Addr}
theorem rd_of {u : HO} (ok : HOk P w H h) (e : Rd H a u) : ObjOk P w H h a u := e.ok ok
theorem dk_rd {kvs : List (Key × V)} (ok : HOk P w H h) (e : Rd H a (.dK kvs)) : kvs.length ≤ sizeLine ∧ (a == sysModules) = false ∧ ∃ vs, KV kvs vs ∧ h.DictOf (mixKind P w) a vs :=
  show ObjOk P w H h a (.dK kvs) from rd_of ok e
theorem dk_of {kvs : List (Key × V)} (ok : HOk P w H h) (e : H a = some (.dK kvs)) : kvs.length ≤ sizeLine ∧ (a == sysModules) = false ∧ ∃ vs, KV kvs vs ∧ h.DictOf (mixKind P w) a vs := dk_rd ok (.inl e)
/-- a tracked tuple of ints and texts is a key -/
theorem key_of {ks : List Key} (ok : HOk P w H h) (e : H a = some (.tup (ks.map kV))) : (tupleKind (mixKind P w)).is h ks a := by
  obtain ⟨_, its, r, o, h1, h2, n, h3⟩ := (show ObjOk P w H h a (.tup (ks.map kV)) from ok a _ e)
  exact ⟨o, its.toArray, n, h1, h2, h3, by simpa using items_are r⟩
theorem dt_rd {kvs : List (List Key × V)} (ok : HOk P w H h) (e : Rd H a (.dT kvs)) : kvs.length ≤ sizeLine ∧ (a == sysModules) = false ∧
    ∃ xs, KT H kvs xs ∧ h.DictOfH (tupleKind (mixKind P w)) a xs := by
  obtain ⟨z, y, xs, r, o, es, ep, h1, h2, h3, h4, h5⟩ := (show ObjOk P w H h a (.dT kvs) from rd_of ok e)
  refine ⟨z, y, xs, r, o, es, ep, h1, h2, h3, h4, fun x hx => ?_, h5⟩
  have all : ∀ {l : List (List Key × V)} {m : List (List Key × Addr × Value)}, KT H l m → ∀ x ∈ m, (tupleKind (mixKind P w)).is h x.1 x.2.1 := by
    intro l m q
    induction q with
    | nil => intro x hx; exact nomatch hx
    | @cons p q ps qs hq t ih =>
      intro x hx
      rcases List.mem_cons.mp hx with e | hx
      · subst e
        exact key_of ok (by rw [← hq.1]; exact hq.2.1)
      · exact ih x hx
  exact all r x hx
theorem dt_of {kvs : List (List Key × V)} (ok : HOk P w H h) (e : H a = some (.dT kvs)) : kvs.length ≤ sizeLine ∧ (a == sysModules) = false ∧
    ∃ xs, KT H kvs xs ∧ h.DictOfH (tupleKind (mixKind P w)) a xs := dt_rd ok (.inl e)
end

/-- what the dict at a holds at the key y -/
noncomputable def DGet (H : Hp) (a : Addr) (y : V) (r : Option V) : Prop :=
  (∃ kvs k, Rd H a (.dK kvs) ∧ y = kV k ∧ r = valV kvs k) ∨ ∃ kvs k b, Rd H a (.dT kvs) ∧ y = .ref b ∧ H b = some (.tup (k.map kV)) ∧ r = valV kvs k
/-- the heap behind a[y] = v -/
noncomputable def DPut (H : Hp) (a : Addr) (y v : V) (H' : Hp) : Prop :=
  (∃ kvs k, H a = some (.dK kvs) ∧ y = kV k ∧ kvs.length < sizeLine ∧ H' = upd H a (.dK (putK kvs k v))) ∨
  ∃ kvs k b, H a = some (.dT kvs) ∧ y = .ref b ∧ H b = some (.tup (k.map kV)) ∧ kvs.length < sizeLine ∧ H' = upd H a (.dT (putK kvs k v))
theorem DPut.k {H : Hp} {a : Addr} {kvs : List (Key × V)} {k : Key} {v : V} (e : H a = some (.dK kvs)) (hl : kvs.length < sizeLine) : DPut H a (kV k) v (upd H a (.dK (putK kvs k v))) := .inl ⟨kvs, k, e, rfl, hl, rfl⟩
section
variable {X : Cx} {pins : List (Addr × Obj)} {σ : St} {H : Hp} {s : Shared} {a : Addr} {y v : V} {u r : Value} {o : Option V} {A : Around} {E : Value → Shared → Prop}

theorem Inv.big (I : Inv X pins σ H s) : sysModules < s.heap.objs.size := by
  have h : mainGlobals < s.heap.objs.size := (I.mod.glob.keeps I.bk).lt
  exact Nat.lt_trans (by decide) h

/-- d[y], there -/
theorem d_getItem {Q : Value → Shared → Prop} (hu : A.units + 1 < cLine) (I : Inv X pins σ H s) (g : DGet H a y (some v)) (ry : RelV y u) (h : ∀ w' s', Inv X pins σ H s' → RelV v w' → Q w' s') :
    wpAny (model X.prog X.w) A (getItem (.ref a) u) Q E s := by
  rcases g with ⟨kvs, k, e, ey, l⟩ | ⟨kvs, k, b, e, ey, eb, l⟩
  · subst ey
    obtain ⟨z, hd, vs, rel, dd⟩ := dk_rd I.hok e
    obtain ⟨w', hw, rw'⟩ := RelO.some_of (v := v) (o := valueAt vs k) (by rw [l]; exact rel.val k)
    exact wpAny_getItem_of (kV_is ry) dd.mapOf hw (h w' _ (I.tok _) rw')
  · subst ey
    cases (show u = Value.ref b from ry)
    obtain ⟨z, hd, xs, rel, dd⟩ := dt_rd I.hok e
    obtain ⟨w', hw, rw'⟩ := RelO.some_of (v := v) (o := (atKey xs k).map (·.2)) (by rw [l]; exact rel.val k)
    obtain ⟨p, hp, hp2⟩ := Option.map_eq_some_iff.mp hw
    refine wpAny_getItem_heap (tupleKind_room_in1 hu) (key_of I.hok eb) dd hp ?_
    rw [hp2]
    exact h w' _ (I.tok _) rw'
theorem d_notIn {Q : Value → Shared → Prop} (hu : A.units + 1 < cLine) (I : Inv X pins σ H s) (g : DGet H a y o) (ry : RelV y u) (h : ∀ s', Inv X pins σ H s' → Q (.bool (!o.isSome)) s') :
    wpAny (model X.prog X.w) A (compareOp .NotIn u (.ref a)) Q E s := by
  rcases g with ⟨kvs, k, e, ey, l⟩ | ⟨kvs, k, b, e, ey, eb, l⟩
  · subst ey
    obtain ⟨z, hd, vs, rel, dd⟩ := dk_rd I.hok e
    refine wpAny_notIn_of (kV_is ry) hd dd.mapOf ?_
    rw [← (rel.val k).isSome_eq, ← l]
    exact h _ (I.tok _)
  · subst ey
    cases (show u = Value.ref b from ry)
    obtain ⟨z, hd, xs, rel, dd⟩ := dt_rd I.hok e
    refine wpAny_notIn_heap (tupleKind_room_in1 hu) (key_of I.hok eb) hd dd ?_
    have q := (rel.val k).isSome_eq
    rw [Option.isSome_map] at q
    rw [← q, ← l]
    exact h _ (I.tok _)
/-- a dict's object is replaced -/
theorem d_write {h' : Heap} {t' : Nat} {ob : HO} (I : Inv X pins σ H s) (mu : Mut (H a)) (hs : Heap.SameBut a s.heap h') (he : ∃ q, h'.get? a = some q) (new : ObjOk X.prog X.w (upd H a ob) h' a ob) :
    Inv X pins σ (upd H a ob) { s with heap := h', toks := t' } :=
  I.write (x := a) (e := a) mu (.inl rfl) (fun b q hb z => (hs.2 b hb).trans z) he new
theorem dk_new {P : Program} {w : World} {H' : Hp} {h' : Heap} {kvs : List (Key × V)} {vs : List (Key × Value)} (z : kvs.length ≤ sizeLine) (hd : (a == sysModules) = false) (rel : KV kvs vs) (dd : h'.DictOf (mixKind P w) a vs) :
    ObjOk P w H' h' a (.dK kvs) := ⟨z, hd, vs, rel, dd⟩
/-- d[y] = v -/
theorem d_setItem {H' : Hp} {Q : Unit → Shared → Prop} (hu : A.units + 1 < cLine) (I : Inv X pins σ H s) (g : DPut H a y v H') (ry : RelV y u) (rv : RelV v r) (h : ∀ s', Inv X pins σ H' s' → Q () s') :
    wpAny (model X.prog X.w) A (setItem (.ref a) u r) Q E s := by
  rcases g with ⟨kvs, k, e, ey, l, eH⟩ | ⟨kvs, k, b, e, ey, eb, l, eH⟩
  · subst ey eH
    obtain ⟨z, hd, vs, rel, dd⟩ := dk_of I.hok e
    have hz : vs.length ≤ sizeLine := by rw [← rel.length]; exact z
    have hl : (putK kvs k v).length ≤ sizeLine := by have := length_putK kvs k v; omega
    refine wpAny_setItem_pairs (hsz := hz) (kV_is ry) dd fun h' dd' hs => h _ ?_
    have he : ∃ q, h'.get? a = some q := let ⟨q, _, _, hq, _⟩ := dd'; ⟨q, hq⟩
    exact d_write I (by rw [e]; exact True.intro) hs he (dk_new hl hd (rel.put k rv) dd')
  · subst ey eH
    cases (show u = Value.ref b from ry)
    obtain ⟨z, hd, xs, rel, dd⟩ := dt_of I.hok e
    have hz : xs.length ≤ sizeLine := by rw [← Paired.length rel]; exact z
    have hl : (putK kvs k v).length ≤ sizeLine := by have := length_putK kvs k v; omega
    refine wpAny_setItem_heap (hsz := hz) (tupleKind_room_in1 hu) (key_of I.hok eb) dd fun h' dd' hs => h _ ?_
    obtain ⟨q, es, ep, hq, h2, h3, h4, _, h5⟩ := dd'
    refine d_write I (by rw [e]; exact True.intro) hs ⟨q, hq⟩ ⟨hl, hd, _, (rel.put k eb rv).keeps fun c ys ec => ?_, q, es, ep, hq, h2, h3, h4, h5⟩
    rw [upd_ne (ne_of ec e (fun z => nomatch z))]
    exact ec
end

section
variable {X : Cx} {pins : List (Addr × Obj)} {σ : St} {H : Hp} {s : Shared} {a : Addr} {kvs : List (Key × V)} {k : Key} {u : Value} {A : Around} {E : Value → Shared → Prop}
end


/-! ### readings and rules -/
/-- the element of a subscription, not a slice -/
noncomputable def NoSl (i : Expr) : Prop := ∀ ov iv, subscripted i false ov iv = operate [ov, iv] (getItem ov iv)
theorem subD_of {prog : Program} {w : World} {A : Around} {E : Value → Shared → Prop} {s : Shared} {env : Env} {value slice : Expr} {pos : Pos} {T id : String} {Q : Value → Shared → Prop}
    (hl : typeLookup (.type T) "__getitem__" = pure (some (.builtin id))) (hs : NoSl slice)
    (h : wpAny (model prog w) A (eval value env) (fun o s₁ => wpAny (model prog w) A (eval slice env) (fun i s₂ => s₂.TypeIs o T ∧ wpAny (model prog w) A (getItem o i) Q E s₂) E s₁) E s) :
    wpAny (model prog w) A (eval (.Subscript value slice pos) env) Q E s := by
  refine Subscript_ (wpAny_mono h (fun o s₁ h₁ => wpAny_mono h₁ (fun i s₂ h₂ => ?_) fun _ _ x => x) fun _ _ x => x)
  obtain ⟨hT, h₂⟩ := h₂
  unfold subscriptTail
  refine wpAny_bind ?_
  rw [getitemInPython_of_ne hT.not_modules]
  refine wpAny_bind (wpAny_specialOf hT hl ?_)
  have fin : wpAny (model prog w) A (subscripted slice false o i) (fun r s₃ => wpAny (model prog w) A (letTemporaryGo value o r >>= fun _ => pure r) Q E s₃) E s₂ := by
    rw [hs o i]
    exact wpAny_operating (wpAny_mono h₂ (fun r s₃ h₃ => wpAny_bind (wpAny_letTemporaryGo (wpAny_pure h₃))) fun _ _ x => x)
  first
    | exact wpAny_pure (wpAny_bind fin)
    | exact wpAny_bind (wpAny_pure (wpAny_bind fin))
    | exact wpAny_bind fin

theorem dict_typeIs {X : Cx} {pins : List (Addr × Obj)} {σ : St} {H : Hp} {s : Shared} {a : Addr} {y : V} {o : Option V} (I : Inv X pins σ H s) (g : DGet H a y o) : s.TypeIs (.ref a) "dict" := by
  rcases g with ⟨kvs, k, e, _, _⟩ | ⟨kvs, k, b, e, _, _, _⟩
  · obtain ⟨_, _, vs, _, dd⟩ := dk_rd I.hok e
    exact dd.typeIs
  · obtain ⟨_, _, xs, _, dd⟩ := dt_rd I.hok e
    exact dd.typeIs
/-- d[y] -/
noncomputable def tDGet (td ty : TE) : TE := fun σ H Q => td σ H fun x H1 => ty σ H1 fun y H2 => ∃ a v, x = .ref a ∧ DGet H2 a y (some v) ∧ Q v H2
section
variable {X : Cx} {o i e value : Expr} {pos pos' tpos : Pos} {td ty tv : TE}
theorem pe_dget (hu : X.A.units + 1 < cLine) (ho : PE X o td) (hi : PE X i ty) (hs : NoSl i) : PE X (.Subscript o i pos) (tDGet td ty) := by
  intro pins s σ H Q I h
  refine subD_of PySem.F.slot_dict_getitem.lookup hs (thn (ho pins s σ H _ I h) fun u s1 ⟨x, H1, I1, rx, q1⟩ => thn (hi pins s1 σ H1 _ I1 q1) fun iv s2 ⟨y, H2, I2, ry, a, v, ex, g, q2⟩ => ?_)
  subst ex
  obtain rfl : u = Value.ref a := rx
  exact ⟨dict_typeIs I2 g, d_getItem hu I2 g ry fun w' s3 I3 rw' => ⟨v, H2, I3, rw', q2⟩⟩
end


/-! ### displays -/
theorem dk_empty {P : Program} {w : World} {H : Hp} (h : Heap) (hb : sysModules < h.objs.size) : ObjOk P w H (h.push { cls := .type "dict", data := .dict #[] }) h.objs.size (.dK []) :=
  ⟨Nat.zero_le _, beq_eq_false_iff_ne.mpr (Ne.symm (Nat.ne_of_lt hb)), [], .nil, Heap.DictOf.new h⟩
/-- {}, to be a dict of the kind that is wanted -/
noncomputable def tDNewK : TE := fun _ H Q => ∀ p, H p = none → Q (.ref p) (upd H p (.dK []))
section
variable {X : Cx} {pos : Pos}
theorem pe_dnewK : PE X (.Dict [] [] pos) tDNewK := fun pins s σ H Q I h =>
  wpAny_Dict_empty ⟨.ref s.heap.objs.size, _, I.laid (a := s.heap.objs.size) (o := .dK []) (t' := s.toks) (fun _ _ q => Heap.get?_push_of_some _ q) (Nat.le_refl _) (dk_empty s.heap I.big), rfl, h _ (I.hok.fresh (Nat.le_refl _))⟩
end

/-! ### methods -/
/-- a method call o.m(e) of a built-in, with one argument: what must be seen of the text -/
structure M1 (X : Cx) (o : Expr) (m : Str) (apos : Pos) (e : Expr) (cpos : Pos) : Prop where
  base : attributeBase o m X.env (eval o X.env) = eval o X.env
  few : ((backTo cpos (starEach [e] X.env)).all (fun x => !x.1) && (backToKw cpos (keywordEach [] X.env)).all (fun x => x.1.isSome)
    && decide (([e] : List Expr).length + ([] : List Keyword).length + (if ([] : List Keyword).isEmpty then 0 else 1) < 30)) = true
  line : (apos.endLine == cpos.line) = true
  trees : backTo cpos (starEach [e] X.env) = [(false, eval e X.env)]
structure M2 (X : Cx) (o : Expr) (m : Str) (apos : Pos) (e f : Expr) (cpos : Pos) : Prop where
  base : attributeBase o m X.env (eval o X.env) = eval o X.env
  few : ((backTo cpos (starEach [e, f] X.env)).all (fun x => !x.1) && (backToKw cpos (keywordEach [] X.env)).all (fun x => x.1.isSome)
    && decide (([e, f] : List Expr).length + ([] : List Keyword).length + (if ([] : List Keyword).isEmpty then 0 else 1) < 30)) = true
  line : (apos.endLine == cpos.line) = true
  trees : backTo cpos (starEach [e, f] X.env) = [(false, eval e X.env), (false, eval f X.env)]

/-- a is a dict, whatever its keys -/
noncomputable def IsD (H : Hp) (a : Addr) : Prop := (∃ kvs, Rd H a (.dK kvs)) ∨ ∃ kvs, Rd H a (.dT kvs)
theorem isD_at {X : Cx} {pins : List (Addr × Obj)} {σ : St} {H : Hp} {s : Shared} {a : Addr} (I : Inv X pins σ H s) (d : IsD H a) :
    s.TypeIs (.ref a) "dict" ∧ (∀ b, Value.ref a = .ref b → ∃ ob, s.heap.get? b = some ob ∧ ob.dict = none) ∧ (a == sysModules) = false := by
  rcases d with ⟨kvs, e⟩ | ⟨kvs, e⟩
  · obtain ⟨_, hd, vs, _, dd⟩ := dk_rd I.hok e
    refine ⟨dd.typeIs, fun b q => ?_, hd⟩
    cases q
    obtain ⟨ob, _, _, h1, h2, _⟩ := dd
    exact ⟨ob, h1, h2.2.1⟩
  · obtain ⟨_, hd, xs, _, dd⟩ := dt_rd I.hok e
    refine ⟨dd.typeIs, fun b q => ?_, hd⟩
    cases q
    obtain ⟨ob, _, _, h1, h2, _⟩ := dd
    exact ⟨ob, h1, h2.2.1⟩

section
variable {X : Cx} {pins : List (Addr × Obj)} {σ : St} {H : Hp} {s : Shared} {a : Addr} {y d : V} {u r : Value} {o : Option V} {A : Around} {E : Value → Shared → Prop}
/-- d.get(y, x) -/
theorem d_get2 {Q : Value → Shared → Prop} (hu : A.units + 1 < cLine) (I : Inv X pins σ H s) (g : DGet H a y o) (ry : RelV y u) (rd : RelV d r) (h : ∀ w' s', Inv X pins σ H s' → RelV (o.getD d) w' → Q w' s') :
    wpAny (model X.prog X.w) A (call (.builtin "dict.get") [.ref a, u, r]) Q E s := by
  rcases g with ⟨kvs, k, e, ey, l⟩ | ⟨kvs, k, b, e, ey, eb, l⟩
  · subst ey
    obtain ⟨z, hd, vs, rel, dd⟩ := dk_rd I.hok e
    refine call_meetsIn PySem.F.slot_dict_get dd.typeIs PySem.F.entry_dict_get (PySem.F.args_dict_get_3 _ _ _) (meets_dict_get_default (mixKind X.prog X.w) a (kV_is ry) hd r) ⟨_, dd.mapOf, h _ _ (I.tok _) ?_⟩
    rw [l]
    exact (rel.val k).getD rd
  · subst ey
    cases (show u = Value.ref b from ry)
    obtain ⟨z, hd, xs, rel, dd⟩ := dt_rd I.hok e
    refine call_meetsIn PySem.F.slot_dict_get dd.typeIs PySem.F.entry_dict_get (PySem.F.args_dict_get_3 _ _ _) (meetsH_dict_get_default (tupleKind (mixKind X.prog X.w)) a b hd r) ⟨tupleKind_room_in1 hu, k, xs, key_of I.hok eb, dd, h _ _ (I.tok _) ?_⟩
    rw [l]
    exact (rel.val k).getD rd
end

noncomputable def tDGet2 (td ty tx : TE) : TE := fun σ H Q => td σ H fun x H1 => ∃ a, x = .ref a ∧ IsD H1 a ∧ ty σ H1 fun y H2 => tx σ H2 fun z H3 => ∃ o, DGet H3 a y o ∧ Q (o.getD z) H3
section
variable {X : Cx} {o e f : Expr} {apos cpos : Pos} {td ty tx : TE}
theorem pe_dget2 (hu : X.A.units + 1 < cLine) (ho : PE X o td) (he : PE X e ty) (hf : PE X f tx) (m : M2 X o "get" apos e f cpos) : PE X (.Call (.Attribute o "get" apos) [e, f] [] cpos) (tDGet2 td ty tx) := by
  intro pins s σ H Q I h
  refine wpAny_Call_method m.base m.few m.line PySem.F.plainAttrs_dict PySem.F.slot_dict_get PySem.F.type_dict_get (thn (ho pins s σ H _ I h) fun u s1 ⟨x, H1, I1, rx, a, ex, d, q1⟩ => ?_)
  subst ex
  obtain rfl : u = Value.ref a := rx
  obtain ⟨t1, t2, _⟩ := isD_at I1 d
  refine ⟨t1, t2, ?_⟩
  rw [m.trees]
  refine Calls.callWith_builtin rfl (Calls.evalArgs_plain (Calls.spliced_cons (thn (he pins s1 σ H1 _ I1 q1) fun iv s2 ⟨y, H2, I2, ry, q2⟩ =>
    Calls.spliced_cons (thn (hf pins s2 σ H2 _ I2 q2) fun fv s3 ⟨z, H3, I3, rz, ov, g, q3⟩ => Calls.spliced_nil ?_))))
  exact d_get2 hu I3 g ry rz fun w' s4 I4 rw' => ⟨_, H3, I4, rw', q3⟩
end

/-! ### dict(d): a copy -/
section
variable {X : Cx} {pins : List (Addr × Obj)} {σ : St} {H : Hp} {s : Shared} {a : Addr} {kvs : List (Key × V)} {A : Around} {E : Value → Shared → Prop}
end


section
variable {X : Cx} {pins : List (Addr × Obj)} {σ : St} {H : Hp} {s : Shared} {a : Addr} {y : V} {u : Value} {A : Around} {E : Value → Shared → Prop}
end
end L2

namespace L2
open PySem PySem.Spec PyProof.Rows
section
variable {X : Cx}
end
/-! ### a dict's pairs: keys that differ -/
section
variable {κ : Type} [DecidableEq κ]
end
end L2

set_option maxHeartbeats 4000000
/-! The layer of pure data over the hand layer: tuples are data, lists and instances stand in a heap of data. -/
namespace DL
open PySem PySem.Spec PyProof.Rows L2
noncomputable abbrev St := L2.St

/-- a value with its tuples opened -/
inductive D where
  | non | bl (b : Bool) | int (i : Int) | str (x : Str) | ref (a : Addr) | ty (n : String) | tup (ds : List D) | rol (ds : List D)

/-- a list that never changes: the script -/
noncomputable def SqF (K : PySem.W.Frag) (H : Hp) (a : Addr) (xs : List V) : Prop :=
  (∃ o, H a = some (.frz o (.lst xs))) ∨
    ∃ (o : Obj) (its : Array Value) (n : Nat), K.lookup a = some o ∧ o.cls = .type "list" ∧ o.dict = none ∧ o.data = .seq its n ∧ its.size ≤ sizeLine ∧ Vals xs its.toList
theorem SqF.sq {K : PySem.W.Frag} {H : Hp} {a : Addr} {xs : List V} (h : SqF K H a xs) : SqL K H a xs := by
  rcases h with ⟨o, h⟩ | h
  · exact .inl (.inr ⟨o, h⟩)
  · exact .inr h
mutual
inductive Is (K : PySem.W.Frag) (H : Hp) : V → D → Prop where
  | non : Is K H .non .non
  | bl (b : Bool) : Is K H (.bl b) (.bl b)
  | int (i : Int) : Is K H (.int i) (.int i)
  | str (x : Str) : Is K H (.str x) (.str x)
  | ref (a : Addr) : Is K H (.ref a) (.ref a)
  | ty (n : String) : Is K H (.ty n) (.ty n)
  | tup {a : Addr} {xs : List V} {ds : List D} : SqT K H a xs → Iss K H xs ds → Is K H (.ref a) (.tup ds)
  | rol {a : Addr} {xs : List V} {ds : List D} : SqF K H a xs → Iss K H xs ds → Is K H (.ref a) (.rol ds)
inductive Iss (K : PySem.W.Frag) (H : Hp) : List V → List D → Prop where
  | nil : Iss K H [] []
  | cons {x : V} {d : D} {xs : List V} {ds : List D} : Is K H x d → Iss K H xs ds → Iss K H (x :: xs) (d :: ds)
end

/-- what a scalar stands for (a short way to it: the terms stay small) -/
noncomputable def IsV (K : PySem.W.Frag) (H : Hp) (v : V) : D → Prop
  | .non => v = .non
  | .bl b => v = .bl b
  | .int i => v = .int i
  | .str x => v = .str x
  | .ref a => v = .ref a
  | .ty n => v = .ty n
  | d => Is K H v d
theorem Is.inv {K : PySem.W.Frag} {H : Hp} {v : V} {d : D} (h : Is K H v d) : IsV K H v d := by
  cases h <;> first | rfl | (exact .tup ‹_› ‹_›) | (exact .rol ‹_› ‹_›)

/-- the tuples that stood stand, the script too -/
structure Ext0 (K : PySem.W.Frag) (H H' : Hp) : Prop where
  t : ∀ a xs, SqT K H a xs → SqT K H' a xs
  f : ∀ a xs, SqF K H a xs → SqF K H' a xs
/-- and what is known stays known -/
structure Ext (K : PySem.W.Frag) (H H' : Hp) : Prop where
  t : ∀ a xs, SqT K H a xs → SqT K H' a xs
  z : ∀ a o u, H a = some (.frz o u) → H' a = some (.frz o u)
theorem Ext.f {K : PySem.W.Frag} {H H' : Hp} (e : Ext K H H') : ∀ a xs, SqF K H a xs → SqF K H' a xs := fun a xs h => by
  rcases h with ⟨o, h⟩ | h
  · exact .inl ⟨o, e.z _ _ _ h⟩
  · exact .inr h
theorem Ext.e0 {K : PySem.W.Frag} {H H' : Hp} (e : Ext K H H') : Ext0 K H H' := ⟨e.t, e.f⟩
theorem Ext.refl {K : PySem.W.Frag} (H : Hp) : Ext K H H := ⟨fun _ _ h => h, fun _ _ _ h => h⟩
theorem Ext.trans {K : PySem.W.Frag} {H H1 H2 : Hp} (a : Ext K H H1) (b : Ext K H1 H2) : Ext K H H2 := ⟨fun c o h => b.t c o (a.t c o h), fun c o u h => b.z c o u (a.z c o u h)⟩

section
variable {K : PySem.W.Frag} {H H' : Hp}
mutual
theorem Is.mono0 (e : Ext0 K H H') : ∀ {v : V} {d : D}, Is K H v d → Is K H' v d
  | _, _, .non => .non
  | _, _, .bl b => .bl b
  | _, _, .int i => .int i
  | _, _, .str x => .str x
  | _, _, .ref a => .ref a
  | _, _, .ty n => .ty n
  | _, _, .tup h hs => .tup (e.t _ _ h) (Iss.mono0 e hs)
  | _, _, .rol h hs => .rol (e.f _ _ h) (Iss.mono0 e hs)
theorem Iss.mono0 (e : Ext0 K H H') : ∀ {vs : List V} {ds : List D}, Iss K H vs ds → Iss K H' vs ds
  | _, _, .nil => .nil
  | _, _, .cons h t => .cons (Is.mono0 e h) (Iss.mono0 e t)
end
theorem Is.mono (e : Ext K H H') {v : V} {d : D} (h : Is K H v d) : Is K H' v d := h.mono0 e.e0
theorem Iss.mono (e : Ext K H H') {vs : List V} {ds : List D} (h : Iss K H vs ds) : Iss K H' vs ds := h.mono0 e.e0
theorem Iss.length : ∀ {vs : List V} {ds : List D}, Iss K H vs ds → vs.length = ds.length
  | _, _, .nil => rfl
  | _, _, .cons _ t => congrArg (· + 1) (Iss.length t)
theorem Iss.get : ∀ {vs : List V} {ds : List D} {i : Nat} {d : D}, Iss K H vs ds → ds[i]? = some d → ∃ v, vs[i]? = some v ∧ Is K H v d
  | _, _, _, _, .nil, e => by simp at e
  | _, _, 0, _, .cons h _, e => by simp at e; subst e; exact ⟨_, rfl, h⟩
  | _, _, i + 1, d, .cons _ t, e => by
    obtain ⟨u, h1, h2⟩ := Iss.get (i := i) (d := d) t (by simpa using e)
    exact ⟨u, by simpa using h1, h2⟩
theorem Iss.getV : ∀ {vs : List V} {ds : List D} {i : Nat} {v : V}, Iss K H vs ds → vs[i]? = some v → ∃ d, ds[i]? = some d ∧ Is K H v d
  | _, _, _, _, .nil, e => by simp at e
  | _, _, 0, _, .cons h _, e => by simp at e; subst e; exact ⟨_, rfl, h⟩
  | _, _, i + 1, v, .cons _ t, e => by
    obtain ⟨u, h1, h2⟩ := Iss.getV (i := i) (v := v) t (by simpa using e)
    exact ⟨u, by simpa using h1, h2⟩
theorem Iss.append : ∀ {vs ws : List V} {ds es : List D}, Iss K H vs ds → Iss K H ws es → Iss K H (vs ++ ws) (ds ++ es)
  | _, _, _, _, .nil, s => s
  | _, _, _, _, .cons r t, s => .cons r (Iss.append t s)
theorem Iss.take : ∀ {vs : List V} {ds : List D} (n : Nat), Iss K H vs ds → Iss K H (vs.take n) (ds.take n)
  | _, _, 0, _ => .nil
  | _, _, _ + 1, .nil => .nil
  | _, _, n + 1, .cons r t => .cons r (Iss.take n t)
theorem Iss.drop : ∀ {vs : List V} {ds : List D} (n : Nat), Iss K H vs ds → Iss K H (vs.drop n) (ds.drop n)
  | _, _, 0, r => r
  | _, _, _ + 1, .nil => .nil
  | _, _, n + 1, .cons _ t => Iss.drop n t
theorem Iss.set {x : V} {d : D} (r : Is K H x d) : ∀ {vs : List V} {ds : List D} (i : Nat), Iss K H vs ds → Iss K H (vs.set i x) (ds.set i d)
  | _, _, _, .nil => .nil
  | _, _, 0, .cons _ t => .cons r t
  | _, _, i + 1, .cons q t => .cons q (Iss.set r i t)
theorem Iss.dropLast {vs : List V} {ds : List D} (h : Iss K H vs ds) : Iss K H vs.dropLast ds.dropLast := by
  rw [List.dropLast_eq_take, List.dropLast_eq_take, h.length]
  exact h.take _
end

/-- what changes: a list, a dict, an instance, a dict whose keys are tuples of ints and texts (with the hash of its keys) -/
inductive MO where
  | lst (ds : List D) | dic (kvs : List (Key × D)) | fdc (kvs : List (Key × D)) | ins (C dx : Addr) (fs : List (Str × D)) | exc (cls : Value) | tdc (hf : List Key → Int) (kvs : List (List Key × D))
/-- the entries of the dict at a -/
noncomputable def TDic (a : Addr) (hf : List Key → Int) (xs : List (List Key × Addr × Value)) : Heap → Prop := fun h => ∃ o es ep, h.get? a = some o ∧ o.ExactDict ∧ o.data = .dict es ep ∧ es.toList = xs.map (fun x => (⟨hf x.1, .ref x.2.1, x.2.2⟩ : DictEntry))
noncomputable abbrev TDRel (K : PySem.W.Frag) (H : Hp) : List (List Key × D) → List (List Key × Addr × Value) → Prop := Paired fun (q : List Key × D) (x : List Key × Addr × Value) => q.1 = x.1 ∧ SqT K H x.2.1 (q.1.map kV) ∧ ∃ v, RelV v x.2.2 ∧ Is K H v q.2
noncomputable abbrev DH := Addr → Option MO
noncomputable def updM (M : DH) (a : Addr) (o : MO) : DH := fun b => if b = a then some o else M b
theorem updM_same {M : DH} {a : Addr} {o : MO} : updM M a o a = some o := by unfold updM; rw [if_pos rfl]
theorem updM_ne {M : DH} {a b : Addr} {o : MO} (h : b ≠ a) : updM M a o b = M b := by unfold updM; rw [if_neg h]
theorem updM_upd {M : DH} {a : Addr} {o u : MO} : updM (updM M a o) a u = updM M a u := by
  funext b; unfold updM; split <;> rfl

noncomputable def MOk (K : PySem.W.Frag) (H : Hp) (a : Addr) : MO → Prop
  | .lst ds => ∃ xs, H a = some (.lst xs) ∧ Iss K H xs ds
  | .dic kvs => ∃ kx, H a = some (.dK kx) ∧ Paired (fun (p : Key × V) (q : Key × D) => p.1 = q.1 ∧ Is K H p.2 q.2) kx kvs
  | .fdc kvs => ∃ o kx, H a = some (.frz o (.dK kx)) ∧ Paired (fun (p : Key × V) (q : Key × D) => p.1 = q.1 ∧ Is K H p.2 q.2) kx kvs
  | .ins C dx fs => ∃ fx, H a = some (.ins C dx fx) ∧ H dx = some (.own a) ∧ Paired (fun (p : Str × V) (q : Str × D) => p.1 = q.1 ∧ Is K H p.2 q.2) fx fs
  | .exc cls => ∃ φ, H a = some (.ext φ) ∧ ∀ h, φ h → ∃ ob, h.get? a = some ob ∧ ob.cls = cls
  | .tdc hf kvs => ∃ xs, H a = some (.ext (TDic a hf xs)) ∧ TDRel K H kvs xs ∧ (a == sysModules) = false ∧ kvs.length ≤ sizeLine ∧ (kvs.map (·.1)).Nodup
noncomputable def HAbs (K : PySem.W.Frag) (M : DH) (H : Hp) : Prop := ∀ a o, M a = some o → MOk K H a o
/-- a smaller view -/
noncomputable def Sub (M M' : DH) : Prop := ∀ a o, M a = some o → M' a = some o
theorem Sub.refl (M : DH) : Sub M M := fun _ _ h => h
theorem Sub.trans {M M1 M2 : DH} (a : Sub M M1) (b : Sub M1 M2) : Sub M M2 := fun c o h => b c o (a c o h)
theorem Sub.new {M : DH} {p : Addr} {o : MO} (h : M p = none) : Sub M (updM M p o) := fun a u e => by
  rw [updM_ne (by intro z; subst z; rw [h] at e; cases e)]; exact e

section
variable {K : PySem.W.Frag} {M M' : DH} {H H' : Hp} {a p : Addr}
theorem HAbs.sub (h : HAbs K M H) (s : Sub M' M) : HAbs K M' H := fun a o e => h a o (s a o e)
theorem HAbs.free (h : HAbs K M H) (e : H p = none) : M p = none := by
  cases q : M p with
  | none => rfl
  | some o =>
    have z := h p o q
    cases o with
    | lst ds => obtain ⟨xs, z, _⟩ := z; rw [e] at z; cases z
    | dic kvs => obtain ⟨xs, z, _⟩ := z; rw [e] at z; cases z
    | fdc kvs => obtain ⟨o, xs, z, _⟩ := z; rw [e] at z; cases z
    | ins C dx fs => obtain ⟨xs, z, _⟩ := z; rw [e] at z; cases z
    | exc cls => obtain ⟨φ, z, _⟩ := z; rw [e] at z; cases z
    | tdc hf kvs => obtain ⟨xs, z, _⟩ := z; rw [e] at z; cases z
theorem ext_upd {o : HO} (h : ∀ xs, ¬ Rd H p (.tup xs)) (h' : ∀ o u, H p ≠ some (.frz o u)) : Ext K H (upd H p o) := ⟨fun a xs s => by
  rcases s with s | s
  · refine .inl ?_
    have hne : a ≠ p := by intro z; subst z; exact h xs s
    rcases s with s | ⟨u, s⟩
    · exact .inl (by rw [upd_ne hne]; exact s)
    · exact .inr ⟨u, by rw [upd_ne hne]; exact s⟩
  · exact .inr s, fun a u x s => by rw [upd_ne (by intro z; subst z; exact h' u x s)]; exact s⟩
theorem ext_new {o : HO} (h : H p = none) : Ext K H (upd H p o) := ext_upd (fun xs s => by
  rcases s with s | ⟨u, s⟩ <;> rw [h] at s <;> cases s) (fun u xs s => by rw [h] at s; cases s)
/-- a list that is read -/
noncomputable abbrev LstAt (M : DH) (a : Addr) (ds : List D) : Prop := M a = some (.lst ds)
theorem HAbs.lst {ds : List D} (h : HAbs K M H) (e : LstAt M a ds) : ∃ xs, SqL K H a xs ∧ Iss K H xs ds := by
  obtain ⟨xs, h1, h2⟩ := h a _ e; exact ⟨xs, .inl (.inl h1), h2⟩
theorem _root_.PySem.Paired.impP {α β : Type} {F G : α → β → Prop} (f : ∀ a b, F a b → G a b) : ∀ {l₁ : List α} {l₂ : List β}, Paired F l₁ l₂ → Paired G l₁ l₂
  | _, _, .nil => .nil
  | _, _, .cons r t => .cons (f _ _ r) (PySem.Paired.impP f t)
theorem MOk.mono {o : MO} (e : Ext0 K H H') (hk : ∀ u, H a = some u → H' a = some u) (ho : ∀ dx, H dx = some (.own a) → H' dx = some (.own a)) (h : MOk K H a o) : MOk K H' a o := by
  cases o with
  | lst ds => obtain ⟨xs, h1, h2⟩ := h; exact ⟨xs, hk _ h1, h2.mono0 e⟩
  | dic kvs => obtain ⟨xs, h1, h2⟩ := h; exact ⟨xs, hk _ h1, h2.impP fun p q ⟨r1, r2⟩ => ⟨r1, r2.mono0 e⟩⟩
  | fdc kvs => obtain ⟨o, xs, h1, h2⟩ := h; exact ⟨o, xs, hk _ h1, h2.impP fun p q ⟨r1, r2⟩ => ⟨r1, r2.mono0 e⟩⟩
  | ins C dx fs => obtain ⟨xs, h1, h3, h2⟩ := h; exact ⟨xs, hk _ h1, ho _ h3, h2.impP fun p q ⟨r1, r2⟩ => ⟨r1, r2.mono0 e⟩⟩
  | exc cls => obtain ⟨φ, h1, h2⟩ := h; exact ⟨φ, hk _ h1, h2⟩
  | tdc hf kvs => obtain ⟨xs, h1, h2, h3⟩ := h; exact ⟨xs, hk _ h1, h2.impP fun p q ⟨r1, r2, v, r3, r4⟩ => ⟨r1, e.t _ _ r2, v, r3, r4.mono0 e⟩, h3⟩
/-- a new object -/
theorem HAbs.new {o : HO} (h : HAbs K M H) (e : H p = none) : HAbs K M (upd H p o) := fun a u q =>
  (h a u q).mono (ext_new e).e0 (fun v z => by rw [upd_ne (ne_of_none z e)]; exact z) (fun dx z => by rw [upd_ne (ne_of_none z e)]; exact z)
theorem HAbs.newM {o : HO} {m : MO} (h : HAbs K M H) (e : H p = none) (hm : MOk K (upd H p o) p m) : HAbs K (updM M p m) (upd H p o) := fun a u q => by
  by_cases z : a = p
  · subst z; rw [updM_same] at q; cases q; exact hm
  · rw [updM_ne z] at q; exact h.new e a u q
theorem HAbs.newL {es : List D} {ys : List V} (h : HAbs K M H) (e : H p = none) (i : Iss K H ys es) : HAbs K (updM M p (.lst es)) (upd H p (.lst ys)) := h.newM e (show MOk K _ p (.lst es) from ⟨ys, upd_same, i.mono (ext_new e)⟩)
/-- a list is changed -/
theorem HAbs.setL {ds es : List D} {xs ys : List V} (h : HAbs K M H) (e : M p = some (.lst ds)) (hx : H p = some (.lst xs)) (hy : Iss K H ys es) :
    HAbs K (updM M p (.lst es)) (upd H p (.lst ys)) ∧ Ext K H (upd H p (.lst ys)) := by
  have ex : Ext K H (upd H p (.lst ys)) := ext_upd (fun zs s => by rcases s with s | ⟨u, s⟩ <;> rw [hx] at s <;> cases s) (fun u xs s => by rw [hx] at s; cases s)
  refine ⟨fun a u q => ?_, ex⟩
  by_cases z : a = p
  · subst z; rw [updM_same] at q; cases q; exact ⟨ys, upd_same, hy.mono ex⟩
  · rw [updM_ne z] at q
    exact (h a u q).mono ex.e0 (fun v w => by rw [upd_ne z]; exact w) (fun dx w => by rw [upd_ne (ne_of w hx (by intro k; cases k))]; exact w)
end

noncomputable abbrev DSt := List (Option D)
noncomputable abbrev KD := D → DH → Prop
noncomputable abbrev TEd := DSt → DH → KD → Prop
noncomputable abbrev TTd := DSt → DH → (Bool → DH → Prop) → Prop
noncomputable abbrev TAd := DSt → DH → (List D → DH → Prop) → Prop
structure EndsD where
  nx : DSt → DH → Prop
  rt : KD
  bk : DSt → DH → Prop := fun _ _ => False
  ct : DSt → DH → Prop := fun _ _ => False
noncomputable abbrev TSd := EndsD → DSt → DH → Prop

/-- the names' values -/
noncomputable def SAbs (K : PySem.W.Frag) (τ : DSt) (σ : St) (H : Hp) : Prop := τ.length = σ.length ∧ ∀ (i : Nat) d, τ[i]? = some (some d) → ∃ v, σ[i]? = some (some v) ∧ Is K H v d
theorem SAbs.mono0 {K : PySem.W.Frag} {τ : DSt} {σ : St} {H H' : Hp} (e : Ext0 K H H') (h : SAbs K τ σ H) : SAbs K τ σ H' :=
  ⟨h.1, fun i d q => let ⟨v, h1, h2⟩ := h.2 i d q; ⟨v, h1, h2.mono0 e⟩⟩
theorem SAbs.mono {K : PySem.W.Frag} {τ : DSt} {σ : St} {H H' : Hp} (e : Ext K H H') (h : SAbs K τ σ H) : SAbs K τ σ H' := h.mono0 e.e0
theorem SAbs.set {K : PySem.W.Frag} {τ : DSt} {σ : St} {H : Hp} {i : Nat} {v : V} {d : D} (h : SAbs K τ σ H) (r : Is K H v d) : SAbs K (τ.set i (some d)) (σ.set i (some v)) H := by
  refine ⟨by rw [List.length_set, List.length_set]; exact h.1, fun j e q => ?_⟩
  rw [List.getElem?_set] at q
  by_cases hj : i = j
  · subst hj
    rw [if_pos rfl] at q
    by_cases hl : i < τ.length
    · rw [if_pos hl] at q
      cases q
      exact ⟨v, by rw [List.getElem?_set, if_pos rfl, if_pos (by rw [← h.1]; exact hl)], r⟩
    · rw [if_neg hl] at q; cases q
  · rw [if_neg hj] at q
    obtain ⟨u, h1, h2⟩ := h.2 j e q
    exact ⟨u, by rw [List.getElem?_set, if_neg hj]; exact h1, h2⟩

noncomputable def lowQ (K : PySem.W.Frag) (H : Hp) (Q' : KD) (Q : VK) : Prop := ∀ d M1 v H1, HAbs K M1 H1 → Ext K H H1 → Is K H1 v d → Q' d M1 → Q v H1
noncomputable def low (K : PySem.W.Frag) (te : TEd) : TE := fun σ H Q => ∃ τ M Q', SAbs K τ σ H ∧ HAbs K M H ∧ te τ M Q' ∧ lowQ K H Q' Q
noncomputable def lowT (K : PySem.W.Frag) (te : TTd) : TT := fun σ H Q => ∃ τ M Q', SAbs K τ σ H ∧ HAbs K M H ∧ te τ M Q' ∧ ∀ b M1 H1, HAbs K M1 H1 → Ext K H H1 → Q' b M1 → Q b H1
noncomputable def lowA (K : PySem.W.Frag) (te : TAd) : TA := fun σ H Q => ∃ τ M Q', SAbs K τ σ H ∧ HAbs K M H ∧ te τ M Q' ∧ ∀ ds M1 vs H1, HAbs K M1 H1 → Ext K H H1 → Iss K H1 vs ds → Q' ds M1 → Q vs H1
structure LowD (K : PySem.W.Frag) (H : Hp) (D' : EndsD) (D : Ends) : Prop where
  nx : ∀ τ M σ H1, SAbs K τ σ H1 → HAbs K M H1 → Ext K H H1 → D'.nx τ M → D.nx σ H1
  rt : lowQ K H D'.rt D.rt
  bk : ∀ τ M σ H1, SAbs K τ σ H1 → HAbs K M H1 → Ext K H H1 → D'.bk τ M → D.bk σ H1
  ct : ∀ τ M σ H1, SAbs K τ σ H1 → HAbs K M H1 → Ext K H H1 → D'.ct τ M → D.ct σ H1
noncomputable def lowS (K : PySem.W.Frag) (t : TSd) : TS := fun D σ H => ∃ τ M D', SAbs K τ σ H ∧ HAbs K M H ∧ t D' τ M ∧ LowD K H D' D
theorem lowQ.ext {K : PySem.W.Frag} {H H' : Hp} {Q' : KD} {Q : VK} (h : lowQ K H Q' Q) (e : Ext K H H') : lowQ K H' Q' Q := fun d M1 v H1 a b c q => h d M1 v H1 a (e.trans b) c q
theorem LowD.ext {K : PySem.W.Frag} {H H' : Hp} {D' : EndsD} {D : Ends} (h : LowD K H D' D) (e : Ext K H H') : LowD K H' D' D :=
  ⟨fun τ M σ H1 a b c q => h.nx τ M σ H1 a b (e.trans c) q, h.rt.ext e, fun τ M σ H1 a b c q => h.bk τ M σ H1 a b (e.trans c) q, fun τ M σ H1 a b c q => h.ct τ M σ H1 a b (e.trans c) q⟩

section
variable {X : Cx} {e a b c : Expr} {es : List Expr} {pos : Pos}
theorem _root_.L2.PE.imp {t t' : TE} (h : PE X e t) (hi : ∀ σ H Q, t' σ H Q → t σ H Q) : PE X e t' := fun pins s σ H Q I q => h pins s σ H Q I (hi _ _ _ q)
theorem _root_.L2.PT.imp {t t' : TT} (h : PT X e t) (hi : ∀ σ H Q, t' σ H Q → t σ H Q) : PT X e t' := fun pins s σ H Q I q => h pins s σ H Q I (hi _ _ _ q)
theorem _root_.L2.PW.imp {t t' : TT} (h : PW X e t) (hi : ∀ σ H Q, t' σ H Q → t σ H Q) : PW X e t' := fun wh pins s σ H Q I q => h wh pins s σ H Q I (hi _ _ _ q)
theorem _root_.L2.PA.imp {t t' : TA} (h : PA X es t) (hi : ∀ σ H Q, t' σ H Q → t σ H Q) : PA X es t' := fun p pins s σ H Q I q => h p pins s σ H Q I (hi _ _ _ q)
theorem _root_.L2.PS.imp {st : Stmt} {t t' : TS} (h : PS X st t) (hi : ∀ D σ H, t' D σ H → t D σ H) : PS X st t' := fun pins s σ H D I q => h pins s σ H D I (hi _ _ _ q)
theorem _root_.L2.PSs.imp {st : List Stmt} {t t' : TS} (h : PSs X st t) (hi : ∀ D σ H, t' D σ H → t D σ H) : PSs X st t' := fun pins s σ H D I q => h pins s σ H D I (hi _ _ _ q)

/-! ### names, constants -/
noncomputable def onBl : D → (Bool → Prop) → Prop
  | .bl k, Q => Q k
  | _, _ => False
noncomputable def onInt : D → (Int → Prop) → Prop
  | .int i, Q => Q i
  | _, _ => False
noncomputable def onVal : Option (Option D) → (D → Prop) → Prop
  | some (some d), Q => Q d
  | _, _ => False
noncomputable def onSome {α : Type} : Option α → (α → Prop) → Prop
  | some a, Q => Q a
  | none, _ => False
theorem onVal_some {o : Option (Option D)} {Q : D → Prop} (h : onVal o Q) : ∃ d, o = some (some d) ∧ Q d := by
  match o, h with
  | some (some d), h => exact ⟨d, rfl, h⟩
noncomputable def eVar (i : Nat) : TEd := fun τ M Q => onVal τ[i]? fun d => Q d M
noncomputable def eC (d : D) : TEd := fun _ M Q => Q d M
theorem d_var (i : Nat) {x : Str} (hN : X.N[i]? = some x := by rfl) (hv : Vis X.env.scope x := by first | exact Or.inl rfl | exact Or.inr (Or.inl rfl) | exact Or.inr (Or.inr rfl)) (hd : (x == ("__debug__" : Str)) = false := by decide)
    (hcd : (x == ("__classdict__" : Str)) = false := by decide) : PE X (.Name x pos) (low X.K (eVar i)) :=
  (pe_var hN hv hd hcd).imp fun σ H Q ⟨τ, M, Q', hs, hm, h, hq⟩ => by
    obtain ⟨d, hd', h⟩ := onVal_some h
    obtain ⟨v, h1, h2⟩ := hs.2 i d hd'
    exact ⟨v, h1, hq d M v H hm (Ext.refl H) h2 h⟩
theorem low_const {d : D} {v : V} (hv : ∀ H, Is X.K H v d) {σ : St} {H : Hp} {Q : VK} (h : low X.K (eC d) σ H Q) : tC v σ H Q :=
  let ⟨_, M, _, _, hm, q, hq⟩ := h; hq d M v H hm (Ext.refl H) (hv H) q
theorem d_int {i j} : PE X (.Constant (.int i) j pos) (low X.K (eC (.int i))) := pe_int.imp fun _ _ _ h => low_const (fun _ => .int i) h
theorem d_bl {b j} : PE X (.Constant (.bool b) j pos) (low X.K (eC (.bl b))) := pe_bl.imp fun _ _ _ h => low_const (fun _ => .bl b) h
theorem d_str {x j} : PE X (.Constant (.str x) j pos) (low X.K (eC (.str x))) := pe_str.imp fun _ _ _ h => low_const (fun _ => .str x) h
theorem d_glob_int {x : Str} {i : Int} {u : Value} (hg : Gl X x) (hm : X.mg x = some u) (r : ∃ t, u = Value.int i t) (hd : (x == ("__debug__" : Str)) = false := by decide) : PE X (.Name x pos) (low X.K (eC (.int i))) :=
  (pe_glob (v := .int i) hg hm r hd).imp fun _ _ _ h => low_const (fun _ => .int i) h

/-! ### operations of two values -/
noncomputable abbrev RD2 := D → D → DH → KD → Prop
noncomputable def lowR2 (K : PySem.W.Frag) (r : RD2) : R2 := fun vx vy H Q => ∃ x y M Q', Is K H vx x ∧ Is K H vy y ∧ HAbs K M H ∧ r x y M Q' ∧ lowQ K H Q' Q
noncomputable def OpD (X : Cx) (f : Value → Value → Sem Value) (r : RD2) : Prop := OpR X f (lowR2 X.K r)
noncomputable def eOp (r : RD2) (ta tb : TEd) : TEd := fun τ M Q => ta τ M fun x M1 => tb τ M1 fun y M2 => r x y M2 Q
theorem low_op {K : PySem.W.Frag} {r : RD2} {ta tb : TEd} {σ : St} {H : Hp} {Q : VK} (h : low K (eOp r ta tb) σ H Q) : tOp (lowR2 K r) (low K ta) (low K tb) σ H Q := by
  obtain ⟨τ, M, Q', hs, hm, h, hq⟩ := h
  refine ⟨τ, M, _, hs, hm, h, fun x M1 vx H1 m1 e1 i1 h1 => ?_⟩
  refine ⟨τ, M1, _, hs.mono e1, m1, h1, fun y M2 vy H2 m2 e2 i2 h2 => ?_⟩
  exact ⟨x, y, M2, Q', i1.mono e2, i2, m2, h2, hq.ext (e1.trans e2)⟩
variable {ta tb tc : TEd}
theorem d_op {op : Operator} {r : RD2} (ho : OpD X (binaryOp op) r) (ha : PE X a (low X.K ta)) (hb : PE X b (low X.K tb)) : PE X (.BinOp a op b pos) (low X.K (eOp r ta tb)) :=
  (pe_op ho ha hb).imp fun _ _ _ h => low_op h
theorem d_cmp {op : CmpOp} {r : RD2} (ho : OpD X (compareOp op) r) (ha : PE X a (low X.K ta)) (hb : PE X b (low X.K tb)) (hm : behindInMarks op b = false) : PE X (.Compare a [op] [b] pos) (low X.K (eOp r ta tb)) :=
  (pe_cmpR ho ha hb hm).imp fun _ _ _ h => low_op h
/-- a test that is a truth value -/
noncomputable def eTest (t : TEd) : TTd := fun τ M Q => t τ M fun x M' => onBl x fun k => Q k M'
theorem dt_cmp {op : CmpOp} {r : RD2} (ho : OpD X (compareOp op) r) (ha : PE X a (low X.K ta)) (hb : PE X b (low X.K tb)) (hm : behindInMarks op b = false) : PT X (.Compare a [op] [b] pos) (lowT X.K (eTest (eOp r ta tb))) := by
  refine (pt_cmpR ho ha hb hm).imp fun σ H Q h => ?_
  obtain ⟨τ, M, Q', hs, hm', h, hq⟩ := h
  refine low_op ⟨τ, M, _, hs, hm', h, fun d M1 v H1 m1 e1 i1 h1 => ?_⟩
  cases i1 with
  | bl k => exact ⟨k, rfl, hq k M1 H1 m1 e1 h1⟩
  | _ => exact h1.elim
/-- an op1 b op2 c -/
noncomputable def eChain (r r' : RD2) (ta tb tc : TEd) : TEd := fun τ M Q => ta τ M fun x M1 => tb τ M1 fun y M2 => r x y M2 fun z M3 => onBl z fun k => if k = true then tc τ M3 fun w' M4 => r' y w' M4 Q else Q (.bl false) M3
theorem low_chain {K : PySem.W.Frag} {r r' : RD2} {ta tb tc : TEd} {σ : St} {H : Hp} {Q : VK} (h : low K (eChain r r' ta tb tc) σ H Q) : tChain (lowR2 K r) (lowR2 K r') (low K ta) (low K tb) (low K tc) σ H Q := by
  obtain ⟨τ, M, Q', hs, hm, h, hq⟩ := h
  refine ⟨τ, M, _, hs, hm, h, fun x M1 vx H1 m1 e1 i1 h1 => ?_⟩
  refine ⟨τ, M1, _, hs.mono e1, m1, h1, fun y M2 vy H2 m2 e2 i2 h2 => ?_⟩
  refine ⟨x, y, M2, _, i1.mono e2, i2, m2, h2, fun z M3 vz H3 m3 e3 i3 h3 => ?_⟩
  cases i3 with
  | bl k =>
    refine ⟨k, rfl, ?_⟩
    cases k with
    | true =>
      rw [if_pos rfl]
      have h3 : tc τ M3 fun w' M4 => r' y w' M4 Q' := h3
      refine ⟨τ, M3, _, hs.mono (e1.trans (e2.trans e3)), m3, h3, fun w M4 vw H4 m4 e4 i4 h4 => ?_⟩
      exact ⟨y, w, M4, Q', i2.mono (e3.trans e4), i4, m4, h4, hq.ext (e1.trans (e2.trans (e3.trans e4)))⟩
    | false =>
      rw [if_neg Bool.false_ne_true]
      have h3 : Q' (.bl false) M3 := h3
      exact hq _ M3 _ H3 m3 (e1.trans (e2.trans e3)) (.bl false) h3
  | _ => exact h3.elim
theorem d_chain {op op' : CmpOp} {r r' : RD2} (ho : OpD X (compareOp op) r) (ho' : OpD X (compareOp op') r') (ha : PE X a (low X.K ta)) (hb : PE X b (low X.K tb)) (hc : PE X c (low X.K tc))
    (hm : lastMarks [op, op'] [b, c] = false := by with_unfolding_all rfl) : PE X (.Compare a [op, op'] [b, c] pos) (low X.K (eChain r r' ta tb tc)) :=
  (pe_chain ho ho' ha hb hc hm).imp fun _ _ _ h => low_chain h
theorem dt_chain {op op' : CmpOp} {r r' : RD2} (ho : OpD X (compareOp op) r) (ho' : OpD X (compareOp op') r') (ha : PE X a (low X.K ta)) (hb : PE X b (low X.K tb)) (hc : PE X c (low X.K tc))
    (hm : lastMarks [op, op'] [b, c] = false := by with_unfolding_all rfl) : PT X (.Compare a [op, op'] [b, c] pos) (lowT X.K (eTest (eChain r r' ta tb tc))) := by
  refine (pt_chain ho ho' ha hb hc hm).imp fun σ H Q h => ?_
  obtain ⟨τ, M, Q', hs, hm', h, hq⟩ := h
  refine low_chain ⟨τ, M, _, hs, hm', h, fun d M1 v H1 m1 e1 i1 h1 => ?_⟩
  cases i1 with
  | bl k => exact ⟨k, rfl, hq k M1 H1 m1 e1 h1⟩
  | _ => exact h1.elim
end
end DL

/-! Operations, subscripts, calls, statements over data. -/
namespace DL
open PySem PySem.Spec PyProof.Rows L2

section
variable {X : Cx} {e a b c : Expr} {es : List Expr} {pos : Pos} {ta tb tc : TEd}
theorem lowQ.here {K : PySem.W.Frag} {H : Hp} {Q' : KD} {Q : VK} {M : DH} {d : D} {v : V} (hq : lowQ K H Q' Q) (hm : HAbs K M H) (i : Is K H v d) (q : Q' d M) : Q v H := hq d M v H hm (Ext.refl H) i q

/-! ### ints -/
noncomputable def dI (g : Int → Int → D) : D → D → DH → KD → Prop
  | .int i, .int j, M, Q => Q (g i j) M
  | _, _, _, _ => False
noncomputable def dIC (C : Int → Int → Prop) (g : Int → Int → D) : D → D → DH → KD → Prop
  | .int i, .int j, M, Q => C i j ∧ Q (g i j) M
  | _, _, _, _ => False
theorem od_I {f : Value → Value → Sem Value} {g : Int → Int → Int} (h : OpR X f (rI0 fun i j => .int (g i j))) : OpD X f (dI fun i j => .int (g i j)) := by
  intro pins s σ H vx vy v u Q I rx ry ⟨x, y, M, Q', ix, iy, hm, q, hq⟩
  cases ix <;> cases iy <;> first | exact q.elim | exact h pins s σ H _ _ v u Q I rx ry ⟨_, _, rfl, rfl, hq.here hm (.int _) q⟩
theorem od_IC {f : Value → Value → Sem Value} {C : Int → Int → Prop} {g : Int → Int → Int} (h : OpR X f (rI C fun i j => .int (g i j))) : OpD X f (dIC C fun i j => .int (g i j)) := by
  intro pins s σ H vx vy v u Q I rx ry ⟨x, y, M, Q', ix, iy, hm, q, hq⟩
  cases ix <;> cases iy <;> first | exact q.elim | exact h pins s σ H _ _ v u Q I rx ry ⟨_, _, rfl, rfl, q.1, hq.here hm (.int _) q.2⟩
theorem od_B {f : Value → Value → Sem Value} {g : Int → Int → Bool} (h : OpR X f (rI0 fun i j => .bl (g i j))) : OpD X f (dI fun i j => .bl (g i j)) := by
  intro pins s σ H vx vy v u Q I rx ry ⟨x, y, M, Q', ix, iy, hm, q, hq⟩
  cases ix <;> cases iy <;> first | exact q.elim | exact h pins s σ H _ _ v u Q I rx ry ⟨_, _, rfl, rfl, hq.here hm (.bl _) q⟩
theorem od_sub : OpD X (binaryOp .Sub) (dI fun i j => .int (i - j)) := od_I op_sub
theorem od_mod : OpD X (binaryOp .Mod) (dIC (fun _ j => 0 < j) fun i j => .int (i % j)) := od_IC op_mod
theorem od_fdiv : OpD X (binaryOp .FloorDiv) (dIC CDiv fun i j => .int (i / j)) := od_IC op_fdiv
theorem od_pow : OpD X (binaryOp .Pow) (dIC CPow fun i j => .int (i ^ j.toNat)) := od_IC op_pow
theorem od_lt : OpD X (compareOp .Lt) (dI fun i j => .bl (decide (i < j))) := od_B op_lt
theorem od_gt : OpD X (compareOp .Gt) (dI fun i j => .bl (decide (j < i))) := od_B op_gt
/-! ### + -/
theorem cat_tup0 {t b : Addr} {ws : List Value} {prog : Program} {w : World} {A : Around} {E : Value → Shared → Prop} {s : Shared} {Q : Value → Shared → Prop} (ht : IsTup s.heap t #[]) (hb : IsTup s.heap b ws.toArray)
    (h : Q (.ref b) s) : wpAny (model prog w) A (binaryOp .Add (.ref t) (.ref b)) Q E s := by
  obtain ⟨⟨cls, dd, data, sl⟩, ho, hc, n, hd⟩ := id ht
  obtain ⟨⟨cls2, dd2, data2, sl2⟩, ho2, hc2, n2, hd2⟩ := id hb
  simp only at hc hd hc2 hd2
  subst hc hd hc2 hd2
  exact concat_meets ⟨_, ho, rfl⟩ ⟨_, ho2, rfl⟩ noFill_tuple_add seq_tuple_add PySem.F.slot_tuple_add PySem.F.entry_tuple_add (PySem.F.args_tuple_add_2 _ _)
      (tuple_addW0 t b #[] ws.toArray n n2 dd dd2 sl sl2 (by simp)) ⟨ho, ho2, h⟩
noncomputable def addD : D → D → DH → KD → Prop
  | .int i, .int j, M, Q => Q (.int (i + j)) M
  | .str i, .str j, M, Q => i.length + j.length ≤ sizeLine ∧ Q (.str (i ++ j)) M
  | .tup xs, .tup ys, M, Q => xs.length + ys.length ≤ sizeLine ∧ Q (.tup (xs ++ ys)) M
  | .ref l, .ref r, M, Q => ∃ xs ys, LstAt M l xs ∧ LstAt M r ys ∧ xs.length + ys.length ≤ sizeLine ∧ ∀ p, M p = none → Q (.ref p) (updM M p (.lst (xs ++ ys)))
  | .rol xs, .ref r, M, Q => ∃ ys, LstAt M r ys ∧ xs.length + ys.length ≤ sizeLine ∧ ∀ p, M p = none → Q (.ref p) (updM M p (.lst (xs ++ ys)))
  | _, _, _, _ => False
theorem add_lists {pins : List (Addr × Obj)} {σ : St} {H : Hp} {s : Shared} {M : DH} {Q' : KD} {Q : VK} {l r : Addr} {us ws : List V} {xs ys : List D} (I : Inv X pins σ H s) (hm : HAbs X.K M H) (hu : SqL X.K H l us) (i1 : Iss X.K H us xs) (hw : SqL X.K H r ws) (i2 : Iss X.K H ws ys)
    (hz : xs.length + ys.length ≤ sizeLine) (q : ∀ p, M p = none → Q' (.ref p) (updM M p (.lst (xs ++ ys)))) (hq : lowQ X.K H Q' Q) : wpAny (model X.prog X.w) X.A (binaryOp .Add (.ref l) (.ref r)) (EP X pins σ Q) X.xe s := by
  obtain ⟨its, r1, p1, _⟩ := I.list hu
  obtain ⟨its2, r2, p2, _⟩ := I.list hw
  obtain ⟨⟨cls, dd, data, sl⟩, ho, hc, n, hd⟩ := p1.isList
  obtain ⟨⟨cls2, dd2, data2, sl2⟩, ho2, hc2, n2, hd2⟩ := p2.isList
  simp only at hc hd hc2 hd2
  subst hc hd hc2 hd2
  have hz' : its.toArray.size + its2.toArray.size ≤ sizeLine := by
    rw [List.size_toArray, List.size_toArray, ← r1.length, ← r2.length, i1.length, i2.length]; exact hz
  have ea : its.toArray ++ its2.toArray = (its ++ its2).toArray := by simp
  refine concat_meets ⟨_, ho, rfl⟩ ⟨_, ho2, rfl⟩ noFill_list_add seq_list_add PySem.F.slot_list_add PySem.F.entry_list_add (PySem.F.args_list_add_2 _ _) (list_addW l r its.toArray its2.toArray n n2 dd dd2 sl sl2 hz') ⟨ho, ho2, ?_⟩
  rw [ea]
  have hf : H s.heap.objs.size = none := I.fresh
  refine ⟨.ref _, _, I.lnew (t' := s.toks) (r1.append r2) (by rw [List.length_append, i1.length, i2.length]; exact hz), rfl, ?_⟩
  exact hq _ _ _ _ (hm.newL hf (i1.append i2)) (ext_new hf) (.ref _) (q _ (hm.free hf))
theorem od_add : OpD X (binaryOp .Add) addD := by
  intro pins s σ H vx vy v u Q I rx ry ⟨x, y, M, Q', ix, iy, hm, q, hq⟩
  cases ix with
  | int i => cases iy with
    | int j => exact op_add pins s σ H _ _ v u Q I rx ry ⟨_, _, rfl, rfl, hq.here hm (.int _) q⟩
    | _ => exact q.elim
  | str i => cases iy with
    | str j => exact op_add_str pins s σ H _ _ v u Q I rx ry ⟨_, _, rfl, rfl, q.1, hq.here hm (.str _) q.2⟩
    | _ => exact q.elim
  | @tup a xs ds hx hxs => cases iy with
    | @tup b ys es hy hys =>
      obtain ⟨hz, q⟩ := q
      have hz' : xs.length + ys.length ≤ sizeLine := by rw [hxs.length, hys.length]; exact hz
      by_cases h0 : xs = []
      · subst h0
        cases hxs
        cases rx
        cases ry
        obtain ⟨its, r1, p1, _⟩ := I.tuple hx
        obtain ⟨its2, r2, p2, _⟩ := I.tuple hy
        cases r1
        exact cat_tup0 p1 p2 ⟨.ref b, H, I, rfl, hq.here hm (.tup hy hys) q⟩
      · refine op_catT pins s σ H _ _ v u Q I rx ry ⟨a, b, xs, ys, rfl, rfl, hx, hy, h0, hz', fun z => ?_, fun z p hp => ?_⟩
        · subst z
          cases hys
          rw [List.append_nil] at q
          exact hq.here hm (.tup hx hxs) q
        · exact hq _ M _ _ (hm.new hp) (ext_new hp) (.tup (SqT.of upd_same) ((hxs.append hys).mono (ext_new hp))) q
    | _ => exact q.elim
  | ref l => cases iy with
    | ref r =>
      obtain ⟨xs, ys, hl, hr, hz, q⟩ := q
      cases rx
      cases ry
      obtain ⟨us, hu, i1⟩ := hm.lst hl
      obtain ⟨ws, hw, i2⟩ := hm.lst hr
      exact add_lists I hm hu i1 hw i2 hz q hq
    | _ => exact q.elim
  | rol h hxs => cases iy with
    | ref r =>
      obtain ⟨ys, hr, hz, q⟩ := q
      cases rx
      cases ry
      obtain ⟨ws, hw, i2⟩ := hm.lst hr
      exact add_lists I hm h.sq hxs hw i2 hz q hq
    | _ => exact q.elim
  | _ => exact q.elim

/-! ### * : ints -/
/-! ### == -/
mutual
noncomputable def D.eq : D → D → Bool
  | .non, .non => true
  | .bl a, .bl b => a == b
  | .bl a, .int j => (if a then 1 else 0) == j
  | .int i, .bl b => i == (if b then 1 else 0)
  | .int i, .int j => i == j
  | .str x, .str y => x == y
  | .tup xs, .tup ys => D.eqs xs ys
  | _, _ => false
noncomputable def D.eqs : List D → List D → Bool
  | [], [] => true
  | x :: xs, y :: ys => D.eq x y && D.eqs xs ys
  | _, _ => false
end
mutual
/-- how deep tuples stand in one another -/
noncomputable def D.dep : D → Nat
  | .tup ds => D.deps ds + 1
  | _ => 0
noncomputable def D.deps : List D → Nat
  | [] => 0
  | d :: ds => max (D.dep d) (D.deps ds)
end
mutual
/-- no list within -/
noncomputable def D.pure : D → Bool
  | .ref _ => false
  | .tup ds => D.pures ds
  | _ => true
noncomputable def D.pures : List D → Bool
  | [] => true
  | d :: ds => D.pure d && D.pures ds
end
end
end DL

/-! == and != of data. -/
namespace DL
open PySem PySem.Spec PyProof.Rows L2

/-- scalars -/
@[simp] noncomputable def D.plain : D → Bool
  | .non => true
  | .bl _ => true
  | .int _ => true
  | .str _ => true
  | _ => false
theorem nof {P : Prop} (h : false = true) : P := nomatch h
mutual
/-- the pairs that are compared here: scalars with scalars, tuples with tuples -/
noncomputable def D.eqOk : D → D → Bool
  | .tup xs, .tup ys => D.eqOks xs ys
  | x, y => x.plain && y.plain
noncomputable def D.eqOks : List D → List D → Bool
  | x :: xs, y :: ys => D.eqOk x y && D.eqOks xs ys
  | _, _ => true
end
noncomputable def pairEq (xs ys : List D) (j : Nat) : Bool := match xs[j]?, ys[j]? with
  | some x, some y => D.eq x y
  | _, _ => true
theorem eqs_all : ∀ xs ys : List D, ((List.range (min xs.length ys.length)).all (pairEq xs ys) && xs.length == ys.length) = D.eqs xs ys
  | [], [] => rfl
  | [], y :: ys => rfl
  | x :: xs, [] => rfl
  | x :: xs, y :: ys => by
    have ih := eqs_all xs ys
    have e1 : min (x :: xs).length (y :: ys).length = min xs.length ys.length + 1 := by simp [Nat.succ_min_succ]
    rw [e1, List.range_succ_eq_map, List.all_cons, List.all_map]
    have e2 : (pairEq (x :: xs) (y :: ys)) ∘ Nat.succ = pairEq xs ys := by funext j; simp [pairEq]
    rw [e2]
    have e3 : pairEq (x :: xs) (y :: ys) 0 = D.eq x y := rfl
    have e4 : ((x :: xs).length == (y :: ys).length) = (xs.length == ys.length) := by simp
    rw [e3, e4, Bool.and_assoc, ih]
    rfl
theorem eqOks_get : ∀ {xs ys : List D} {j : Nat} {x y : D}, D.eqOks xs ys = true → xs[j]? = some x → ys[j]? = some y → D.eqOk x y = true
  | x :: xs, y :: ys, 0, _, _, h, e1, e2 => by
    simp at e1 e2; subst e1 e2
    simp only [D.eqOks, Bool.and_eq_true] at h; exact h.1
  | x :: xs, y :: ys, j + 1, _, _, h, e1, e2 => by
    simp only [D.eqOks, Bool.and_eq_true] at h
    exact eqOks_get (j := j) h.2 (by simpa using e1) (by simpa using e2)
  | [], _, _, _, _, _, e1, _ => by simp at e1
  | _ :: _, [], _, _, _, _, _, e2 => by simp at e2
theorem deps_get : ∀ {xs : List D} {j : Nat} {x : D}, xs[j]? = some x → D.dep x ≤ D.deps xs
  | x :: xs, 0, _, e => by simp at e; subst e; simp only [D.deps]; omega
  | x :: xs, j + 1, _, e => by
    have := deps_get (xs := xs) (j := j) (by simpa using e)
    simp only [D.deps]; omega
  | [], _, _, e => by simp at e
theorem eq_refl_aux : ∀ n : Nat, (∀ d d' : D, D.dep d ≤ n → D.eqOk d d' = true → d = d' → D.eq d d' = true) := by
  intro n
  induction n with
  | zero =>
    intro d d' h ok e
    subst e
    cases d with
    | tup ds => simp [D.dep] at h
    | ref a => exact nof ok
    | ty a => exact nof ok
    | rol a => exact nof ok
    | non => rfl
    | bl b => exact decide_eq_true rfl
    | int i => exact decide_eq_true rfl
    | str x => exact decide_eq_true rfl
  | succ n ih =>
    intro d d' h ok e
    subst e
    cases d with
    | tup ds =>
      simp only [D.dep] at h
      replace ok : D.eqOks ds ds = true := ok
      show D.eqs ds ds = true
      have : ∀ xs : List D, D.deps xs ≤ n → D.eqOks xs xs = true → D.eqs xs xs = true := by
        intro xs
        induction xs with
        | nil => intros; rfl
        | cons x xs ihx =>
          intro h1 h2
          simp only [D.deps] at h1
          simp only [D.eqOks, Bool.and_eq_true] at h2
          exact Bool.and_eq_true_iff.mpr ⟨ih x x (by omega) h2.1 rfl, ihx (by omega) h2.2⟩
      exact this ds (by omega) ok
    | ref a => exact nof ok
    | ty a => exact nof ok
    | rol a => exact nof ok
    | non => rfl
    | bl b => exact decide_eq_true rfl
    | int i => exact decide_eq_true rfl
    | str x => exact decide_eq_true rfl
mutual
theorem Is.inj' {X : Cx} {pins : List (Addr × Obj)} {σ : St} {H : Hp} {s : Shared} (I : Inv X pins σ H s) : ∀ (d : D) {v : V} {d' : D}, Is X.K H v d → Is X.K H v d' → D.eqOk d d' = true → d = d'
  | .non, _, _, i, j, _ => by cases i; cases j; rfl
  | .bl _, _, _, i, j, _ => by cases i; cases j; rfl
  | .int _, _, _, i, j, _ => by cases i; cases j; rfl
  | .str _, _, _, i, j, _ => by cases i; cases j; rfl
  | .ref _, _, _, _, _, h => nof h
  | .ty _, _, _, _, _, h => nof h
  | .rol _, _, _, _, _, h => nof h
  | .tup ds, _, _, i, j, h => by
    cases i with
    | tup h1 i1 => cases j with
      | tup h2 i2 =>
        cases I.tuple_inj h1 h2
        exact congrArg D.tup (Iss.inj' I ds i1 i2 h)
      | ref _ => exact nof h
      | rol _ _ => exact nof h
theorem Iss.inj' {X : Cx} {pins : List (Addr × Obj)} {σ : St} {H : Hp} {s : Shared} (I : Inv X pins σ H s) : ∀ (ds : List D) {vs : List V} {es : List D}, Iss X.K H vs ds → Iss X.K H vs es → D.eqOks ds es = true → ds = es
  | [], _, _, i, j, _ => by cases i; cases j; rfl
  | d :: ds, _, _, i, j, h => by
    cases i with
    | cons i1 t1 => cases j with
      | cons i2 t2 =>
        have h := Bool.and_eq_true_iff.mp h
        rw [Is.inj' I d i1 i2 h.1, Iss.inj' I ds t1 t2 h.2]
end
theorem Is.inj {X : Cx} {pins : List (Addr × Obj)} {σ : St} {H : Hp} {s : Shared} (I : Inv X pins σ H s) {v : V} {d d' : D} (i : Is X.K H v d) (j : Is X.K H v d') (h : D.eqOk d d' = true) : d = d' := Is.inj' I d i j h
noncomputable def D.sv : D → V
  | .bl b => .bl b
  | .int i => .int i
  | .str x => .str x
  | _ => .non
theorem Is.sv {K : PySem.W.Frag} {H : Hp} {v : V} {d : D} (i : Is K H v d) (p : d.plain = true) : v = d.sv ∧ flatV d.sv = true := by
  cases i <;> first | exact ⟨rfl, rfl⟩ | exact nof p
theorem sv_eq : ∀ d d' : D, d.plain = true → d'.plain = true → eqV d.sv d'.sv = D.eq d d' := by
  intro d d' p p'
  cases d <;> first | exact nof p | (cases d' <;> first | exact nof p' | rfl)
theorem eqOk_plain {d d' : D} (ok : D.eqOk d d' = true) (nt : D.dep d = 0) : d.plain = true ∧ d'.plain = true := by
  cases d <;> first | exact Bool.and_eq_true_iff.mp ok | exact absurd nt (Nat.succ_ne_zero _)
theorem flat_eq {K : PySem.W.Frag} {H : Hp} {v v' : V} {d d' : D} (i : Is K H v d) (i' : Is K H v' d') (ok : D.eqOk d d' = true) (nt : D.dep d = 0) : flatV v = true ∧ flatV v' = true ∧ eqV v v' = D.eq d d' := by
  obtain ⟨p, p'⟩ := eqOk_plain ok nt
  obtain ⟨e, f⟩ := i.sv p
  obtain ⟨e', f'⟩ := i'.sv p'
  rw [e, e']
  exact ⟨f, f', sv_eq d d' p p'⟩
theorem in1_units (A : Around) : A.in1.units = A.units + 1 := rfl
theorem eqAt_D {X : Cx} {pins : List (Addr × Obj)} {σ : St} {H : Hp} {s : Shared} (I : Inv X pins σ H s) : ∀ (n : Nat) (d d' : D) (A : Around) (v v' : V) (u u' : Value), D.dep d ≤ n → A.units + n < cLine → D.eqOk d d' = true →
    Is X.K H v d → Is X.K H v' d' → RelV v u → RelV v' u' → SeqAt.EqAt A s u u' (D.eq d d') ∧ (D.dep d ≠ 0 → SeqAt.RcAt A s u u' (D.eq d d') ∧ SeqAt.RcNeAt A s u u' (!D.eq d d')) := by
  intro n
  induction n with
  | zero =>
    intro d d' A v v' u u' hd hu ok i i' r r'
    obtain ⟨f1, f2, f3⟩ := flat_eq i i' ok (by omega)
    rw [← f3]
    exact ⟨eqAt_V r r' f1 f2, fun z => absurd (by omega) z⟩
  | succ n ih =>
    intro d d' A v v' u u' hd hu ok i i' r r'
    by_cases h0 : D.dep d = 0
    · obtain ⟨f1, f2, f3⟩ := flat_eq i i' ok h0
      rw [← f3]
      exact ⟨eqAt_V r r' f1 f2, fun z => absurd h0 z⟩
    · cases i with
      | @tup a xs ds hx hxs =>
        cases i' with
        | @tup b ys es hy hys =>
          cases r
          cases r'
          obtain ⟨its, r1, p1, _⟩ := I.tuple hx
          obtain ⟨its2, r2, p2, _⟩ := I.tuple hy
          have n1 : its.toArray.size = ds.length := by rw [List.size_toArray, ← r1.length, hxs.length]
          have n2 : its2.toArray.size = es.length := by rw [List.size_toArray, ← r2.length, hys.length]
          simp only [D.dep] at hd
          have he : ∀ j (h1 : j < its.toArray.size) (h2 : j < its2.toArray.size), SeqAt.EqAt A.in1 s its.toArray[j] its2.toArray[j] (pairEq ds es j) := by
            intro j h1 h2
            have q1 : ds[j]? = some ds[j] := List.getElem?_eq_getElem (by omega)
            have q2 : es[j]? = some es[j] := List.getElem?_eq_getElem (by omega)
            obtain ⟨x, ex, ix⟩ := hxs.get q1
            obtain ⟨y, ey, iy⟩ := hys.get q2
            obtain ⟨ux, eu, ru⟩ := r1.get ex
            obtain ⟨uy, ew, rw'⟩ := r2.get ey
            have g1 : its.toArray[j] = ux := by
              have : its[j]? = some its[j] := List.getElem?_eq_getElem (by simpa using h1)
              rw [this] at eu; simpa using eu
            have g2 : its2.toArray[j] = uy := by
              have : its2[j]? = some its2[j] := List.getElem?_eq_getElem (by simpa using h2)
              rw [this] at ew; simpa using ew
            rw [g1, g2]
            have pe : pairEq ds es j = D.eq ds[j] es[j] := by unfold pairEq; rw [q1, q2]
            rw [pe]
            have dg := deps_get q1
            exact (ih _ _ A.in1 x y ux uy (by omega) (by rw [in1_units]; omega) (eqOks_get (show D.eqOks ds es = true from ok) q1 q2) ix iy ru rw').1
          have hrc : SeqAt.RcAt A s (.ref a) (.ref b) (D.eqs ds es) := by
            rw [← eqs_all ds es, ← n1, ← n2]
            exact SeqAt.RcAt.tuples p1 p2 (by omega) he
          have hne : SeqAt.RcNeAt A s (.ref a) (.ref b) (!D.eqs ds es) := by
            rw [← eqs_all ds es, ← n1, ← n2]
            exact SeqAt.RcNeAt.tuples p1 p2 (by omega) he
          refine ⟨?_, fun _ => ⟨hrc, hne⟩⟩
          by_cases hab : a = b
          · subst hab
            have e := Is.inj I (.tup hx hxs) (.tup hy hys) ok
            rw [eq_refl_aux _ _ _ (Nat.le_refl _) ok e]
            exact SeqAt.EqAt.same _
          · exact SeqAt.EqAt.of_refs hab hrc
        | _ => exact nof ok
      | _ => exact absurd rfl h0

section
variable {X : Cx}
/-- ==; of two lists only against an empty one -/
noncomputable def eqD : D → D → DH → KD → Prop
  | .ref l, .ref r, M, Q => ∃ xs ys, LstAt M l xs ∧ LstAt M r ys ∧ (xs = [] ∨ ys = []) ∧ Q (.bl (xs.isEmpty && ys.isEmpty)) M
  | .tup xs, .tup ys, M, Q => D.eqOks xs ys = true ∧ D.deps xs ≤ 150 ∧ Q (.bl (D.eqs xs ys)) M
  | .int i, .int j, M, Q => Q (.bl (decide (i = j))) M
  | .str i, .str j, M, Q => Q (.bl (decide (i = j))) M
  | .bl i, .bl j, M, Q => Q (.bl (decide (i = j))) M
  | .non, .non, M, Q => Q (.bl true) M
  | _, _, _, _ => False
noncomputable def neD : D → D → DH → KD → Prop
  | .ref l, .ref r, M, Q => ∃ xs ys, LstAt M l xs ∧ LstAt M r ys ∧ (xs = [] ∨ ys = []) ∧ Q (.bl (!(xs.isEmpty && ys.isEmpty))) M
  | .tup xs, .tup ys, M, Q => D.eqOks xs ys = true ∧ D.deps xs ≤ 150 ∧ Q (.bl (!D.eqs xs ys)) M
  | .int i, .int j, M, Q => Q (.bl (!decide (i = j))) M
  | .str i, .str j, M, Q => Q (.bl (!decide (i = j))) M
  | .bl i, .bl j, M, Q => Q (.bl (!decide (i = j))) M
  | _, _, _, _ => False
theorem dV_int {i j : Int} : decide (V.int i = V.int j) = decide (i = j) := by by_cases h : i = j <;> simp [h]
theorem dV_str {i j : Str} : decide (V.str i = V.str j) = decide (i = j) := by by_cases h : i = j <;> simp [h]
theorem dV_bl {i j : Bool} : decide (V.bl i = V.bl j) = decide (i = j) := by by_cases h : i = j <;> simp [h]
theorem list_two {xs ys : List D} (h : xs = [] ∨ ys = []) : (xs.length = ys.length ∧ xs = [] ∧ ys = []) ∨ (xs.length ≠ ys.length ∧ (xs.isEmpty && ys.isEmpty) = false) := by
  cases xs with
  | nil => cases ys with
    | nil => exact .inl ⟨rfl, rfl, rfl⟩
    | cons y ys => exact .inr ⟨by simp, rfl⟩
  | cons x xs => cases ys with
    | nil => exact .inr ⟨by simp, rfl⟩
    | cons y ys => rcases h with h | h <;> cases h
theorem od_eq {k : Nat} (hr : Room k X.A) : OpD X (compareOp .Eq) eqD := by
  intro pins s σ H vx vy v u Q I rx ry ⟨x, y, M, Q', ix, iy, hm, q, hq⟩
  have hu : X.A.units + 200 < cLine := by have := hr.un; omega
  cases ix with
  | non => cases iy with
    | non => exact op_eq pins s σ H _ _ v u Q I rx ry ⟨rfl, hq.here hm (.bl _) (by have q' : Q' (.bl true) M := q; simpa using q')⟩
    | _ => exact q.elim
  | int i => cases iy with
    | int j => exact op_eq pins s σ H _ _ v u Q I rx ry ⟨rfl, hq.here hm (.bl _) (by rw [dV_int]; exact q)⟩
    | _ => exact q.elim
  | str i => cases iy with
    | str j => exact op_eq pins s σ H _ _ v u Q I rx ry ⟨rfl, hq.here hm (.bl _) (by rw [dV_str]; exact q)⟩
    | _ => exact q.elim
  | bl i => cases iy with
    | bl j => exact op_eq pins s σ H _ _ v u Q I rx ry ⟨rfl, hq.here hm (.bl _) (by rw [dV_bl]; exact q)⟩
    | _ => exact q.elim
  | ty n => exact q.elim
  | rol h hxs => cases iy <;> exact q.elim
  | @tup a xs ds hx hxs => cases iy with
    | @tup b ys es hy hys =>
      obtain ⟨ok, dp, q⟩ := q
      have z := (eqAt_D I 151 (.tup ds) (.tup es) X.A (.ref a) (.ref b) v u (Nat.succ_le_succ dp) (by omega) ok (.tup hx hxs) (.tup hy hys) rx ry).2 (Nat.succ_ne_zero _)
      exact z.1 _ _ _ _ ⟨.bl _, H, I, rfl, hq.here hm (.bl _) q⟩
    | _ => exact q.elim
  | ref l => cases iy with
    | ref r =>
      obtain ⟨xs, ys, hl, hr', hz, q⟩ := q
      cases rx
      cases ry
      obtain ⟨us, hu1, i1⟩ := hm.lst hl
      obtain ⟨ws, hw, i2⟩ := hm.lst hr'
      obtain ⟨its, r1, p1, _⟩ := I.list hu1
      obtain ⟨its2, r2, p2, _⟩ := I.list hw
      have n1 : its.toArray.size = xs.length := by rw [List.size_toArray, ← r1.length, i1.length]
      have n2 : its2.toArray.size = ys.length := by rw [List.size_toArray, ← r2.length, i2.length]
      rcases list_two hz with ⟨he, h1, h2⟩ | ⟨hn, hb⟩
      · subst h1 h2
        refine SeqAt.eq_listAt (e := fun _ => true) p1.isList p2.isList (by rw [n1, n2]) (by omega) (fun j h1 => absurd h1 (by rw [n1]; simp)) ⟨.bl _, H, I, rfl, hq.here hm (.bl _) ?_⟩
        rw [n1]
        simpa using q
      · rw [hb] at q
        exact SeqAt.eq_list_lengthsAt p1.isList p2.isList (by rw [n1, n2]; simpa using hn) (by omega) ⟨.bl _, H, I, rfl, hq.here hm (.bl _) q⟩
    | _ => exact q.elim
theorem od_ne {k : Nat} (hr : Room k X.A) : OpD X (compareOp .NotEq) neD := by
  intro pins s σ H vx vy v u Q I rx ry ⟨x, y, M, Q', ix, iy, hm, q, hq⟩
  have hu : X.A.units + 200 < cLine := by have := hr.un; omega
  cases ix with
  | non => exact q.elim
  | int i => cases iy with
    | int j => exact op_ne pins s σ H _ _ v u Q I rx ry ⟨rfl, hq.here hm (.bl _) (by rw [dV_int]; exact q)⟩
    | _ => exact q.elim
  | str i => cases iy with
    | str j => exact op_ne pins s σ H _ _ v u Q I rx ry ⟨rfl, hq.here hm (.bl _) (by rw [dV_str]; exact q)⟩
    | _ => exact q.elim
  | bl i => cases iy with
    | bl j => exact op_ne pins s σ H _ _ v u Q I rx ry ⟨rfl, hq.here hm (.bl _) (by rw [dV_bl]; exact q)⟩
    | _ => exact q.elim
  | ty n => exact q.elim
  | rol h hxs => cases iy <;> exact q.elim
  | @tup a xs ds hx hxs => cases iy with
    | @tup b ys es hy hys =>
      obtain ⟨ok, dp, q⟩ := q
      have z := (eqAt_D I 151 (.tup ds) (.tup es) X.A (.ref a) (.ref b) v u (Nat.succ_le_succ dp) (by omega) ok (.tup hx hxs) (.tup hy hys) rx ry).2 (Nat.succ_ne_zero _)
      exact z.2 _ _ _ _ ⟨.bl _, H, I, rfl, hq.here hm (.bl _) q⟩
    | _ => exact q.elim
  | ref l => cases iy with
    | ref r =>
      obtain ⟨xs, ys, hl, hr', hz, q⟩ := q
      cases rx
      cases ry
      obtain ⟨us, hu1, i1⟩ := hm.lst hl
      obtain ⟨ws, hw, i2⟩ := hm.lst hr'
      obtain ⟨its, r1, p1, _⟩ := I.list hu1
      obtain ⟨its2, r2, p2, _⟩ := I.list hw
      have n1 : its.toArray.size = xs.length := by rw [List.size_toArray, ← r1.length, i1.length]
      have n2 : its2.toArray.size = ys.length := by rw [List.size_toArray, ← r2.length, i2.length]
      rcases list_two hz with ⟨he, h1, h2⟩ | ⟨hn, hb⟩
      · subst h1 h2
        refine SeqAt.RcNeAt.lists (e := fun _ => true) p1.isList p2.isList (by rw [n1, n2]) (by omega) (fun j h1 => absurd h1 (by rw [n1]; simp)) _ _ _ _ ⟨.bl _, H, I, rfl, hq.here hm (.bl _) ?_⟩
        rw [n1]
        simpa using q
      · rw [hb] at q
        exact SeqAt.RcNeAt.lists_lengths p1.isList p2.isList (by rw [n1, n2]; simpa using hn) (by omega) _ _ _ _ ⟨.bl _, H, I, rfl, hq.here hm (.bl _) q⟩
    | _ => exact q.elim
end
end DL

/-! Displays, calls, subscripts, slices over data. -/
namespace DL
open PySem PySem.Spec PyProof.Rows L2

section
variable {X : Cx} {e a b c : Expr} {es : List Expr} {pos : Pos} {ta tb tc te : TEd} {t : TAd}
/-! ### arguments -/
noncomputable def eNil : TAd := fun _ M Q => Q [] M
noncomputable def eCons (ta : TEd) (tr : TAd) : TAd := fun τ M Q => ta τ M fun x M1 => tr τ M1 fun xs M2 => Q (x :: xs) M2
theorem a_nil : PA X [] (lowA X.K eNil) := pa_nil.imp fun σ H Q ⟨τ, M, Q', hs, hm, h, hq⟩ => hq [] M [] H hm (Ext.refl H) .nil h
theorem a_cons (ha : PE X e (low X.K te)) (hr : PA X es (lowA X.K t)) (hs : starEach (e :: es) X.env = (false, eval e X.env) :: starEach es X.env := by rfl) : PA X (e :: es) (lowA X.K (eCons te t)) :=
  (pa_cons ha hr hs).imp fun σ H Q ⟨τ, M, Q', hs, hm, h, hq⟩ =>
    ⟨τ, M, _, hs, hm, h, fun x M1 vx H1 m1 e1 i1 h1 => ⟨τ, M1, _, hs.mono e1, m1, h1, fun xs M2 vs H2 m2 e2 i2 h2 => hq (x :: xs) M2 (vx :: vs) H2 m2 (e1.trans e2) (.cons (i1.mono e2) i2) h2⟩⟩
/-! ### displays -/
noncomputable def eTup (t : TAd) : TEd := fun τ M Q => t τ M fun xs M1 => if xs.length ≤ 1000 then Q (.tup xs) M1 else False
noncomputable def eLst (t : TAd) : TEd := fun τ M Q => t τ M fun xs M1 => if xs.length ≤ 1000 then ∀ p, M1 p = none → Q (.ref p) (updM M1 p (.lst xs)) else False
theorem line1000 {n : Nat} (h : n ≤ 1000) : n ≤ sizeLine := Nat.le_of_lt (small1000 h)
theorem d_tup {x1} (h : PA X es (lowA X.K t)) : PE X (.Tuple es x1 pos) (low X.K (eTup t)) :=
  (pe_tup h).imp fun σ H Q ⟨τ, M, Q', hs, hm, h, hq⟩ => ⟨τ, M, _, hs, hm, h, fun xs M1 vs H1 m1 e1 i1 h1 => by
    by_cases hl : xs.length ≤ 1000
    · rw [if_pos hl] at h1
      refine ⟨by rw [i1.length]; exact line1000 hl, fun p hp => ?_⟩
      exact hq _ M1 _ _ (m1.new hp) (e1.trans (ext_new hp)) (.tup (SqT.of upd_same) (i1.mono (ext_new hp))) h1
    · rw [if_neg hl] at h1; exact h1.elim⟩
theorem d_lst (h : PA X es (lowA X.K t)) : PE X (.List es pos) (low X.K (eLst t)) :=
  (pe_lst h).imp fun σ H Q ⟨τ, M, Q', hs, hm, h, hq⟩ => ⟨τ, M, _, hs, hm, h, fun xs M1 vs H1 m1 e1 i1 h1 => by
    by_cases hl : xs.length ≤ 1000
    · rw [if_pos hl] at h1
      refine ⟨by rw [i1.length]; exact line1000 hl, fun p hp => ?_⟩
      exact hq _ _ _ _ (m1.newL hp i1) (e1.trans (ext_new hp)) (.ref p) (h1 p (m1.free hp))
    · rw [if_neg hl] at h1; exact h1.elim⟩
/-! ### calls of what Python has -/
noncomputable abbrev RC := List D → DH → KD → Prop
noncomputable def lowC (K : PySem.W.Frag) (r : RC) : List V → Hp → VK → Prop := fun vs H Q => ∃ ds M Q', Iss K H vs ds ∧ HAbs K M H ∧ r ds M Q' ∧ lowQ K H Q' Q
noncomputable def CallD (X : Cx) (f : Value) (r : RC) : Prop := CallR X f (lowC X.K r)
noncomputable def eCB (r : RC) (t : TAd) : TEd := fun τ M Q => t τ M fun ds M1 => r ds M1 Q
theorem low_cb {K : PySem.W.Frag} {r : RC} {t : TAd} {σ : St} {H : Hp} {Q : VK} (h : low K (eCB r t) σ H Q) : tCB (lowC K r) (lowA K t) σ H Q := by
  obtain ⟨τ, M, Q', hs, hm, h, hq⟩ := h
  exact ⟨τ, M, _, hs, hm, h, fun ds M1 vs H1 m1 e1 i1 h1 => ⟨ds, M1, Q', i1, m1, h1, hq.ext e1⟩⟩
variable {x : Str} {p : Pos} {id T : String} {r : RC}
theorem d_callB (hc : CallD X (.builtin id) r) (hg : Gl X x) (hm : X.mg x = none) (hv : bootBuiltins x = some (.builtin id)) (ha : PA X (e :: es) (lowA X.K t)) (hn : x ≠ "__name__" := by decide) (hdb : (x == ("__debug__" : Str)) = false := by decide)
    (he : starEach (e :: es) X.env = (false, eval e X.env) :: starEach es X.env := by rfl) (hpl : (backTo pos (starEach es X.env)).any (·.1) = false := by rfl) : PE X (.Call (.Name x p) (e :: es) [] pos) (low X.K (eCB r t)) :=
  (pe_callB hc hg hm hv ha hn hdb he hpl).imp fun _ _ _ h => low_cb h
theorem d_callTy (hc : CallD X (.type T) r) (hg : Gl X x) (hm : X.mg x = none) (hv : bootBuiltins x = some (.type T)) (ha : PA X (e :: es) (lowA X.K t)) (hn : x ≠ "__name__" := by decide) (hdb : (x == ("__debug__" : Str)) = false := by decide)
    (he : starEach (e :: es) X.env = (false, eval e X.env) :: starEach es X.env := by rfl) (hpl : (backTo pos (starEach es X.env)).any (·.1) = false := by rfl) : PE X (.Call (.Name x p) (e :: es) [] pos) (low X.K (eCB r t)) :=
  (pe_callTy hc hg hm hv ha hn hdb he hpl).imp fun _ _ _ h => low_cb h
/-- a type's name -/
theorem d_ty {n : String} (hg : Gl X x) (hm : X.mg x = none) (hv : bootBuiltins x = some (.type n)) (hn : x ≠ "__name__" := by decide) (hd : (x == ("__debug__" : Str)) = false := by decide) : PE X (.Name x pos) (low X.K (eC (.ty n))) :=
  (pe_bltn (v := .ty n) hg hm hv rfl hn hd).imp fun _ _ _ h => low_const (fun _ => .ty n) h

theorem iss1 {K : PySem.W.Frag} {H : Hp} {vs : List V} {d : D} (h : Iss K H vs [d]) : ∃ v, vs = [v] ∧ Is K H v d := by
  cases h with
  | cons i t => cases t; exact ⟨_, rfl, i⟩
theorem iss2 {K : PySem.W.Frag} {H : Hp} {vs : List V} {d d' : D} (h : Iss K H vs [d, d']) : ∃ v v', vs = [v, v'] ∧ Is K H v d ∧ Is K H v' d' := by
  cases h with
  | cons i t => obtain ⟨v', rfl, i'⟩ := iss1 t; exact ⟨_, _, rfl, i, i'⟩

/-! ### len -/
noncomputable def lenD : List D → DH → KD → Prop
  | [.str z], M, Q => z.length ≤ sizeLine ∧ Q (.int z.length) M
  | [.tup xs], M, Q => Q (.int xs.length) M
  | [.rol xs], M, Q => Q (.int xs.length) M
  | [.ref l], M, Q => ∃ xs, LstAt M l xs ∧ Q (.int xs.length) M
  | _, _, _ => False
theorem cd_len : CallD X (.builtin "len") lenD := by
  intro pins s σ H vs us Q I r ⟨ds, M, Q', iss, hm, q, hq⟩
  match ds, q, iss with
  | [.str z], q, iss =>
    obtain ⟨v, rfl, i⟩ := iss1 iss
    (first | cases i.inv | cases i)
    exact call_len_str pins s σ H _ us Q I r ⟨z, rfl, q.1, hq.here hm (.int _) q.2⟩
  | [.tup xs], q, iss =>
    obtain ⟨v, rfl, i⟩ := iss1 iss
    cases i with
    | tup h hs => exact call_len_seq pins s σ H _ us Q I r ⟨_, _, rfl, .inr h, hq.here hm (.int _) (by rw [hs.length]; exact q)⟩
  | [.rol xs], q, iss =>
    obtain ⟨v, rfl, i⟩ := iss1 iss
    cases i with
    | rol h hs => exact call_len_seq pins s σ H _ us Q I r ⟨_, _, rfl, .inl h.sq, hq.here hm (.int _) (by rw [hs.length]; exact q)⟩
  | [.ref l], q, iss =>
    obtain ⟨v, rfl, i⟩ := iss1 iss
    (first | cases i.inv | cases i)
    obtain ⟨xs, hl, q⟩ := q
    obtain ⟨ys, h, hs⟩ := hm.lst hl
    exact call_len_seq pins s σ H _ us Q I r ⟨_, _, rfl, .inl h, hq.here hm (.int _) (by rw [hs.length]; exact q)⟩
/-! ### int(b), max, min of two -/
noncomputable def intD : List D → DH → KD → Prop
  | [.int i], M, Q => Q (.int i) M
  | [.bl k], M, Q => Q (.int (if k then 1 else 0)) M
  | _, _, _ => False
theorem cd_int : CallD X (.type "int") intD := by
  intro pins s σ H vs us Q I r ⟨ds, M, Q', iss, hm, q, hq⟩
  match ds, q, iss with
  | [.int j], q, iss =>
    obtain ⟨v, rfl, i⟩ := iss1 iss
    (first | cases i.inv | cases i)
    exact call_int1 pins s σ H _ us Q I r (.inl ⟨_, rfl, hq.here hm (.int _) q⟩)
  | [.bl k], q, iss =>
    obtain ⟨v, rfl, i⟩ := iss1 iss
    (first | cases i.inv | cases i)
    exact call_int1 pins s σ H _ us Q I r (.inr ⟨_, rfl, hq.here hm (.int _) q⟩)
noncomputable def max2D : List D → DH → KD → Prop
  | [.int i, .int j], M, Q => Q (.int (if j > i then j else i)) M
  | _, _, _ => False
theorem cd_max2 (hc : X.calm = true) : CallD X (.builtin "max") max2D := by
  intro pins s σ H vs us Q I r ⟨ds, M, Q', iss, hm, q, hq⟩
  match ds, q, iss with
  | [.int i, .int j], q, iss =>
    obtain ⟨v, v', rfl, h1, h2⟩ := iss2 iss
    (first | cases h1.inv | cases h1)
    (first | cases h2.inv | cases h2)
    exact call_max2 hc pins s σ H _ us Q I r ⟨_, _, rfl, hq.here hm (.int _) q⟩
noncomputable def min2D : List D → DH → KD → Prop
  | [.int i, .int j], M, Q => Q (.int (if j < i then j else i)) M
  | _, _, _ => False
theorem cd_min2 (hc : X.calm = true) : CallD X (.builtin "min") min2D := by
  intro pins s σ H vs us Q I r ⟨ds, M, Q', iss, hm, q, hq⟩
  match ds, q, iss with
  | [.int i, .int j], q, iss =>
    obtain ⟨v, v', rfl, h1, h2⟩ := iss2 iss
    (first | cases h1.inv | cases h1)
    (first | cases h2.inv | cases h2)
    exact call_min2 hc pins s σ H _ us Q I r ⟨_, _, rfl, hq.here hm (.int _) q⟩
/-! ### tuple(x), list(x) -/
noncomputable def tupleD : List D → DH → KD → Prop
  | [.tup xs], M, Q => Q (.tup xs) M
  | [.ref l], M, Q => ∃ xs, LstAt M l xs ∧ Q (.tup xs) M
  | _, _, _ => False
theorem cd_tuple : CallD X (.type "tuple") tupleD := by
  intro pins s σ H vs us Q I r ⟨ds, M, Q', iss, hm, q, hq⟩
  match ds, q, iss with
  | [.tup xs], q, iss =>
    obtain ⟨v, rfl, i⟩ := iss1 iss
    cases i with
    | tup h hs => exact call_tuple_of pins s σ H _ us Q I r ⟨_, _, rfl, .inr ⟨h, hq.here hm (.tup h hs) q⟩⟩
  | [.ref l], q, iss =>
    obtain ⟨v, rfl, i⟩ := iss1 iss
    (first | cases i.inv | cases i)
    obtain ⟨xs, hl, q⟩ := q
    obtain ⟨ys, h, hs⟩ := hm.lst hl
    exact call_tuple_of pins s σ H _ us Q I r ⟨_, _, rfl, .inl ⟨h, fun p hp => hq _ M _ _ (hm.new hp) (ext_new hp) (.tup (SqT.of upd_same) (hs.mono (ext_new hp))) q⟩⟩
/-! ### isinstance -/
noncomputable def isSub (a b : String) : Bool := a == b || (a == "bool" && b == "int")
noncomputable def kinds : List String := ["NoneType", "bool", "int", "str", "tuple", "list"]
theorem kit_sub (K : PySem.W.Frag) : ∀ a ∈ kinds, ∀ b ∈ kinds, PySem.W.kitOne K (.type a) (.type b) = some (isSub a b) := by
  intro a ha b hb
  simp only [kinds, List.mem_cons, List.not_mem_nil, or_false] at ha hb
  rcases ha with rfl | rfl | rfl | rfl | rfl | rfl <;> rcases hb with rfl | rfl | rfl | rfl | rfl | rfl <;> rfl
noncomputable def isiD : List D → DH → KD → Prop
  | [.non, .ty T], M, Q => if T ∈ kinds then Q (.bl (isSub "NoneType" T)) M else False
  | [.bl _, .ty T], M, Q => if T ∈ kinds then Q (.bl (isSub "bool" T)) M else False
  | [.int _, .ty T], M, Q => if T ∈ kinds then Q (.bl (isSub "int" T)) M else False
  | [.str _, .ty T], M, Q => if T ∈ kinds then Q (.bl (isSub "str" T)) M else False
  | [.tup _, .ty T], M, Q => if T ∈ kinds then Q (.bl (isSub "tuple" T)) M else False
  | [.ref l, .ty T], M, Q => if T ∈ kinds then (∃ xs, LstAt M l xs) ∧ Q (.bl (isSub "list" T)) M else False
  | _, _, _ => False
theorem iteF {c : Prop} [Decidable c] {A : Prop} (h : if c then A else False) : c ∧ A := by
  by_cases hc : c
  · rw [if_pos hc] at h; exact ⟨hc, h⟩
  · rw [if_neg hc] at h; exact h.elim
theorem cd_isi : CallD X (.builtin "isinstance") isiD := by
  intro pins s σ H vs us Q I r ⟨ds, M, Q', iss, hm, q, hq⟩
  match ds, q, iss with
  | [.non, .ty T], q, iss =>
    obtain ⟨v, v', rfl, h1, h2⟩ := iss2 iss
    (first | cases h1.inv | cases h1); (first | cases h2.inv | cases h2)
    obtain ⟨u, w', rfl, r1, r2⟩ := vals2 r
    cases r1; cases r2
    obtain ⟨hT, q⟩ := iteF (c := T ∈ kinds) q
    exact PySem.W.kia_one PySem.W.kitx_none I.kIn True.intro (kit_sub _ _ (by decide) _ hT) (fun z => nomatch z) fun tk => ⟨.bl _, H, I.tok tk, rfl, hq.here hm (.bl _) q⟩
  | [.bl b, .ty T], q, iss =>
    obtain ⟨v, v', rfl, h1, h2⟩ := iss2 iss
    (first | cases h1.inv | cases h1); (first | cases h2.inv | cases h2)
    obtain ⟨u, w', rfl, r1, r2⟩ := vals2 r
    cases r1; cases r2
    obtain ⟨hT, q⟩ := iteF (c := T ∈ kinds) q
    exact PySem.W.kia_one PySem.W.kitx_bool I.kIn True.intro (kit_sub _ _ (by decide) _ hT) (fun z => nomatch z) fun tk => ⟨.bl _, H, I.tok tk, rfl, hq.here hm (.bl _) q⟩
  | [.int b, .ty T], q, iss =>
    obtain ⟨v, v', rfl, h1, h2⟩ := iss2 iss
    (first | cases h1.inv | cases h1); (first | cases h2.inv | cases h2)
    obtain ⟨u, w', rfl, ⟨tk0, rfl⟩, r2⟩ := vals2 r
    cases r2
    obtain ⟨hT, q⟩ := iteF (c := T ∈ kinds) q
    exact PySem.W.kia_one PySem.W.kitx_int I.kIn True.intro (kit_sub _ _ (by decide) _ hT) (fun z => nomatch z) fun tk => ⟨.bl _, H, I.tok tk, rfl, hq.here hm (.bl _) q⟩
  | [.str b, .ty T], q, iss =>
    obtain ⟨v, v', rfl, h1, h2⟩ := iss2 iss
    (first | cases h1.inv | cases h1); (first | cases h2.inv | cases h2)
    obtain ⟨u, w', rfl, ⟨tk0, rfl⟩, r2⟩ := vals2 r
    cases r2
    obtain ⟨hT, q⟩ := iteF (c := T ∈ kinds) q
    exact PySem.W.kia_one PySem.W.kitx_str I.kIn True.intro (kit_sub _ _ (by decide) _ hT) (fun z => nomatch z) fun tk => ⟨.bl _, H, I.tok tk, rfl, hq.here hm (.bl _) q⟩
  | [.tup b, .ty T], q, iss =>
    obtain ⟨v, v', rfl, h1, h2⟩ := iss2 iss
    cases h1 with
    | tup h hs =>
      (first | cases h2.inv | cases h2)
      obtain ⟨u, w', rfl, r1, r2⟩ := vals2 r
      cases r1; cases r2
      obtain ⟨its, _, ⟨o, p1, p2, _⟩, _⟩ := I.tuple h
      obtain ⟨hT, q⟩ := iteF (c := T ∈ kinds) q
      exact PySem.W.kia_one PySem.W.kitx_tuple I.kIn ⟨o, p1, p2⟩ (kit_sub _ _ (by decide) _ hT) (fun z => nomatch z) fun tk => ⟨.bl _, H, I.tok tk, rfl, hq.here hm (.bl _) q⟩
  | [.ref l, .ty T], q, iss =>
    obtain ⟨v, v', rfl, h1, h2⟩ := iss2 iss
    (first | cases h1.inv | cases h1); (first | cases h2.inv | cases h2)
    obtain ⟨u, w', rfl, r1, r2⟩ := vals2 r
    cases r1; cases r2
    obtain ⟨hT, q⟩ := iteF (c := T ∈ kinds) q
    obtain ⟨⟨xs, hl⟩, q⟩ := q
    obtain ⟨ys, h, hs⟩ := hm.lst hl
    obtain ⟨its, _, ⟨o, n, p1, p2, _⟩, _⟩ := I.list h
    exact PySem.W.kia_one PySem.W.kitx_list I.kIn ⟨o, p1, p2⟩ (kit_sub _ _ (by decide) _ hT) (fun z => nomatch z) fun tk => ⟨.bl _, H, I.tok tk, rfl, hq.here hm (.bl _) q⟩

/-! ### a[b] -/
theorem atI_is {K : PySem.W.Frag} {H : Hp} {xs : List V} {ds : List D} {i : Int} {d : D} (h : Iss K H xs ds) (e : atI ds i = some d) : ∃ v, atI xs i = some v ∧ Is K H v d := by
  unfold atI at e ⊢
  rw [h.length]
  cases q : ixN ds.length i with
  | none => rw [q] at e; cases e
  | some j =>
    rw [q] at e
    exact h.get e
noncomputable def ixD : D → D → DH → KD → Prop
  | .tup ds, .int i, M, Q => onSome (atI ds i) fun d => Q d M
  | .rol ds, .int i, M, Q => onSome (atI ds i) fun d => Q d M
  | .str z, .int i, M, Q => z.length ≤ sizeLine ∧ ∃ k, atI z.cps.toList i = some k ∧ Q (.str ⟨#[k]⟩) M
  | .ref l, .int i, M, Q => ∃ ds d, LstAt M l ds ∧ atI ds i = some d ∧ Q d M
  | _, _, _, _ => False
noncomputable def IxD (X : Cx) (r : RD2) : Prop := IxR X (lowR2 X.K r)
theorem xd_ix : IxD X ixD := by
  intro value slice pins s σ H vx vy v u Q I rx ry ⟨x, y, M, Q', ix, iy, hm, q, hq⟩ hs
  cases ix with
  | tup h hxs => cases iy with
    | int i =>
      rename_i ds
      cases q1 : atI ds i with
      | none => simp only [ixD, q1, onSome] at q
      | some d =>
        simp only [ixD, q1, onSome] at q
        obtain ⟨v', e', i'⟩ := atI_is hxs q1
        exact ix_tup value slice pins s σ H _ _ v u Q I rx ry ⟨_, _, _, _, rfl, rfl, h, e', hq.here hm i' q⟩ hs
    | _ => exact q.elim
  | rol h hxs => cases iy with
    | int i =>
      rename_i ds
      cases q1 : atI ds i with
      | none => simp only [ixD, q1, onSome] at q
      | some d =>
        simp only [ixD, q1, onSome] at q
        obtain ⟨v', e', i'⟩ := atI_is hxs q1
        exact ix_list value slice pins s σ H _ _ v u Q I rx ry ⟨_, _, _, _, rfl, rfl, h.sq, e', hq.here hm i' q⟩ hs
    | _ => exact q.elim
  | str z => cases iy with
    | int i =>
      obtain ⟨hz, k, hk, q⟩ := q
      exact ix_str value slice pins s σ H _ _ v u Q I rx ry ⟨_, _, _, rfl, rfl, hz, hk, hq.here hm (.str _) q⟩ hs
    | _ => exact q.elim
  | ref l => cases iy with
    | int i =>
      obtain ⟨ds, d, hl, hd, q⟩ := q
      obtain ⟨ys, h, hys⟩ := hm.lst hl
      obtain ⟨v', e', i'⟩ := atI_is hys hd
      exact ix_list value slice pins s σ H _ _ v u Q I rx ry ⟨_, _, _, _, rfl, rfl, h, e', hq.here hm i' q⟩ hs
    | _ => exact q.elim
  | _ => cases iy <;> exact q.elim
theorem d_ix (ha : PE X a (low X.K ta)) (hb : PE X b (low X.K tb)) (hs : PlainIx b := by intro _ _; rfl) : PE X (.Subscript a b pos) (low X.K (eOp ixD ta tb)) :=
  (pe_ix (xd_ix (X := X)) ha hb hs).imp fun _ _ _ h => low_op h
end
end DL

/-! Slices, methods of lists, tests, statements, loops, defs over data. -/
namespace DL
open PySem PySem.Spec PyProof.Rows L2

section
variable {X : Cx} {e a b c : Expr} {es : List Expr} {pos : Pos} {ta tb tc te : TEd} {t : TAd}
/-! ### slices -/
noncomputable abbrev TOd := DSt → DH → (Option Int → DH → Prop) → Prop
noncomputable def lowO (K : PySem.W.Frag) (te : TOd) : TO := fun σ H Q => ∃ τ M Q', SAbs K τ σ H ∧ HAbs K M H ∧ te τ M Q' ∧ ∀ o M1 H1, HAbs K M1 H1 → Ext K H H1 → Q' o M1 → Q o H1
theorem _root_.L2.PO.imp {oe : Option Expr} {t t' : TO} (h : PO X oe t) (hi : ∀ σ H Q, t' σ H Q → t σ H Q) : PO X oe t' := fun pins s σ H Q I q => h pins s σ H Q I (hi _ _ _ q)
noncomputable def oNone : TOd := fun _ M Q => Q none M
noncomputable def oSome (t : TEd) : TOd := fun τ M Q => t τ M fun x M1 => onInt x fun i => Q (some i) M1
theorem o_none : PO X none (lowO X.K oNone) := po_none.imp fun σ H Q ⟨τ, M, Q', hs, hm, h, hq⟩ => hq none M H hm (Ext.refl H) h
theorem o_some (h : PE X e (low X.K te)) : PO X (some e) (lowO X.K (oSome te)) := (po_some h).imp fun σ H Q ⟨τ, M, Q', hs, hm, h, hq⟩ =>
  ⟨τ, M, _, hs, hm, h, fun x M1 v H1 m1 e1 i1 h1 => by
    cases i1 with
    | int i => exact ⟨i, rfl, hq (some i) M1 H1 m1 e1 h1⟩
    | _ => exact h1.elim⟩
noncomputable def cutD {α : Type} (xs : List α) (lo hi : Option Int) : List α := (xs.drop (HT.sIx xs.length 0 lo)).take (HT.sIx xs.length xs.length hi - HT.sIx xs.length 0 lo)
noncomputable abbrev RSl := D → Option Int → Option Int → DH → KD → Prop
noncomputable def lowSl (K : PySem.W.Frag) (r : RSl) : V → Option Int → Option Int → Hp → VK → Prop := fun v lo hi H Q => ∃ x M Q', Is K H v x ∧ HAbs K M H ∧ r x lo hi M Q' ∧ lowQ K H Q' Q
noncomputable def SlD (X : Cx) (r : RSl) : Prop := SlR X (lowSl X.K r)
noncomputable def eSl (r : RSl) (te : TEd) (tl th : TOd) : TEd := fun τ M Q => te τ M fun x M1 => tl τ M1 fun l M2 => th τ M2 fun u M3 => r x l u M3 Q
theorem d_sl {r : RSl} {lo hi : Option Expr} {tl th : TOd} {p2 : Pos} (hr : SlD X r) (he : PE X e (low X.K te)) (hl : PO X lo (lowO X.K tl)) (hu : PO X hi (lowO X.K th)) : PE X (.Subscript e (.Slice lo hi none p2) pos) (low X.K (eSl r te tl th)) :=
  (pe_slice hr he hl hu).imp fun σ H Q ⟨τ, M, Q', hs, hm, h, hq⟩ =>
    ⟨τ, M, _, hs, hm, h, fun x M1 v H1 m1 e1 i1 h1 => ⟨τ, M1, _, hs.mono e1, m1, h1, fun l M2 H2 m2 e2 h2 => ⟨τ, M2, _, hs.mono (e1.trans e2), m2, h2, fun u M3 H3 m3 e3 h3 =>
      ⟨x, M3, Q', i1.mono (e2.trans e3), m3, h3, hq.ext (e1.trans (e2.trans e3))⟩⟩⟩⟩
theorem getItem_tuple_whole {prog : Program} {w : World} {A : Around} {E : Value → Shared → Prop} {s : Shared} {t sl : Addr} {items : Array Value} {vl vu : Value} {lo hi : Option Int} {Q : Value → Shared → Prop} (ht : IsTup s.heap t items) (hs : s.heap.IsSliceOf sl vl vu .none) (pl : IsPart vl lo) (pu : IsPart vu hi)
    (hw : HT.sIx items.size 0 lo = 0 ∧ HT.sIx items.size items.size hi = items.size)
    (h : Q (.ref t) s) : wpAny (model prog w) A (getItem (.ref t) (.ref sl)) Q E s := by
  obtain ⟨os, hos, hcs, hds⟩ := id hs
  have hTs : s.TypeIs (.ref sl) "slice" := ⟨os, hos, hcs⟩
  unfold getItem
  try with_reducible refine wpAny_holding ?_
  first | refine wpAny_bind (wpAny_pure ?_) | skip
  refine wpAny_bind (wpAny_sequenceKey ht.typeIs (by decide) ?_)
  refine wpAny_bind (wpAny_callSpecial?_slot (name := Str.ofString "__getitem__") ht.typeIs PyProof.Rows.slot_tuple_getitem
    (wpAny_call_entry PyProof.Rows.slot_tuple_getitem ht.typeIs entry_tuple_getitem ?_ (args_tuple_getitem _ _)))
  show wpAny _ _ (Builtin.Tuple.tupleItemsOf (.ref t) >>= _) _ _ s
  refine wpAny_bind (tupleItemsOf_ ht ?_)
  refine wpAny_bind (wpAny_typeOf hTs ?_)
  rw [if_pos (by decide)]
  refine wpAny_bind (HT.sliceApplied_gen hs pl pu ?_)
  have hyes : (((HT.sIx items.size 0 lo : Nat) : Int) == 0 && (1 : Int) == 1 && (HT.sIx items.size items.size hi - HT.sIx items.size 0 lo) == items.size) = true := by
    rw [hw.1, hw.2]; simp
  show wpAny _ _ (if (((HT.sIx items.size 0 lo : Nat) : Int) == 0 && (1 : Int) == 1 && (HT.sIx items.size items.size hi - HT.sIx items.size 0 lo) == items.size) = true then _ else _) _ _ s
  rw [if_pos hyes]
  refine wpAny_bind ?_
  have ex : wpAny (model prog w) A.in1 (Builtin.Tuple.tupleIsExact (.ref t)) (fun a s' => a = true ∧ s' = s) E s := by
    unfold Builtin.Tuple.tupleIsExact
    first
      | exact wpAny_bind (wpAny_typeOf ht.typeIs (wpAny_pure ⟨by decide, rfl⟩))
      | exact wpAny_bind (wpAny_typeOf ht.typeIs ⟨by decide, rfl⟩)
  refine wpAny_mono ex (fun a s' ⟨ea, es⟩ => ?_) fun _ _ z => z
  subst ea es
  rw [if_pos rfl]
  first
    | exact wpAny_bind (wpAny_rule (wpAny_pure ⟨_, rfl, h⟩))
    | exact wpAny_bind (wpAny_rule (wpAny_pure ⟨_, rfl, wpAny_pure h⟩))
    | exact wpAny_bind (wpAny_rule (wpAny_bind (wpAny_pure (wpAny_pure ⟨_, rfl, h⟩))))
    | exact wpAny_bind (wpAny_rule (wpAny_bind (wpAny_pure (wpAny_pure ⟨_, rfl, wpAny_pure h⟩))))
noncomputable def slD : D → Option Int → Option Int → DH → KD → Prop
  | .tup xs, lo, hi, M, Q => Q (.tup (cutD xs lo hi)) M
  | .ref l, lo, hi, M, Q => ∃ xs, LstAt M l xs ∧ ∀ p, M p = none → Q (.ref p) (updM M p (.lst (cutD xs lo hi)))
  | .rol xs, lo, hi, M, Q => ∀ p, M p = none → Q (.ref p) (updM M p (.lst (cutD xs lo hi)))
  | .str z, lo, hi, M, Q => z.length ≤ sizeLine ∧ Q (.str (Txt.slice z lo hi)) M
  | _, _, _, _, _ => False
theorem Iss.cut {K : PySem.W.Frag} {H : Hp} {vs : List V} {ds : List D} (h : Iss K H vs ds) (lo hi : Option Int) : Iss K H (cutV vs lo hi) (cutD ds lo hi) := by
  unfold cutV cutD
  rw [h.length]
  exact (h.drop _).take _
theorem cut_whole {α : Type} {xs : List α} {lo hi : Option Int} (h : HT.sIx xs.length 0 lo = 0 ∧ HT.sIx xs.length xs.length hi = xs.length) : cutD xs lo hi = xs := by
  unfold cutD
  rw [h.1, h.2]
  simp
theorem sd_sl : SlD X slD := by
  intro pins s σ H vx v vl vu lo hi sl Q I rx hs pl pu ⟨x, M, Q', ix, hm, q, hq⟩
  cases ix with
  | @tup a xs ds h hxs =>
    by_cases hw : HT.sIx xs.length 0 lo = 0 ∧ HT.sIx xs.length xs.length hi = xs.length
    · cases rx
      obtain ⟨its, r, ht, hz⟩ := I.tuple h
      have hlen : its.toArray.size = xs.length := by rw [List.size_toArray]; exact r.length.symm
      refine ⟨"tuple", _, PyProof.Rows.slot_tuple_getitem.lookup, ht.typeIs, ?_⟩
      refine getItem_tuple_whole ht hs pl pu (by rw [hlen]; exact hw) ⟨.ref a, H, I, rfl, hq.here hm (.tup h hxs) ?_⟩
      have q' : Q' (.tup (cutD ds lo hi)) M := q
      rw [cut_whole (by rw [← hxs.length]; exact hw)] at q'
      exact q'
    · exact sl_tup pins s σ H _ v vl vu lo hi sl Q I rx hs pl pu ⟨a, xs, rfl, h, hw, fun p hp => hq _ M _ _ (hm.new hp) (ext_new hp) (.tup (SqT.of upd_same) ((hxs.cut lo hi).mono (ext_new hp))) q⟩
  | rol h hys => exact sl_list pins s σ H _ v vl vu lo hi sl Q I rx hs pl pu ⟨_, _, rfl, h.sq, fun p hp => hq _ _ _ _ (hm.newL hp (hys.cut lo hi)) (ext_new hp) (.ref p) (q p (hm.free hp))⟩
  | ref l =>
    obtain ⟨xs, hl, q⟩ := q
    obtain ⟨ys, h, hys⟩ := hm.lst hl
    exact sl_list pins s σ H _ v vl vu lo hi sl Q I rx hs pl pu ⟨_, ys, rfl, h, fun p hp => hq _ _ _ _ (hm.newL hp (hys.cut lo hi)) (ext_new hp) (.ref p) (q p (hm.free hp))⟩
  | str z =>
    obtain ⟨hz, q⟩ := q
    obtain ⟨t, rfl⟩ := rx
    obtain ⟨os, ho, hc, hd⟩ := hs
    have fin : ∀ (l u : Option (Int × Tok)), l.map (·.1) = lo → u.map (·.1) = hi → partValue l = vl → partValue u = vu → ∃ T id, typeLookup (.type T) "__getitem__" = pure (some (.builtin id)) ∧ s.TypeIs (.str z t) T ∧ wpAny (model X.prog X.w) X.A (getItem (.str z t) (.ref sl)) (EP X pins σ Q) X.xe s := by
      intro l u el eu e1 e2
      refine ⟨"str", _, F.slot_str_getitem.lookup, typeIs_str _ _ _, wpAny_getItem_str_slice (l := l) (u := u) (st := none) ⟨os, ho, hc, by rw [hd, e1, e2]; rfl⟩ rfl ?_⟩
      refine post_val_or_str ⟨Nat.le_trans (Txt.slice_le z _ _) hz, fun t' k => ?_⟩
      refine ⟨.str (Txt.slice z lo hi), H, I.tok k, ?_, hq.here hm (.str _) q⟩
      rw [← el, ← eu]
      exact ⟨_, rfl⟩
    cases pl with
    | none => cases pu with
      | none => exact fin none none rfl rfl rfl rfl
      | int j tj => exact fin none (some (j, tj)) rfl rfl rfl rfl
    | int i ti => cases pu with
      | none => exact fin (some (i, ti)) none rfl rfl rfl rfl
      | int j tj => exact fin (some (i, ti)) (some (j, tj)) rfl rfl rfl rfl
  | _ => exact q.elim

/-! ### xs.append(e), xs.pop() -/
noncomputable abbrev RM := D → List D → DH → KD → Prop
noncomputable def lowM (K : PySem.W.Frag) (r : RM) : V → List V → Hp → VK → Prop := fun v vs H Q => ∃ x ds M Q', Is K H v x ∧ Iss K H vs ds ∧ HAbs K M H ∧ r x ds M Q' ∧ lowQ K H Q' Q
noncomputable def MtD (X : Cx) (id : String) (r : RM) : Prop := MtR X id (lowM X.K r)
noncomputable def tyD (T : String) : D → DH → Prop
  | .str _, _ => T = "str"
  | .int _, _ => T = "int"
  | .ref l, M => T = "list" ∧ ∃ xs, LstAt M l xs
  | _, _ => False
noncomputable def eBM0 (T : String) (r : RM) (to : TEd) : TEd := fun τ M Q => to τ M fun x M1 => tyD T x M1 ∧ r x [] M1 Q
noncomputable def eBM (T : String) (r : RM) (to : TEd) (t : TAd) : TEd := fun τ M Q => to τ M fun x M1 => tyD T x M1 ∧ t τ M1 fun ds M2 => r x ds M2 Q
theorem tyD_low {K : PySem.W.Frag} {H : Hp} {M : DH} {T : String} {v : V} {x : D} (i : Is K H v x) (hm : HAbs K M H) (h : tyD T x M) : tyV K T v H := by
  cases i with
  | str z => exact h
  | int j => exact h
  | ref l => exact .inl ⟨h.1, let ⟨xs, hl⟩ := h.2; let ⟨ys, q, _⟩ := hm.lst hl; ⟨ys, q⟩⟩
  | _ => exact h.elim
variable {o : Expr} {to : TEd} {name : Str} {apos cpos : Pos} {T id : String} {r : RM}
theorem d_bm0 (pa : PlainAttrs T) (slot : Slot T name id) (hty : typeOf (.builtin id) = pure (.type "method_descriptor")) (hm : MtD X id r) (ho : PE X o (low X.K to))
    (hbase : attributeBase o name X.env (eval o X.env) = eval o X.env := by rfl) (hline : (apos.endLine == cpos.line) = true := by rfl) : PE X (.Call (.Attribute o name apos) [] [] cpos) (low X.K (eBM0 T r to)) :=
  (pe_bm0 pa slot hty hm ho hbase hline).imp fun σ H Q ⟨τ, M, Q', hs, hm, h, hq⟩ =>
    ⟨τ, M, _, hs, hm, h, fun x M1 v H1 m1 e1 i1 h1 => ⟨tyD_low i1 m1 h1.1, x, [], M1, Q', i1, .nil, m1, h1.2, hq.ext e1⟩⟩
theorem d_bm (pa : PlainAttrs T) (slot : Slot T name id) (hty : typeOf (.builtin id) = pure (.type "method_descriptor")) (hm : MtD X id r) (ho : PE X o (low X.K to)) (ha : PA X (e :: es) (lowA X.K t))
    (hbase : attributeBase o name X.env (eval o X.env) = eval o X.env := by rfl)
    (hfew : ((backTo cpos (starEach (e :: es) X.env)).all (fun x => !x.1) && (backToKw cpos (keywordEach [] X.env)).all (fun x => x.1.isSome)
      && decide ((e :: es).length + ([] : List Keyword).length + (if ([] : List Keyword).isEmpty then 0 else 1) < 30)) = true := by rfl)
    (hline : (apos.endLine == cpos.line) = true := by rfl) (hs : starEach (e :: es) X.env = (false, eval e X.env) :: starEach es X.env := by rfl) (hplain : (backTo cpos (starEach es X.env)).any (·.1) = false := by rfl) :
    PE X (.Call (.Attribute o name apos) (e :: es) [] cpos) (low X.K (eBM T r to t)) :=
  (pe_bm pa slot hty hm ho ha hbase hfew hline hs hplain).imp fun σ H Q ⟨τ, M, Q', hs, hm, h, hq⟩ =>
    ⟨τ, M, _, hs, hm, h, fun x M1 v H1 m1 e1 i1 h1 => ⟨tyD_low i1 m1 h1.1, τ, M1, _, hs.mono e1, m1, h1.2, fun ds M2 vs H2 m2 e2 i2 h2 => ⟨x, ds, M2, Q', i1.mono e2, i2, m2, h2, hq.ext (e1.trans e2)⟩⟩⟩
noncomputable def appendD : D → List D → DH → KD → Prop
  | .ref l, [y], M, Q => ∃ xs, M l = some (.lst xs) ∧ xs.length < sizeLine ∧ Q .non (updM M l (.lst (xs ++ [y])))
  | _, _, _, _ => False
theorem md_append : MtD X "list.append" appendD := by
  intro pins s σ H vx vs v us Q I rx rs ⟨x, ds, M, Q', ix, iss, hm, q, hq⟩
  match x, ds, q, ix, iss with
  | .ref l, [y], q, ix, iss =>
    obtain ⟨xs, hl, hz, q⟩ := q
    cases ix with
    | ref =>
      obtain ⟨vy, rfl, iy⟩ := iss1 iss
      obtain ⟨ys, h1, h2⟩ := hm l _ hl
      refine mt_append pins s σ H _ _ v us Q I rx rs ⟨l, ys, vy, rfl, rfl, h1, by rw [h2.length]; exact hz, ?_⟩
      obtain ⟨m1, e1⟩ := hm.setL hl h1 (h2.append (.cons iy .nil))
      exact hq _ _ _ _ m1 e1 .non q
noncomputable def popD : D → List D → DH → KD → Prop
  | .ref l, [], M, Q => ∃ xs y, M l = some (.lst (xs ++ [y])) ∧ Q y (updM M l (.lst xs))
  | _, _, _, _ => False
theorem md_pop : MtD X "list.pop" popD := by
  intro pins s σ H vx vs v us Q I rx rs ⟨x, ds, M, Q', ix, iss, hm, q, hq⟩
  match x, ds, q, ix, iss with
  | .ref l, [], q, ix, iss =>
    obtain ⟨xs, y, hl, q⟩ := q
    cases ix with
    | ref =>
      cases iss
      obtain ⟨ys, h1, h2⟩ := hm l _ hl
      have hlen := h2.length
      rw [List.length_append, List.length_singleton] at hlen
      obtain ⟨vy, ey, iy⟩ := h2.get (i := ys.length - 1) (d := y) (by rw [hlen]; simp)
      refine mt_pop pins s σ H _ _ v us Q I rx rs ⟨l, ys, vy, rfl, rfl, h1, ey, ?_⟩
      have h3 := h2.dropLast
      rw [List.dropLast_concat] at h3
      obtain ⟨m1, e1⟩ := hm.setL hl h1 h3
      exact hq _ _ _ _ m1 e1 (iy.mono e1) q

/-! ### tests -/
noncomputable def truD : D → DH → (Bool → Prop) → Prop
  | .non, _, Q => Q false
  | .bl k, _, Q => Q k
  | .int i, _, Q => Q (i != 0)
  | .str y, _, Q => y.length ≤ sizeLine ∧ Q ((y.length : Int) != 0)
  | .tup ds, _, Q => Q (!ds.isEmpty)
  | .rol ds, _, Q => Q (!ds.isEmpty)
  | .ref l, M, Q => ∃ xs, LstAt M l xs ∧ Q (!xs.isEmpty)
  | .ty _, _, _ => False
noncomputable def eTru (te : TEd) : TTd := fun τ M Q => te τ M fun x M1 => truD x M1 fun k => Q k M1
theorem Iss.empty {K : PySem.W.Frag} {H : Hp} {vs : List V} {ds : List D} (h : Iss K H vs ds) : vs.isEmpty = ds.isEmpty := by cases h <;> rfl
theorem dt_val (ha : PE X a (low X.K ta)) (he : ∀ whole, isTrue a X.env whole = (do let v ← whole; standAt a.pos; holding [v] (truthy v)) := by intro _; rfl) : PT X a (lowT X.K (eTru ta)) :=
  (pt_truth ha he).imp fun σ H Q ⟨τ, M, Q', hs, hm, h, hq⟩ => ⟨τ, M, _, hs, hm, h, fun x M1 v H1 m1 e1 i1 h1 => by
    cases i1 with
    | non => exact ⟨false, rfl, hq _ M1 H1 m1 e1 h1⟩
    | bl k => exact ⟨k, rfl, hq _ M1 H1 m1 e1 h1⟩
    | int i => exact ⟨_, rfl, hq _ M1 H1 m1 e1 h1⟩
    | str y => exact ⟨_, ⟨h1.1, rfl⟩, hq _ M1 H1 m1 e1 h1.2⟩
    | ty n => exact h1.elim
    | tup hx hxs => exact ⟨_, .inr (.inl ⟨_, hx, rfl⟩), hq _ M1 H1 m1 e1 (by rw [hxs.empty]; exact h1)⟩
    | rol hx hxs => exact ⟨_, .inl ⟨_, hx.sq, rfl⟩, hq _ M1 H1 m1 e1 (by rw [hxs.empty]; exact h1)⟩
    | ref l =>
      obtain ⟨xs, hl, q⟩ := h1
      obtain ⟨ys, h2, h3⟩ := m1.lst hl
      exact ⟨_, .inl ⟨_, h2, rfl⟩, hq _ M1 H1 m1 e1 (by rw [h3.empty]; exact q)⟩⟩
noncomputable def bAnd (t u : TTd) : TTd := fun τ M Q => t τ M fun k M1 => if k = true then u τ M1 Q else Q false M1
noncomputable def bOr (t u : TTd) : TTd := fun τ M Q => t τ M fun k M1 => if k = true then Q true M1 else u τ M1 Q
noncomputable def bNot (t : TTd) : TTd := fun τ M Q => t τ M fun k M1 => Q (!k) M1
variable {tA tB : TTd} {rest : List Expr}
theorem dw_and1 (ha : PT X a (lowT X.K tA)) : PW X (.BoolOp .And [a] pos) (lowT X.K tA) := pw_and1 ha
theorem dw_or1 (ha : PT X a (lowT X.K tA)) : PW X (.BoolOp .Or [a] pos) (lowT X.K tA) := pw_or1 ha
theorem dw_and (ha : PT X a (lowT X.K tA)) (hb : PW X (.BoolOp .And (b :: rest) pos) (lowT X.K tB)) : PW X (.BoolOp .And (a :: b :: rest) pos) (lowT X.K (bAnd tA tB)) :=
  L2.PW.imp (pw_and ha hb) fun σ H Q ⟨τ, M, Q', hs, hm, h, hq⟩ => ⟨τ, M, _, hs, hm, h, fun k M1 H1 m1 e1 h1 => by
    cases k with
    | true => rw [if_pos rfl] at h1 ⊢; exact ⟨τ, M1, Q', hs.mono e1, m1, h1, fun k M2 H2 m2 e2 h2 => hq k M2 H2 m2 (e1.trans e2) h2⟩
    | false => rw [if_neg Bool.false_ne_true] at h1 ⊢; exact hq false M1 H1 m1 e1 h1⟩
theorem dw_or (ha : PT X a (lowT X.K tA)) (hb : PW X (.BoolOp .Or (b :: rest) pos) (lowT X.K tB)) : PW X (.BoolOp .Or (a :: b :: rest) pos) (lowT X.K (bOr tA tB)) :=
  L2.PW.imp (pw_or ha hb) fun σ H Q ⟨τ, M, Q', hs, hm, h, hq⟩ => ⟨τ, M, _, hs, hm, h, fun k M1 H1 m1 e1 h1 => by
    cases k with
    | true => rw [if_pos rfl] at h1 ⊢; exact hq true M1 H1 m1 e1 h1
    | false => rw [if_neg Bool.false_ne_true] at h1 ⊢; exact ⟨τ, M1, Q', hs.mono e1, m1, h1, fun k M2 H2 m2 e2 h2 => hq k M2 H2 m2 (e1.trans e2) h2⟩⟩
theorem dt_not (ha : PT X a (lowT X.K tA)) : PT X (.UnaryOp .Not a pos) (lowT X.K (bNot tA)) :=
  L2.PT.imp (pt_not ha) fun σ H Q ⟨τ, M, Q', hs, hm, h, hq⟩ => ⟨τ, M, _, hs, hm, h, fun k M1 H1 m1 e1 h1 => hq (!k) M1 H1 m1 e1 h1⟩
/-! and, or, not as values (truth values alone) -/
noncomputable def vAnd (ta tb : TEd) : TEd := fun τ M Q => ta τ M fun x M1 => onBl x fun k => if k = true then tb τ M1 Q else Q (.bl false) M1
noncomputable def vOr (ta tb : TEd) : TEd := fun τ M Q => ta τ M fun x M1 => onBl x fun k => if k = true then Q (.bl true) M1 else tb τ M1 Q
noncomputable def vNot (ta : TEd) : TEd := fun τ M Q => ta τ M fun x M1 => onBl x fun k => Q (.bl (!k)) M1
theorem d_one {op} (h : PE X a (low X.K ta)) : PE X (.BoolOp op [a] pos) (low X.K ta) := pe_one h
theorem d_and (ha : PE X a (low X.K ta)) (hb : PE X (.BoolOp .And (b :: rest) pos) (low X.K tb)) : PE X (.BoolOp .And (a :: b :: rest) pos) (low X.K (vAnd ta tb)) :=
  L2.PE.imp (pe_and ha hb) fun σ H Q ⟨τ, M, Q', hs, hm, h, hq⟩ => ⟨τ, M, _, hs, hm, h, fun x M1 v H1 m1 e1 i1 h1 => by
    cases i1 with
    | bl k => cases k with
      | true => exact ⟨true, rfl, by rw [if_pos rfl]; exact ⟨τ, M1, Q', hs.mono e1, m1, h1, hq.ext e1⟩⟩
      | false => exact ⟨false, rfl, by rw [if_neg Bool.false_ne_true]; exact hq _ M1 _ H1 m1 e1 (.bl false) h1⟩
    | _ => exact h1.elim⟩
theorem d_or (ha : PE X a (low X.K ta)) (hb : PE X (.BoolOp .Or (b :: rest) pos) (low X.K tb)) : PE X (.BoolOp .Or (a :: b :: rest) pos) (low X.K (vOr ta tb)) :=
  L2.PE.imp (pe_or ha hb) fun σ H Q ⟨τ, M, Q', hs, hm, h, hq⟩ => ⟨τ, M, _, hs, hm, h, fun x M1 v H1 m1 e1 i1 h1 => by
    cases i1 with
    | bl k => cases k with
      | true => exact ⟨true, rfl, by rw [if_pos rfl]; exact hq _ M1 _ H1 m1 e1 (.bl true) h1⟩
      | false => exact ⟨false, rfl, by rw [if_neg Bool.false_ne_true]; exact ⟨τ, M1, Q', hs.mono e1, m1, h1, hq.ext e1⟩⟩
    | _ => exact h1.elim⟩
theorem d_not (ha : PE X a (low X.K ta)) : PE X (.UnaryOp .Not a pos) (low X.K (vNot ta)) :=
  L2.PE.imp (pe_not ha) fun σ H Q ⟨τ, M, Q', hs, hm, h, hq⟩ => ⟨τ, M, _, hs, hm, h, fun x M1 v H1 m1 e1 i1 h1 => by
    cases i1 with
    | bl k => exact ⟨k, rfl, hq _ M1 _ H1 m1 e1 (.bl _) h1⟩
    | _ => exact h1.elim⟩
end

/-! ### statements -/
section
variable {X : Cx} {st : Stmt} {rest : List Stmt} {t u : TSd} {e c : Expr} {te : TEd} {tc : TTd} {pos : Pos}
noncomputable def sNext : TSd := fun D τ M => D.nx τ M
noncomputable def sSeq (t u : TSd) : TSd := fun D τ M => t { D with nx := u D } τ M
theorem ss_nil : PSs X [] (lowS X.K sNext) := pss_nil.imp fun D σ H ⟨τ, M, D', hs, hm, h, hd⟩ => hd.nx τ M σ H hs hm (Ext.refl H) h
theorem ss_cons (h1 : PS X st (lowS X.K t)) (h2 : PSs X rest (lowS X.K u)) : PSs X (st :: rest) (lowS X.K (sSeq t u)) :=
  (pss_cons h1 h2).imp fun D σ H ⟨τ, M, D', hs, hm, h, hd⟩ =>
    ⟨τ, M, { D' with nx := u D' }, hs, hm, h, ⟨fun τ1 M1 σ1 H1 s1 m1 e1 q => ⟨τ1, M1, D', s1, m1, q, hd.ext e1⟩, hd.rt, hd.bk, hd.ct⟩⟩
theorem ss_one (h1 : PS X st (lowS X.K t)) : PSs X [st] (lowS X.K t) := pss_one h1
noncomputable def sDrop (te : TEd) : TSd := fun D τ M => te τ M fun _ M1 => D.nx τ M1
theorem s_expr (he : PE X e (low X.K te)) (hs : swapsWith e none pos.line X.env = pure false := by rfl) : PS X (.Expr e pos) (lowS X.K (sDrop te)) :=
  (ps_expr he hs).imp fun D σ H ⟨τ, M, D', hs, hm, h, hd⟩ => ⟨τ, M, _, hs, hm, h, fun _ M1 _ H1 m1 e1 _ q => hd.nx τ M1 σ H1 (hs.mono e1) m1 e1 q⟩
noncomputable def sRet (te : TEd) : TSd := fun D τ M => te τ M D.rt
theorem s_ret (he : PE X e (low X.K te)) : PS X (.Return (some e) pos) (lowS X.K (sRet te)) :=
  (ps_ret he).imp fun D σ H ⟨τ, M, D', hs, hm, h, hd⟩ => ⟨τ, M, _, hs, hm, h, hd.rt⟩
noncomputable def sIf (c : TTd) (t u : TSd) : TSd := fun D τ M => c τ M fun k M1 => if k = true then t D τ M1 else u D τ M1
theorem s_if {a b : List Stmt} (hc : PT X c (lowT X.K tc)) (ha : PSs X a (lowS X.K t)) (hb : PSs X b (lowS X.K u)) : PS X (.If c a b pos) (lowS X.K (sIf tc t u)) :=
  (ps_if hc ha hb).imp fun D σ H ⟨τ, M, D', hs, hm, h, hd⟩ => ⟨τ, M, _, hs, hm, h, fun k M1 H1 m1 e1 q => by
    cases k with
    | true => rw [if_pos rfl] at q ⊢; exact ⟨τ, M1, D', hs.mono e1, m1, q, hd.ext e1⟩
    | false => rw [if_neg Bool.false_ne_true] at q ⊢; exact ⟨τ, M1, D', hs.mono e1, m1, q, hd.ext e1⟩⟩
noncomputable def sNever : TSd := fun _ _ _ => False
theorem s_never : PS X st (lowS X.K sNever) := fun _ _ _ _ _ _ ⟨_, _, _, _, _, h, _⟩ => h.elim
/-! targets -/
noncomputable abbrev TGd := D → DSt → DH → (DSt → DH → Prop) → Prop
noncomputable abbrev TGsd := List D → DSt → DH → (DSt → DH → Prop) → Prop
noncomputable def lowG (K : PySem.W.Frag) (g : TGd) : TG := fun v σ H Q => ∃ d τ M Q', Is K H v d ∧ SAbs K τ σ H ∧ HAbs K M H ∧ g d τ M Q' ∧ ∀ τ1 M1 σ1 H1, SAbs K τ1 σ1 H1 → HAbs K M1 H1 → Ext K H H1 → Q' τ1 M1 → Q σ1 H1
noncomputable def lowGs (K : PySem.W.Frag) (g : TGsd) : TGs := fun vs σ H Q => ∃ ds τ M Q', Iss K H vs ds ∧ SAbs K τ σ H ∧ HAbs K M H ∧ g ds τ M Q' ∧ ∀ τ1 M1 σ1 H1, SAbs K τ1 σ1 H1 → HAbs K M1 H1 → Ext K H H1 → Q' τ1 M1 → Q σ1 H1
theorem _root_.L2.PG.imp {tg : Expr} {t t' : TG} (h : PG X tg t) (hi : ∀ v σ H Q, t' v σ H Q → t v σ H Q) : PG X tg t' := fun pins s σ H v u Q I r q => h pins s σ H v u Q I r (hi _ _ _ _ q)
theorem _root_.L2.PGs.imp {tg : List Expr} {t t' : TGs} (h : PGs X tg t) (hi : ∀ v σ H Q, t' v σ H Q → t v σ H Q) : PGs X tg t' := fun pins s σ H v u Q I r q => h pins s σ H v u Q I r (hi _ _ _ _ q)
noncomputable def hName (i : Nat) : TGd := fun d τ M Q => Q (τ.set i (some d)) M
theorem g_name {i : Nat} {x : Str} (hN : X.N.Nodup) (hi : X.N[i]? = some x := by rfl) (hx : Loc X.env.scope x := by first | exact Or.inl rfl | exact Or.inr rfl) (hf : X.fn x = true ∨ X.env.scope.names.lookup x = some .local := by first | exact .inl rfl | exact .inr rfl | assumption) : PG X (.Name x pos) (lowG X.K (hName i)) :=
  (pg_name hN hi hx hf).imp fun v σ H Q ⟨d, τ, M, Q', i, hs, hm, h, hq⟩ => hq _ M _ H (hs.set i) hm (Ext.refl H) h
noncomputable def hNil : List D → DSt → DH → (DSt → DH → Prop) → Prop
  | [], τ, M, Q => Q τ M
  | _ :: _, _, _, _ => False
noncomputable def hCons (g : TGd) (gs : TGsd) : List D → DSt → DH → (DSt → DH → Prop) → Prop
  | d :: r, τ, M, Q => g d τ M fun τ1 M1 => gs r τ1 M1 Q
  | [], _, _, _ => False
theorem gs_nil : PGs X [] (lowGs X.K hNil) := pgs_nil.imp fun v σ H Q ⟨ds, τ, M, Q', iss, hs, hm, h, hq⟩ => by
  cases iss with
  | nil => exact ⟨rfl, hq τ M σ H hs hm (Ext.refl H) h⟩
  | cons _ _ => exact h.elim
theorem gs_cons {es : List Expr} {g : TGd} {gs : TGsd} (h1 : PG X e (lowG X.K g)) (h2 : PGs X es (lowGs X.K gs))
    (hs : (assignEach (e :: es) X.env).map (·.2) = assign e X.env :: (assignEach es X.env).map (·.2) := by rfl) : PGs X (e :: es) (lowGs X.K (hCons g gs)) :=
  (pgs_cons h1 h2 hs).imp fun v σ H Q ⟨ds, τ, M, Q', iss, hs, hm, h, hq⟩ => by
    cases iss with
    | nil => exact h.elim
    | cons i t => exact ⟨_, _, rfl, _, τ, M, _, i, hs, hm, h, fun τ1 M1 σ1 H1 s1 m1 e1 q => ⟨_, τ1, M1, Q', t.mono e1, s1, m1, q, fun τ2 M2 σ2 H2 s2 m2 e2 q2 => hq τ2 M2 σ2 H2 s2 m2 (e1.trans e2) q2⟩⟩
noncomputable def hTup (gs : TGsd) : D → DSt → DH → (DSt → DH → Prop) → Prop
  | .tup ds, τ, M, Q => gs ds τ M Q
  | _, _, _, _ => False
theorem g_tup {es : List Expr} {k n : Nat} {gs : TGsd} (hc : X.calm = true) (h : PGs X es (lowGs X.K gs)) (hln : ∀ ds τ M Q, gs ds τ M Q → ds.length = n)
    (hn : (assignEach es X.env).length = n := by rfl) (hst : (assignEach es X.env).findIdx? (·.1) = none := by rfl) : PG X (.Tuple es k pos) (lowG X.K (hTup gs)) :=
  (pg_tup hc h hn hst).imp fun v σ H Q ⟨d, τ, M, Q', i, hs, hm, h, hq⟩ => by
    cases i with
    | tup hx hxs => exact ⟨_, _, rfl, hx, by rw [hxs.length]; exact hln _ _ _ _ h, _, τ, M, Q', hxs, hs, hm, h, hq⟩
    | _ => exact h.elim
/-- o[i] = v of a list -/
noncomputable def setD : D → D → D → DH → (DH → Prop) → Prop
  | .ref l, .int i, d, M, Q => ∃ xs j, M l = some (.lst xs) ∧ ixN xs.length i = some j ∧ Q (updM M l (.lst (xs.set j d)))
  | _, _, _, _, _ => False
noncomputable def hSub (to ti : TEd) : TGd := fun d τ M Q => to τ M fun x M1 => ti τ M1 fun y M2 => setD x y d M2 fun M3 => Q τ M3
theorem g_sub {o i : Expr} {to ti : TEd} (ho : PE X o (low X.K to)) (hi : PE X i (low X.K ti))
    (ha : ∀ v, assign (.Subscript o i pos) X.env v = (do
      let ov ← holding [v] (eval o X.env)
      let iv ← holding [v, ov] (eval i X.env)
      standAt pos
      holding [v, ov, iv] (setItem ov iv v)
      release [v, ov, iv] []) := by intro _; rfl) : PG X (.Subscript o i pos) (lowG X.K (hSub to ti)) :=
  (pg_sub ho hi set_list ha).imp fun v σ H Q ⟨d, τ, M, Q', i, hs, hm, h, hq⟩ =>
    ⟨τ, M, _, hs, hm, h, fun x M1 vx H1 m1 e1 i1 h1 => ⟨τ, M1, _, hs.mono e1, m1, h1, fun y M2 vy H2 m2 e2 i2 h2 => by
      have i1' := i1.mono e2
      match x, y, h2, i1', i2 with
      | .ref l, .int k, h2, i1', i2 =>
        obtain ⟨xs, j, hl, hj, q⟩ := h2
        cases i1' with
        | ref =>
          (first | cases i2.inv | cases i2)
          obtain ⟨ys, z1, z2⟩ := m2 l _ hl
          have e12 := e1.trans e2
          obtain ⟨m3, e3⟩ := m2.setL hl z1 (z2.set (i.mono e12) j)
          exact ⟨l, ys, k, j, rfl, rfl, z1, by rw [z2.length]; exact hj, hq τ _ σ _ (hs.mono (e12.trans e3)) m3 (e12.trans e3) q⟩⟩⟩
noncomputable def sAsg (te : TEd) (g : TGd) : TSd := fun D τ M => te τ M fun x M1 => g x τ M1 D.nx
theorem low_asg {K : PySem.W.Frag} {g : TGd} {D : Ends} {σ : St} {H : Hp} (h : lowS K (sAsg te g) D σ H) : tAsg (low K te) (lowG K g) D σ H := by
  obtain ⟨τ, M, D', hs, hm, h, hd⟩ := h
  exact ⟨τ, M, _, hs, hm, h, fun x M1 v H1 m1 e1 i1 q => ⟨x, τ, M1, _, i1, hs.mono e1, m1, q, fun τ2 M2 σ2 H2 s2 m2 e2 q2 => hd.nx τ2 M2 σ2 H2 s2 m2 (e1.trans e2) q2⟩⟩
theorem s_asg {tg : Expr} {g : TGd} (he : PE X e (low X.K te)) (hg : PG X tg (lowG X.K g)) (hs : swapsWithSole [tg] e pos.line X.env = pure false := by rfl) (hw : swappedStores [tg] e X.env = pure none := by rfl)
    (h1 : (assignEach [tg] X.env).map (·.2) = [assign tg X.env] := by rfl) : PS X (.Assign [tg] e pos) (lowS X.K (sAsg te g)) :=
  (ps_asg he hg hs hw h1).imp fun _ _ _ h => low_asg h
theorem s_set {i : Nat} {x : Str} {pos' : Pos} (hN : X.N.Nodup) (he : PE X e (low X.K te)) (hi : X.N[i]? = some x := by rfl) (hx : Loc X.env.scope x := by first | exact Or.inl rfl | exact Or.inr rfl) (hs : swapsWith e (some (.Name x pos')) pos.line X.env = pure false := by rfl) (hf : X.fn x = true ∨ X.env.scope.names.lookup x = some .local := by first | exact .inl rfl | exact .inr rfl | assumption) :
    PS X (.Assign [.Name x pos'] e pos) (lowS X.K (sAsg te (hName i))) :=
  (ps_set hN hi hx he hs hf).imp fun D σ H ⟨τ, M, D', hs, hm, h, hd⟩ => ⟨τ, M, _, hs, hm, h, fun x M1 v H1 m1 e1 i1 q => hd.nx _ M1 _ H1 ((hs.mono e1).set i1) m1 e1 q⟩
/-- name += e of ints, texts -/
noncomputable def iaddD : D → D → DH → KD → Prop
  | .int i, .int j, M, Q => Q (.int (i + j)) M
  | .str i, .str j, M, Q => i.length + j.length ≤ sizeLine ∧ Q (.str (i ++ j)) M
  | _, _, _, _ => False
theorem ip_iadd : PIp X .Add (lowR2 X.K iaddD) := by
  intro pins s σ H vx vy v u Q I rx ry ⟨x, y, M, Q', ix, iy, hm, q, hq⟩
  cases ix with
  | int i => cases iy with
    | int j => exact iop_add pins s σ H _ _ v u Q I rx ry ⟨_, _, rfl, rfl, hq.here hm (.int _) q⟩
    | _ => exact q.elim
  | str i => cases iy with
    | str j => exact iop_add_str pins s σ H _ _ v u Q I rx ry ⟨_, _, rfl, rfl, q.1, hq.here hm (.str _) q.2⟩
    | _ => exact q.elim
  | _ => cases iy <;> exact q.elim
noncomputable def sAug (i : Nat) (te : TEd) : TSd := fun E τ M => onVal τ[i]? fun x => te τ M fun y M1 => iaddD x y M1 fun z M2 => E.nx (τ.set i (some z)) M2
theorem s_aug {i : Nat} {x : Str} {pos' : Pos} (hN : X.N.Nodup) (he : PE X e (low X.K te)) (hi : X.N[i]? = some x := by rfl) (hx : Loc X.env.scope x := by first | exact Or.inl rfl | exact Or.inr rfl) (hf : X.fn x = true ∨ X.env.scope.names.lookup x = some .local := by first | exact .inl rfl | exact .inr rfl | assumption) :
    PS X (.AugAssign (.Name x pos') .Add e pos) (lowS X.K (sAug i te)) :=
  (ps_aug hN hi hx he ip_iadd hf).imp fun D σ H ⟨τ, M, D', hs, hm, h, hd⟩ => by
    obtain ⟨d, hd', h⟩ := onVal_some h
    · obtain ⟨v, h1, h2⟩ := hs.2 _ d hd'
      exact ⟨v, h1, τ, M, _, hs, hm, h, fun y M1 vy H1 m1 e1 i1 q => ⟨d, y, M1, _, h2.mono e1, i1, m1, q, fun z M2 vz H2 m2 e2 i2 q2 => hd.nx _ M2 _ H2 ((hs.mono (e1.trans e2)).set i2) m2 (e1.trans e2) q2⟩⟩
end
end DL

/-! Loops and defs over data. -/
namespace DL
open PySem PySem.Spec PyProof.Rows L2

section
variable {X : Cx} {e c tg : Expr} {te : TEd} {tc : TTd} {tb : TSd} {g : TGd} {pos : Pos}
/-! ### while -/
noncomputable def sWhile (c : TTd) (tb : TSd) : TSd := fun D τ M => ∃ W : Nat → DSt → DH → Prop, (∃ m, W m τ M) ∧ ∀ m τ M, W m τ M →
  c τ M fun k M1 => if k = true then tb { D with nx := fun τ' M' => ∃ m', m' < m ∧ W m' τ' M', ct := fun τ' M' => ∃ m', m' < m ∧ W m' τ' M', bk := D.nx } τ M1 else D.nx τ M1
theorem s_while {body : List Stmt} (hp : PassesOwn (model X.prog X.w) X.A X.env X.xe) (hc : PT X c (lowT X.K tc)) (hb : PSs X body (lowS X.K tb)) : PS X (.While c body [] pos) (lowS X.K (sWhile tc tb)) :=
  (ps_while hp hc hb).imp fun D σ H ⟨τ, M, D', hs, hm, ⟨W, ⟨m0, w0⟩, turn⟩, hd⟩ => by
    refine ⟨fun m σ1 H1 => ∃ τ1 M1, SAbs X.K τ1 σ1 H1 ∧ HAbs X.K M1 H1 ∧ Ext X.K H H1 ∧ W m τ1 M1, ⟨m0, τ, M, hs, hm, Ext.refl H, w0⟩, ?_⟩
    rintro m σ1 H1 ⟨τ1, M1, s1, m1, e1, w1⟩
    refine ⟨τ1, M1, _, s1, m1, turn m τ1 M1 w1, fun k M2 H2 m2 e2 q2 => ?_⟩
    cases k with
    | true =>
      rw [if_pos rfl] at q2 ⊢
      refine ⟨_, fun σ3 H3 h3 => h3, τ1, M2, _, s1.mono e2, m2, q2, ⟨?_, hd.rt.ext (e1.trans e2), ?_, ?_⟩⟩
      · rintro τ3 M3 σ3 H3 s3 m3 e3 ⟨m', hm', w3⟩
        exact ⟨m', hm', τ3, M3, s3, m3, e1.trans (e2.trans e3), w3⟩
      · intro τ3 M3 σ3 H3 s3 m3 e3 q3
        exact hd.nx τ3 M3 σ3 H3 s3 m3 (e1.trans (e2.trans e3)) q3
      · rintro τ3 M3 σ3 H3 s3 m3 e3 ⟨m', hm', w3⟩
        exact ⟨m', hm', τ3, M3, s3, m3, e1.trans (e2.trans e3), w3⟩
    | false =>
      rw [if_neg Bool.false_ne_true] at q2 ⊢
      exact hd.nx τ1 M2 σ1 H2 (s1.mono e2) m2 (e1.trans e2) q2

/-! ### what is walked -/
theorem walks_imp {prog : Program} {w : World} {A : Around} {I : Addr} {fp wr : List Addr} {n : Nat} {P P' : Nat → Value → Prop} {St : Nat → Heap → Prop} (W : Walks prog w A I fp wr n P St) (h : ∀ i v, P i v → P' i v) : Walks prog w A I fp wr n P' St :=
  ⟨W.sub, W.frame, fun i s Q E hi st hQ => W.item i s Q E hi st fun v h' tk hp => hQ v h' tk (h i v hp), W.done, W.self⟩
/-- f 0, f 1, .. (n of them), whatever the heap -/
noncomputable def Itf (n : Nat) (f : Nat → V) : It := ⟨fun i _ => i < n, fun i H x H' => H' = H ∧ x = f i, fun i _ => i = n⟩
theorem turn_walks {P : Program} {w : World} {K : PySem.W.Frag} {tg : Expr} (it : Addr) (n : Nat) (f : Nat → V) (St : Nat → Heap → Prop) (W : ∀ A : Around, A.handled = none → Walks P w A it [it] [it] n (fun i v => RelV (f i) v) St)
    (hobj : ∀ i h, St i h → ∃ (o : Obj) (ty : String) (vs : Array Value), h.get? it = some o ∧ o.cls = .type ty ∧ o.data = .fields vs ∧ ["enumerate", "zip", "dict_itemiterator", "dict_reverseitemiterator", "odict_iterator", "itertools.zip_longest", "itertools.pairwise"].contains ty = false)
    (self : ∀ (A : Around) (i : Nat) (s : Shared) (Q : Value → Shared → Prop) (E : Value → Shared → Prop), St i s.heap → Q (.ref it) s → wpAny (model P w) A (pyIter (.ref it)) Q E s) :
    Turn P w K tg (Itf n f) [it] it St where
  mem := by simp
  obj := fun i h st b hb => by
    have e : b = it := by simpa using hb
    subst e
    obtain ⟨o, ty, vs, h1, h2, h3, _⟩ := hobj i h st
    exact ⟨o, h1, fun v z => by rw [h3] at z; cases z⟩
  keep := fun i h h' st k => (W { depth := 0, units := 0, handled := none, frames := none } rfl).frame i h h' st k
  item := by
    intro X hP hw hK hc i pins s σ H E I hf st hg
    subst hP hw hK
    obtain ⟨f0, f1, f2, f3, f4, f5⟩ := hf it (by simp)
    refine (W X.A (I.ok.hd hc)).item i s _ _ hg st fun v h' tk hv st' kk => ?_
    have I1 : Inv X pins σ H { s with heap := h', toks := tk } := I.turned (fun b o hb e => kk b o (by simpa using hb) e) f0 f1 f3 f4 f5
    obtain ⟨o, ty, vs, h1, h2, h3, h4⟩ := hobj _ _ st'
    exact ⟨_, rfl, go_of (s := { s with heap := h', toks := tk }) (n := ty) h1 h2 h3 h4 ⟨f i, H, I1, hv, ⟨rfl, rfl⟩, st', fun b hb => (hf b hb).1⟩⟩
  done := by
    intro X hP hw hK hc i pins s σ H E I hf st hg
    subst hP hw hK
    obtain ⟨f0, f1, f2, f3, f4, f5⟩ := hf it (by simp)
    have e : i = n := hg
    subst e
    exact (W X.A (I.ok.hd hc)).done s _ _ st fun h' tk kk => ⟨rfl, I.turned (fun b o hb e => kk b o (by simpa using hb) e) f0 f1 f3 f4 f5⟩
  self := self
/-! ### for over a list, a tuple, a text -/
noncomputable def signV (z : Str) (i : Nat) : V := .str ⟨#[z.cps.getD i 0]⟩
noncomputable def iAny (K : PySem.W.Frag) (tl : TE) : TI := fun σ H R => tl σ H fun x H1 => (∃ a, x = .ref a ∧ (((∃ xs, SqL K H1 a xs) ∧ R (Itl K a) H1) ∨ ((∃ xs, SqT K H1 a xs) ∧ R (Itt K a) H1))) ∨ ∃ z, x = .str z ∧ R (Itf z.cps.size (signV z)) H1
theorem pi_any {l : Expr} {tl : TE} (hl : PE X l tl) : PI X tg l (iAny X.K tl) := by
  intro pins s σ H R I h
  refine thn (hl pins s σ H _ I h) fun v s1 ⟨x, H1, I1, r1, q1⟩ => ?_
  have fr : ∀ b ∈ [s1.heap.objs.size], FpOk X pins H1 b := fun b hb => by
    have e : b = s1.heap.objs.size := by simpa using hb
    subst e
    exact I1.fpOk (Nat.le_refl _) (I1.hok.fresh (Nat.le_refl _))
  rcases q1 with ⟨a, e, q1⟩ | ⟨z, e, q⟩
  · subst e
    cases r1
    rcases q1 with ⟨⟨xs, hq⟩, q⟩ | ⟨⟨xs, hq⟩, q⟩
    · obtain ⟨its, rv, p, hz⟩ := I1.list hq
      refine wpAny_pyIter_list p.isList ?_
      exact ⟨s1.heap.objs.size, [s1.heap.objs.size], _, _, H1, rfl, I1.kept (t' := s1.toks) fun b o e => Heap.get?_push_of_some _ e, turn_list a _, ⟨_, Heap.get?_push_size _ rfl, rfl, rfl⟩, fr, q⟩
    · obtain ⟨its, rv, p, hz⟩ := I1.tuple hq
      refine wpAny_pyIter_tuple (show s1.heap.IsTuple a its.toArray from p) ?_
      exact ⟨s1.heap.objs.size, [s1.heap.objs.size], _, _, H1, rfl, I1.kept (t' := s1.toks) fun b o e => Heap.get?_push_of_some _ e, turn_tuple a _, ⟨_, Heap.get?_push_size _ rfl, rfl, rfl⟩, fr, q⟩
  · subst e
    obtain ⟨t, rfl⟩ := r1
    have hrel : ∀ (i : Nat) (v : Value), (∃ c u, z.cps[i]? = some c ∧ v = .str ⟨#[c]⟩ u) → RelV (signV z i) v := fun i v ⟨c, u, e1, e2⟩ => by
      refine ⟨u, ?_⟩
      have : z.cps.getD i 0 = c := by rw [Array.getD_eq_getD_getElem?, e1]; rfl
      rw [e2, this]
    cases ha : z.cps.all (· < 128) with
    | true =>
      refine wpAny_pyIter_ascii ha ?_
      refine ⟨s1.heap.objs.size, [s1.heap.objs.size], _, _, H1, rfl, I1.kept (t' := s1.toks) fun b o e => Heap.get?_push_of_some _ e, turn_walks s1.heap.objs.size z.cps.size (signV z) (fun i h => h.IsStrIter s1.heap.objs.size "str_ascii_iterator" z t i)
        (fun A hA => walks_imp (Walks.strAscii (A := A) hA s1.heap.objs.size z t) hrel) (fun i h ⟨o, h1, h2, h3⟩ => ⟨o, _, _, h1, h2, h3, by decide⟩) (fun _ _ _ _ _ st h => wpAny_pyIter_striter_ascii st h), ⟨_, Heap.get?_push_size _ rfl, rfl, rfl⟩, fr, q⟩
    | false =>
      refine wpAny_pyIter_wide ha ?_
      refine ⟨s1.heap.objs.size, [s1.heap.objs.size], _, _, H1, rfl, I1.kept (t' := s1.toks) fun b o e => Heap.get?_push_of_some _ e, turn_walks s1.heap.objs.size z.cps.size (signV z) (fun i h => h.IsStrIter s1.heap.objs.size "str_iterator" z t i)
        (fun A hA => walks_imp (Walks.strWide (A := A) hA s1.heap.objs.size z t) hrel) (fun i h ⟨o, h1, h2, h3⟩ => ⟨o, _, _, h1, h2, h3, by decide⟩) (fun _ _ _ _ _ st h => wpAny_pyIter_striter_wide st h), ⟨_, Heap.get?_push_size _ rfl, rfl, rfl⟩, fr, q⟩
/-- the iterator gives these data -/
structure Gives (K : PySem.W.Frag) (J : It) (ds : List D) (H : Hp) : Prop where
  go : ∀ i, i < ds.length → J.go i H
  yld : ∀ i x H', i < ds.length → J.yld i H x H' → H' = H ∧ ∃ d, ds[i]? = some d ∧ Is K H x d
  stop : J.stop ds.length H
theorem gives_list {K : PySem.W.Frag} {H : Hp} {a : Addr} {xs : List V} {ds : List D} (h : SqL K H a xs) (i : Iss K H xs ds) : Gives K (Itl K a) ds H :=
  ⟨fun j hj => let ⟨v, e, _⟩ := i.get (List.getElem?_eq_getElem hj); ⟨xs, v, h, e⟩, fun j x H' _ ⟨e, y⟩ => ⟨e, i.getV (y xs h)⟩, ⟨xs, h, by rw [i.length]; exact Nat.le_refl _⟩⟩
theorem gives_tup {K : PySem.W.Frag} {H : Hp} {a : Addr} {xs : List V} {ds : List D} (h : SqT K H a xs) (i : Iss K H xs ds) : Gives K (Itt K a) ds H :=
  ⟨fun j hj => let ⟨v, e, _⟩ := i.get (List.getElem?_eq_getElem hj); ⟨xs, v, h, e⟩, fun j x H' _ ⟨e, y⟩ => ⟨e, i.getV (y xs h)⟩, ⟨xs, h, by rw [i.length]; exact Nat.le_refl _⟩⟩
noncomputable def signs (z : Str) : List D := z.cps.toList.map fun c => .str ⟨#[c]⟩
theorem signs_length (z : Str) : (signs z).length = z.cps.size := by simp [signs]
theorem gives_str {K : PySem.W.Frag} {H : Hp} (z : Str) : Gives K (Itf z.cps.size (signV z)) (signs z) H :=
  ⟨fun j hj => by rw [signs_length] at hj; exact hj, fun j x H' hj ⟨e, y⟩ => by
    refine ⟨e, .str ⟨#[z.cps.getD j 0]⟩, ?_, by rw [y]; exact .str _⟩
    rw [signs_length] at hj
    unfold signs
    rw [List.getElem?_map, Array.getElem?_toList, Array.getElem?_eq_getElem hj]
    simp [Array.getD_eq_getD_getElem?, hj], by rw [signs_length]; exact rfl⟩
/-- ds are walked; st: what keeps the walked thing -/
noncomputable def walkD (ds : List D) (st : DH → Prop) (g : TGd) (tb : TSd) (E : EndsD) (τ : DSt) (M : DH) : Prop := ∃ W : Nat → DSt → DH → Prop, W 0 τ M ∧ (∀ i τ M, i ≤ ds.length → W i τ M → st M) ∧
  (∀ i d τ M, ds[i]? = some d → W i τ M → g d τ M fun τ2 M2 => tb { E with nx := W (i + 1), ct := W (i + 1), bk := E.nx } τ2 M2) ∧ ∀ τ M, W ds.length τ M → E.nx τ M
noncomputable def forD (g : TGd) (tb : TSd) (E : EndsD) (τ : DSt) : D → DH → Prop
  | .tup ds, M => walkD ds (fun _ => True) g tb E τ M
  | .rol ds, M => walkD ds (fun _ => True) g tb E τ M
  | .str z, M => walkD (signs z) (fun _ => True) g tb E τ M
  | .ref l, M => ∃ ds, M l = some (.lst ds) ∧ walkD ds (fun M => M l = some (.lst ds)) g tb E τ M
  | _, _ => False
noncomputable def sFor (te : TEd) (g : TGd) (tb : TSd) : TSd := fun E τ M => te τ M fun x M1 => forD g tb E τ x M1
theorem lowEnds {K : PySem.W.Frag} {H H1 : Hp} {D' : EndsD} {E : Ends} {W : DSt → DH → Prop} (hd : LowD K H D' E) (e : Ext K H H1) :
    LowD K H1 { D' with nx := W, ct := W, bk := D'.nx } { E with nx := fun σ H2 => ∃ τ M, SAbs K τ σ H2 ∧ HAbs K M H2 ∧ Ext K H H2 ∧ W τ M, ct := fun σ H2 => ∃ τ M, SAbs K τ σ H2 ∧ HAbs K M H2 ∧ Ext K H H2 ∧ W τ M, bk := E.nx } :=
  ⟨fun τ M σ H2 s2 m2 e2 q => ⟨τ, M, s2, m2, e.trans e2, q⟩, hd.rt.ext e, fun τ M σ H2 s2 m2 e2 q => hd.nx τ M σ H2 s2 m2 (e.trans e2) q, fun τ M σ H2 s2 m2 e2 q => ⟨τ, M, s2, m2, e.trans e2, q⟩⟩
theorem low_turn {K : PySem.W.Frag} {H H1 : Hp} {D' : EndsD} {E : Ends} {g : TGd} {tb : TSd} {d : D} {v : V} {τ : DSt} {σ : St} {M : DH} {W : DSt → DH → Prop} (hd : LowD K H D' E) (e1 : Ext K H H1) (i : Is K H1 v d) (s1 : SAbs K τ σ H1) (m1 : HAbs K M H1)
    (h : g d τ M fun τ2 M2 => tb { D' with nx := W, ct := W, bk := D'.nx } τ2 M2) :
    lowG K g v σ H1 fun σ2 H2 => lowS K tb { E with nx := fun σ H2 => ∃ τ M, SAbs K τ σ H2 ∧ HAbs K M H2 ∧ Ext K H H2 ∧ W τ M, ct := fun σ H2 => ∃ τ M, SAbs K τ σ H2 ∧ HAbs K M H2 ∧ Ext K H H2 ∧ W τ M, bk := E.nx } σ2 H2 :=
  ⟨d, τ, M, _, i, s1, m1, h, fun τ2 M2 σ2 H2 s2 m2 e2 q2 => ⟨τ2, M2, _, s2, m2, q2, lowEnds hd (e1.trans e2)⟩⟩
/-- a loop over anything that gives the data -/
theorem for_gives {K : PySem.W.Frag} {J : It} {ds : List D} {st : DH → Prop} {g : TGd} {tb : TSd} {D' : EndsD} {E : Ends} {τ : DSt} {σ : St} {M : DH} {H H1 : Hp} (hd : LowD K H D' E) (e1 : Ext K H H1) (s1 : SAbs K τ σ H1) (m1 : HAbs K M H1)
    (hg : ∀ M2 H2, HAbs K M2 H2 → Ext K H1 H2 → st M2 → Gives K J ds H2) (h : walkD ds st g tb D' τ M) :
    ∃ W : Nat → Nat → St → Hp → Prop, (∃ m, W 0 m σ H1) ∧ ∀ i m σ H, W i m σ H →
      (J.stop i H ∧ E.nx σ H) ∨ (J.go i H ∧ ∃ N : St → Hp → Prop, (∀ σ' H', N σ' H' → ∃ m', m' < m ∧ W (i + 1) m' σ' H') ∧ ∀ x H', J.yld i H x H' → lowG K g x σ H' fun σ2 H2 => lowS K tb { E with nx := N, ct := N, bk := E.nx } σ2 H2) := by
  obtain ⟨W, w0, stay, turn, done⟩ := h
  refine ⟨fun i m σ2 H2 => m = ds.length - i ∧ i ≤ ds.length ∧ ∃ τ2 M2, SAbs K τ2 σ2 H2 ∧ HAbs K M2 H2 ∧ Ext K H1 H2 ∧ W i τ2 M2, ⟨ds.length, by simp, Nat.zero_le _, τ, M, s1, m1, Ext.refl H1, w0⟩, ?_⟩
  rintro i m σ2 H2 ⟨rfl, hi, τ2, M2, s2, m2, e2, w2⟩
  have G := hg M2 H2 m2 e2 (stay i τ2 M2 hi w2)
  by_cases hlt : i < ds.length
  · refine .inr ⟨G.go i hlt, fun σ3 H3 => ∃ τ3 M3, SAbs K τ3 σ3 H3 ∧ HAbs K M3 H3 ∧ Ext K H1 H3 ∧ W (i + 1) τ3 M3, fun σ3 H3 p => ⟨ds.length - (i + 1), by omega, rfl, hlt, p⟩, fun x H' y => ?_⟩
    obtain ⟨rfl, d, ed, id⟩ := G.yld i x H' hlt y
    exact low_turn (hd.ext e1) e2 id s2 m2 (turn i d τ2 M2 ed w2)
  · have e : i = ds.length := by omega
    subst e
    exact .inl ⟨G.stop, hd.nx τ2 M2 σ2 H2 s2 m2 (e1.trans e2) (done τ2 M2 w2)⟩
theorem s_for {iter : Expr} {body : List Stmt} (hp : PassesOwn (model X.prog X.w) X.A X.env X.xe) (hc : X.calm = true) (hi : PE X iter (low X.K te)) (hg : PG X tg (lowG X.K g)) (hb : PSs X body (lowS X.K tb))
    (hs : ∀ x, foldedSetIterable iter X.env x = pure x := by intro _; rfl) : PS X (.For tg iter body [] pos) (lowS X.K (sFor te g tb)) :=
  (ps_for hp hc (pi_any hi) hg hb hs).imp fun D σ H ⟨τ, M, D', hs, hm, h, hd⟩ => ⟨τ, M, _, hs, hm, h, fun x M1 v H1 m1 e1 i1 h1 => by
    cases i1 with
    | @tup a xs ds hx hxs => exact .inl ⟨a, rfl, .inr ⟨⟨xs, hx⟩, for_gives hd e1 (hs.mono e1) m1 (fun M2 H2 m2 e2 _ => gives_tup (e2.t _ _ hx) (hxs.mono e2)) h1⟩⟩
    | @rol a xs ds hx hxs => exact .inl ⟨a, rfl, .inl ⟨⟨xs, hx.sq⟩, for_gives hd e1 (hs.mono e1) m1 (fun M2 H2 m2 e2 _ => gives_list (e2.f _ _ hx).sq (hxs.mono e2)) h1⟩⟩
    | str z => exact .inr ⟨z, rfl, for_gives hd e1 (hs.mono e1) m1 (fun M2 H2 m2 e2 _ => gives_str z) h1⟩
    | ref l =>
      obtain ⟨ds, hl, w⟩ := h1
      obtain ⟨xs, hx, hxs⟩ := m1 l _ hl
      exact .inl ⟨l, rfl, .inl ⟨⟨xs, SqL.of hx⟩, for_gives hd e1 (hs.mono e1) m1 (fun M2 H2 m2 e2 hl2 => let ⟨ys, hy, iy⟩ := m2.lst hl2; gives_list hy iy) w⟩⟩
    | _ => exact h1.elim⟩

/-! ### for over a range -/
noncomputable def walkR (f : Nat → Int) (n : Nat) (g : TGd) (tb : TSd) (E : EndsD) (τ : DSt) (M : DH) : Prop := ∃ W : Nat → DSt → DH → Prop, W 0 τ M ∧
  (∀ i τ M, i < n → W i τ M → g (.int (f i)) τ M fun τ2 M2 => tb { E with nx := W (i + 1), ct := W (i + 1), bk := E.nx } τ2 M2) ∧ ∀ τ M, W n τ M → E.nx τ M
noncomputable def for1D (g : TGd) (tb : TSd) (E : EndsD) (τ : DSt) : List D → DH → Prop
  | [.int j], M => (-(2 ^ 62) ≤ j ∧ j < 2 ^ 62) ∧ walkR (fun i => (i : Int)) j.toNat g tb E τ M
  | _, _ => False
noncomputable def sFor1 (ta : TAd) (g : TGd) (tb : TSd) : TSd := fun E τ M => ta τ M fun vs M1 => for1D g tb E τ vs M1
theorem for_rangeD {K : PySem.W.Frag} {lo : Int} {n : Nat} {g : TGd} {tb : TSd} {D' : EndsD} {E : Ends} {τ : DSt} {σ : St} {M : DH} {H H1 : Hp} (hd : LowD K H D' E) (e1 : Ext K H H1) (s1 : SAbs K τ σ H1) (m1 : HAbs K M H1) (h : walkR (fun i => lo + (i : Int)) n g tb D' τ M) :
    ∃ W : Nat → Nat → St → Hp → Prop, (∃ m, W 0 m σ H1) ∧ ∀ i m σ H, W i m σ H →
      ((Itr lo n).stop i H ∧ E.nx σ H) ∨ ((Itr lo n).go i H ∧ ∃ N : St → Hp → Prop, (∀ σ' H', N σ' H' → ∃ m', m' < m ∧ W (i + 1) m' σ' H') ∧ ∀ x H', (Itr lo n).yld i H x H' → lowG K g x σ H' fun σ2 H2 => lowS K tb { E with nx := N, ct := N, bk := E.nx } σ2 H2) := by
  obtain ⟨W, w0, turn, done⟩ := h
  refine for_range (fun i σ2 H2 => ∃ τ2 M2, SAbs K τ2 σ2 H2 ∧ HAbs K M2 H2 ∧ Ext K H1 H2 ∧ W i τ2 M2) ⟨τ, M, s1, m1, Ext.refl H1, w0⟩ ?_ ?_
  · rintro i σ2 H2 hi ⟨τ2, M2, s2, m2, e2, w2⟩
    exact low_turn (hd.ext e1) e2 (.int _) s2 m2 (turn i τ2 M2 hi w2)
  · rintro σ2 H2 ⟨τ2, M2, s2, m2, e2, w2⟩
    exact hd.nx τ2 M2 σ2 H2 s2 m2 (e1.trans e2) (done τ2 M2 w2)
theorem s_for1 {a : Expr} {ta : TAd} {body : List Stmt} {p cpos : Pos} (hp : PassesOwn (model X.prog X.w) X.A X.env X.xe) (hc : X.calm = true) (hm : X.mg "range" = none) (ha : PA X [a] (lowA X.K ta)) (hg : PG X tg (lowG X.K g)) (hb : PSs X body (lowS X.K tb)) (hgl : Gl X "range" := by rfl)
    (hst : starEach [a] X.env = [(false, eval a X.env)] := by rfl) (hs : ∀ x, foldedSetIterable (.Call (.Name "range" p) [a] [] cpos) X.env x = pure x := by intro _; rfl) : PS X (.For tg (.Call (.Name "range" p) [a] [] cpos) body [] pos) (lowS X.K (sFor1 ta g tb)) :=
  (ps_for hp hc (pi_range1 hgl hm ha hst) hg hb hs).imp fun D σ H ⟨τ, M, D', hs, hm, h, hd⟩ => ⟨τ, M, _, hs, hm, h, fun ds M1 vs H1 m1 e1 i1 h1 => by
    match ds, h1, i1 with
    | [.int j], h1, i1 =>
      obtain ⟨v, rfl, i⟩ := iss1 i1
      (first | cases i.inv | cases i)
      obtain ⟨⟨q1, q2⟩, w⟩ := h1
      have w' : walkR (fun i => 0 + (i : Int)) j.toNat g tb D' τ M1 := by
        have e : (fun i : Nat => 0 + (i : Int)) = fun i : Nat => (i : Int) := by funext i; omega
        rw [e]; exact w
      exact ⟨j, rfl, q1, q2, for_rangeD hd e1 (hs.mono e1) m1 w'⟩⟩
/-! ### defs -/
noncomputable abbrev SpD := List D → DH → KD → Prop
noncomputable def lowSp (K : PySem.W.Frag) (sp : SpD) : Sp := fun vs H Q _ => ∃ ds M Q', Iss K H vs ds ∧ HAbs K M H ∧ sp ds M Q' ∧ lowQ K H Q' Q
/-- a def of the text keeps its promise -/
structure FnD (P : Program) (w : World) (K : PySem.W.Frag) (mg : Str → Option Value) (base : Heap) (k : Nat) (x : Str) (ps : List Str) (sp : SpD) : Prop where
  ex : ∃ f fd, FnOk P w K mg base CX0 k f fd ps (lowSp K sp) ∧ mg x = some (.ref f) ∧ PySem.W.keepIn K (.ref f) = true ∧ Binds K fd ps []
theorem FnD.mono {P : Program} {w : World} {K : PySem.W.Frag} {mg : Str → Option Value} {base : Heap} {j k : Nat} {x : Str} {ps : List Str} {sp : SpD} (F : FnD P w K mg base j x ps sp) (h : j ≤ k) : FnD P w K mg base k x ps sp :=
  let ⟨f, fd, a, b, c, d⟩ := F.ex; ⟨f, fd, a.mono h, b, c, d⟩
theorem FnD.imp {P : Program} {w : World} {K : PySem.W.Frag} {mg : Str → Option Value} {base : Heap} {k : Nat} {x : Str} {ps : List Str} {sp sp' : SpD} (F : FnD P w K mg base k x ps sp) (h : ∀ ds M Q, sp' ds M Q → sp ds M Q) : FnD P w K mg base k x ps sp' :=
  let ⟨f, fd, a, b, c, d⟩ := F.ex; ⟨f, fd, a.imp (fun _ _ _ _ ⟨ds, M, Q', i, m, q, hq⟩ => ⟨ds, M, Q', i, m, h _ _ _ q, hq⟩), b, c, d⟩
noncomputable def eCall (sp : SpD) (t : TAd) : TEd := fun τ M Q => t τ M fun ds M1 => sp ds M1 Q
theorem d_call {k : Nat} {x : Str} {ps : List Str} {sp : SpD} {p : Pos} {es : List Expr} {t : TAd} (F : FnD X.prog X.w X.K X.mg X.base k x ps sp) (hr : Room k X.A) (ha : PA X (e :: es) (lowA X.K t)) (hg : Gl X x := by rfl) (hdb : (x == ("__debug__" : Str)) = false := by decide)
    (he : starEach (e :: es) X.env = (false, eval e X.env) :: starEach es X.env := by rfl) (hpl : (backTo pos (starEach es X.env)).any (·.1) = false := by rfl) : PE X (.Call (.Name x p) (e :: es) [] pos) (low X.K (eCall sp t)) := by
  obtain ⟨f, fd, F, hm, hk, hb⟩ := F.ex
  refine (pe_call (E := E0) F hr hg hm hk hb .nil pass0 ha hdb he hpl).imp fun σ H Q ⟨τ, M, Q', hs, hm, h, hq⟩ => ?_
  refine ⟨τ, M, _, hs, hm, h, fun ds M1 vs H1 m1 e1 i1 h1 => ?_⟩
  show lowSp X.K sp (vs ++ []) H1 Q E0
  rw [List.append_nil]
  exact ⟨ds, M1, Q', i1, m1, h1, hq.ext e1⟩
noncomputable def startD (N : List Str) (ds : List D) : DSt := ds.map some ++ List.replicate (N.length - ds.length) none
theorem start_abs {K : PySem.W.Frag} {H : Hp} {N : List Str} {vs : List V} {ds : List D} (h : Iss K H vs ds) : SAbs K (startD N ds) (L2.start N vs) H := by
  have hl := h.length
  refine ⟨by unfold startD L2.start; simp [hl], fun i d e => ?_⟩
  unfold startD at e
  by_cases hi : i < ds.length
  · rw [List.getElem?_append_left (by simpa using hi), List.getElem?_map] at e
    cases q : ds[i]? with
    | none => rw [q] at e; cases e
    | some d' =>
      rw [q] at e
      cases e
      obtain ⟨v, ev, iv⟩ := h.get q
      refine ⟨v, ?_, iv⟩
      unfold L2.start
      rw [List.getElem?_append_left (by simpa [hl] using hi), List.getElem?_map, ev]
      rfl
  · rw [List.getElem?_append_right (by simpa using hi), List.getElem?_replicate] at e
    split at e <;> cases e
/-- what a def's body must reach -/
noncomputable def endsOf (Q : KD) : EndsD := { nx := fun _ M' => ∃ M0, Sub M0 M' ∧ Q .non M0, rt := fun d M' => ∃ M0, Sub M0 M' ∧ Q d M0 }
section
variable {P : Program} {w : World} {K : PySem.W.Frag} {mg : Str → Option Value} {base : Heap}
theorem def_fn {x qual : Str} {st : Stmt} {f : Addr} {fd : FuncData} {N ps : List Str} {k : Nat} {sp : SpD} (F : Fun K x qual st f fd) (S : FnScope N ps (defScope st)) (len : ∀ ds M Q, sp ds M Q → ds.length = ps.length)
    (hbody : ∀ (cdv : Value) (A : Around) (outer : List Env) (s : Shared) (H : Hp) (E : XK), Room k (A.deeper (envOfC qual (defScope st) s.heap.objs.size f cdv)) →
      ∃ t : TSd, PSs (cxOf CX0 P w K mg base N qual (defScope st) f cdv A outer s H E).nox (defBody st) (lowS K t) ∧ ∀ ds M Q, sp ds M Q → t (endsOf Q) (startD N ds) M) : FnOk P w K mg base CX0 (k + 1) f fd ps (lowSp K sp) := by
  refine F.ok S (fun vs H Q E h => ?_) (fun cdv A outer s H vs Q E hr h => ?_)
  · obtain ⟨ds, M, Q', i, _, q, _⟩ := h
    rw [i.length]
    exact len _ _ _ q
  · obtain ⟨t, h1, h2⟩ := hbody cdv A outer s H E hr
    obtain ⟨ds, M, Q', i, hm, q, hq⟩ := h
    refine ⟨_, h1, startD N ds, M, endsOf Q', start_abs i, hm, h2 _ _ _ q, ⟨?_, ?_, ?_, ?_⟩⟩
    · rintro τ M1 σ H1 s1 m1 e1 ⟨M0, sub, q0⟩
      exact hq _ M0 _ H1 (m1.sub sub) e1 .non q0
    · rintro d M1 v H1 m1 e1 i1 ⟨M0, sub, q0⟩
      exact hq d M0 v H1 (m1.sub sub) e1 i1 q0
    · intro τ M1 σ H1 _ _ _ q0; exact q0.elim
    · intro τ M1 σ H1 _ _ _ q0; exact q0.elim
/-- a def of the text as it stands: its object, how it binds, its name -/
noncomputable def Stands (K : PySem.W.Frag) (mg : Str → Option Value) (x : Str) (st : Stmt) (ps : List Str) : Prop := ∃ f fd, Fun K x x st f fd ∧ Binds K fd ps [] ∧ mg x = some (.ref f)
theorem def_ok {x : Str} {st : Stmt} {N ps : List Str} {k : Nat} {sp : SpD} (T : Stands K mg x st ps) (S : FnScope N ps (defScope st)) (len : ∀ ds M Q, sp ds M Q → ds.length = ps.length)
    (hbody : ∀ (f : Addr) (cdv : Value) (A : Around) (outer : List Env) (s : Shared) (H : Hp) (E : XK), Room k (A.deeper (envOfC x (defScope st) s.heap.objs.size f cdv)) →
      ∃ t : TSd, PSs (cxOf CX0 P w K mg base N x (defScope st) f cdv A outer s H E).nox (defBody st) (lowS K t) ∧ ∀ ds M Q, sp ds M Q → t (endsOf Q) (startD N ds) M) : FnD P w K mg base (k + 1) x ps sp := by
  obtain ⟨f, fd, F, hb, hm⟩ := T
  exact ⟨f, fd, def_fn F S len (hbody f), hm, F.kp, hb⟩
/-- the law itself -/
noncomputable def spLaw : SpD := fun ds M Q => ∃ ns : List Int, ds = [.rol (ns.map .int)] ∧ ns.length ≤ 63 ∧ Q (.bl true) M
theorem law_low {K : PySem.W.Frag} {H : Hp} {a : Addr} {ns : List Int} (hO : Only H) (hl : ns.length ≤ 63) (hS : SqL K H a (ns.map V.int)) : lowSp K spLaw [.ref a] H (fun v _ => v = .bl true) fun _ _ _ => False := by
  have hF : SqF K H a (ns.map V.int) := by
    rcases hS with (h | ⟨o, h⟩) | h
    · rcases hO a with z | ⟨o, xs, z⟩ <;> rw [z] at h <;> cases h
    · exact .inl ⟨o, h⟩
    · exact .inr h
  have hI : ∀ ns : List Int, Iss K H (ns.map V.int) (ns.map D.int) := fun ns => by
    induction ns with
    | nil => exact .nil
    | cons n ns ih => exact .cons (.int n) ih
  refine ⟨[.rol (ns.map .int)], fun _ => none, fun d _ => d = .bl true, .cons (.rol hF (hI ns)) .nil, fun a o e => (nomatch e), ⟨ns, rfl, hl, rfl⟩, fun d M1 v H1 _ _ i q => ?_⟩
  have q' : d = .bl true := q
  subst q'
  (first | cases i.inv | cases i)
  rfl
end
end
end DL

/-! Comprehensions. -/
namespace DL
open PySem PySem.Spec PyProof.Rows L2

noncomputable def pick {α : Type} (js : List (Option Nat)) (τ : List (Option α)) : List (Option α) := js.map fun o => match o with
  | none => none
  | some j => match τ[j]? with
    | some v => v
    | none => none
/-- the context of a comprehension's block -/
noncomputable def compCx (X : Cx) (Nc : List Str) (scope : Scope) (cl : List (Str × Addr)) (C : Addr) (s : Shared) (H : Hp) (fp : List Addr) : Cx where
  prog := X.prog
  w := X.w
  K := X.K
  mg := X.mg
  base := X.base
  A := X.A
  N := Nc
  s₀ := s
  H₀ := H
  env := compEnvC scope cl C X.env
  outer := X.stack
  stack := X.stack
  ex := fp
  fn := fun _ => false
  calm := X.calm
  pn := []
  xe := fun _ _ => False
structure CompOk (X : Cx) (Nc : List Str) (js : List (Option Nat)) (scope : Scope) (cl : List (Str × Addr)) : Prop where
  kind : scope.kind = .function
  clos : closureFor scope X.env = pure cl
  nocell : ∀ y ∈ scope.names, y.2 ≠ .cell
  names : ∀ y ∈ scope.names, y.2 = .local → scope.names.lookup y.1 = some .local
  sub : ∀ p ∈ cl, X.env.cells.lookup p.1 = some p.2
  has : ((relabel scope X.env).names.all fun p => (p.2 != .cell && p.2 != .free) || (cl.lookup p.1).isSome) = true
  len : js.length = Nc.length
  fr : ∀ (i j : Nat) (x : Str), js[i]? = some (some j) → Nc[i]? = some x → X.N[j]? = some x ∧ (X.env.kindOf x = some .cell ∨ X.env.kindOf x = some .free) ∧
    ((relabel scope X.env).names.lookup x = some .cell ∨ (relabel scope X.env).names.lookup x = some .free) ∧ X.fs = X.fs
theorem pick_get {α : Type} {js : List (Option Nat)} {τ : List (Option α)} {i : Nat} {v : α} (h : (pick js τ)[i]? = some (some v)) : ∃ j, js[i]? = some (some j) ∧ τ[j]? = some (some v) := by
  unfold pick at h
  rw [List.getElem?_map] at h
  cases q : js[i]? with
  | none => rw [q] at h; cases h
  | some o =>
    rw [q] at h
    cases o with
    | none => cases h
    | some j =>
      refine ⟨j, rfl, ?_⟩
      have h' : (match τ[j]? with
        | some v => v
        | none => none) = some v := Option.some.inj h
      cases e : τ[j]? with
      | none => rw [e] at h'; cases h'
      | some u => rw [e] at h'; exact congrArg some h'
noncomputable def tComp (wi : TI) (g : TG) (tt : TT) (te : TE) (js : List (Option Nat)) : TE := fun σ H Q => wi σ H fun J H1 => ∀ l, H1 l = none → ∃ W : Nat → Nat → St → Hp → Prop, (∃ m, W 0 m (pick js σ) (upd H1 l (.lst []))) ∧ ∀ i m σ2 H2, W i m σ2 H2 →
  (J.stop i H2 ∧ Q (.ref l) H2) ∨ (J.go i H2 ∧ ∀ x H3, J.yld i H2 x H3 → g x σ2 H3 fun σ4 H4 => tt σ4 H4 fun b H5 => if b = true then te σ4 H5 fun y H6 => ∃ ys, H6 l = some (.lst ys) ∧ ys.length < sizeLine ∧ ∃ m', m' < m ∧ W (i + 1) m' σ4 (upd H6 l (.lst (ys ++ [y])))
    else ∃ m', m' < m ∧ W (i + 1) m' σ4 H5)
/-- the tests of a clause: none or one -/
noncomputable def PIfs (X : Cx) (ifs : List Expr) (t : TT) : Prop := (ifs = [] ∧ t = fun _ H Q => Q true H) ∨ ∃ c, ifs = [c] ∧ PT X c t
section
variable {X : Cx} {tg elt iter : Expr} {ifs : List Expr} {scope : Scope} {pos : Pos} {wi : TI} {g : TG} {tt : TT} {te : TE} {js : List (Option Nat)} {Nc : List Str} {cl : List (Str × Addr)}
theorem comp_start {pins : List (Addr × Obj)} {σ : St} {H : Hp} {s : Shared} {fp : List Addr} {C : Addr} {s' : Shared} {H' : Hp} (O : CompOk X Nc js scope cl) (I : Inv X pins σ H s) (f : ∀ b ∈ fp, FpOk X pins H b) (hfp : ∀ b ∈ fp, b < C) (hC : s.heap.objs.size ≤ C)
    (os : s'.os = s.os) (bare : AllBare s'.gens) (un : Un (frs X.stack) fp H H' s.heap s'.heap) (hn : s'.heap.Ns C fun _ => none) (hfree : H' C = none) (hok : HOk X.prog X.w H' s'.heap) (old : ∀ b o, s.heap.get? b = some o → s'.heap.get? b = some o) : Inv (compCx X Nc scope cl C s H fp) [] (pick js σ) H' s' := by
  have clk : ∀ x c, cl.lookup x = some c → X.env.cells.lookup x = some c := fun x c e => O.sub (x, c) (PySem.mem_of_lookup e)
  have kin : ∀ x k, (relabel scope X.env).names.lookup x = some k → (k = .cell ∨ k = .free) → ∃ c, cl.lookup x = some c := fun x k e hk => by
    have h1 := List.all_eq_true.mp O.has (x, k) (PySem.mem_of_lookup e)
    rcases hk with rfl | rfl
    · exact Option.isSome_iff_exists.mp (by simpa using h1)
    · exact Option.isSome_iff_exists.mp (by simpa using h1)
  have cfree : ∀ x c, cl.lookup x = some c → ∃ o, s.heap.get? c = some o := fun x c e => by
    obtain ⟨v, o, ho, _⟩ := I.cell x c (clk x c e)
    exact ⟨o, ho⟩
  refine ⟨⟨I.ok.mod, by simp [compCx, compEnvC, relabel, O.kind], I.ok.glob, I.ok.blt, hC, fun x y c h1 h2 => I.ok.inj x y c (clk x c h1) (clk y c h2), fun x hx => ?_, fun x c h => (nomatch h), I.ok.hd, I.ok.frames, .inl rfl, fun b hb => ⟨Nat.ne_of_lt (hfp b hb), fun x c e => (f b hb).2.2.2.2.1 x c (clk x c e)⟩,
      I.bs, Nat.le_trans I.ok.bsz I.sz, fun b o e hb => ?_, fun b hb z => ?_, I.stack, I.stkFree⟩, os, bare, un, ⟨_, hn, fun i x v e1 e2 e3 => ?_⟩, fun x c e => ?_, hfree, fun x c e => ?_, fun p hp => absurd (show p ∈ ([] : List (Addr × Obj)) from hp) (by simp), hok, ?_⟩
  · rcases hx with hx | hx
    · exact kin x _ hx (.inl rfl)
    · exact kin x _ hx (.inr rfl)
  · rcases (f b hb).2.2.2.1 with z | z
    · exact I.ok.noex b o e z
    · exact absurd (Nat.lt_of_lt_of_le (Heap.lt_size e) (Nat.le_trans I.ok.bsz z)) (Nat.lt_irrefl _)
  · rcases List.mem_cons.mp (I.stkSub b z) with z | z
    · exact (f b hb).2.1 z
    · exact (f b hb).2.2.1 z
  · obtain ⟨j, ej, ev⟩ := pick_get e2
    obtain ⟨hN, hk, hk', _⟩ := O.fr i j x ej e1
    obtain ⟨m, _, hl⟩ := I.loc
    have vis : Vis X.env.scope x := by rcases hk with k | k; exact .inr (.inl k); exact .inr (.inr k)
    obtain ⟨u, r, lk⟩ := hl j x v hN ev vis
    refine ⟨u, r, .inr ⟨hk', ?_⟩⟩
    obtain ⟨c, ec⟩ : ∃ c, cl.lookup x = some c := by
      rcases hk' with k | k
      · exact kin x _ k (.inl rfl)
      · exact kin x _ k (.inr rfl)
    refine ⟨c, ec, ?_⟩
    rcases lk with ⟨kl, _⟩ | ⟨_, c', ec', hc⟩
    · rcases hk with k | k <;> (rw [k] at kl; cases kl)
    · rw [clk x c ec] at ec'
      cases ec'
      obtain ⟨o, ho, hd⟩ := hc
      exact ⟨o, old _ o ho, hd⟩
  · obtain ⟨v, o, ho, hd⟩ := I.cell x c (clk x c e)
    exact ⟨v, o, old _ o ho, hd⟩
  · obtain ⟨v, o, ho, hd⟩ := I.cell x c (clk x c e)
    exact un.free c o ho (I.freeC x c (clk x c e)) fun z => (f c z).2.2.2.2.1 x c (clk x c e) rfl
  · unfold pick
    rw [List.length_map]
    exact O.len
theorem pe_comp (O : CompOk X Nc js scope cl) (hc : X.calm = true) (hi : PI X tg iter wi) (hg : ∀ C s H fp, PG (compCx X Nc scope cl C s H fp) tg g) (hif : ∀ C s H fp, PIfs (compCx X Nc scope cl C s H fp) ifs tt) (he : ∀ C s H fp, PE (compCx X Nc scope cl C s H fp) elt te)
    (hs : ∀ x, foldedSetIterable iter X.env x = pure x := by intro _; rfl) : PE X (.ListComp elt [⟨tg, iter, ifs, 0⟩] scope pos) (tComp wi g tt te js) := by
  intro pins s σ H Q I h
  rw [eval_ListComp]
  refine wpAny_comprehension_free (use := none) rfl hs O.clos O.kind O.names (thn (hi pins s σ H _ I h) fun v s1 h1 => thn h1 fun itv s2 h2 => ?_)
  obtain ⟨it, fp, tn, J, H2, e, I2, T, st2, f2, q⟩ := h2
  subst e
  have hl : H2 s2.heap.objs.size = none := I2.hok.fresh (Nat.le_refl _)
  obtain ⟨W, ⟨m0, w0⟩, turn⟩ := q _ hl
  refine wpAny_newObj_type (wpAny_newFunctionEnv O.nocell (by intro y hy; simp at hy) (fun h₁ hns₁ hsb₁ => ?_) O.kind)
  dsimp only at hns₁ hsb₁ ⊢
  generalize hH2 : s2.heap.push { cls := .type "list", dict := none, data := .seq ([] : List Value).toArray } = G2 at hns₁ hsb₁ ⊢
  have hC : G2.objs.size = s2.heap.objs.size + 1 := by rw [← hH2, Heap.size_push]
  have below : ∀ b, b < s2.heap.objs.size → b ≠ G2.objs.size ∧ b ≠ s2.heap.objs.size := fun b hb => ⟨by rw [hC]; exact Nat.ne_of_lt (Nat.lt_succ_of_lt hb), Nat.ne_of_lt hb⟩
  have old : ∀ b o, s2.heap.get? b = some o → h₁.get? b = some o := fun b o e => hsb₁.extBut b o (below b (Heap.lt_size e)).1 (Heap.get?_push_of_some _ (hH2 ▸ Heap.get?_push_of_some _ e))
  have hDC : s2.heap.objs.size ≠ G2.objs.size := by rw [hC]; exact Nat.ne_of_lt (Nat.lt_succ_self _)
  have hacc : h₁.get? s2.heap.objs.size = some { cls := .type "list", dict := none, data := .seq ([] : List Value).toArray } := hsb₁.extBut _ _ hDC (Heap.get?_push_of_some _ (hH2 ▸ Heap.get?_push_size _ rfl))
  have hfp : ∀ b ∈ fp, b < s2.heap.objs.size := fun b hb => let ⟨o, e, _⟩ := T.obj _ _ st2 b hb; Heap.lt_size e
  have hCn : upd H2 s2.heap.objs.size (.lst []) G2.objs.size = none := by
    rw [upd_ne (Ne.symm hDC)]
    exact I2.hok.fresh (by rw [hC]; exact Nat.le_succ _)
  have I3 : Inv (compCx X Nc scope cl G2.objs.size s2 H2 fp) [] (pick js σ) (upd H2 s2.heap.objs.size (.lst [])) { s2 with heap := h₁, toks := s2.toks + ([] : List (Str × Value)).length } :=
    comp_start O I2 f2 (fun b hb => by rw [hC]; exact Nat.lt_succ_of_lt (hfp b hb)) (by rw [hC]; exact Nat.le_succ _) rfl I2.bare (Un.laid old (Nat.le_refl _) hl) hns₁ hCn (I2.hok.laid old (Nat.le_refl _) ⟨by simp, [], 0, .nil, hacc⟩) old
  have st3 : tn 0 h₁ := T.keep _ _ _ st2 fun b hb o e => old b o e
  have nofp : ∀ b ∈ fp, upd H2 s2.heap.objs.size (.lst []) b = none := fun b hb => by rw [upd_ne (Nat.ne_of_lt (hfp b hb))]; exact (f2 b hb).1
  have stat : ∀ {H' : Hp}, (∀ b ∈ fp, H' b = none) → ∀ b ∈ fp, FpOk (compCx X Nc scope cl G2.objs.size s2 H2 fp) [] H' b := fun hn b hb =>
    ⟨hn b hb, Nat.ne_of_lt (by rw [hC]; exact Nat.lt_succ_of_lt (hfp b hb)), fun z => by
      rcases List.mem_cons.mp (I2.stkSub b z) with z | z
      · exact (f2 b hb).2.1 z
      · exact (f2 b hb).2.2.1 z, .inl hb, fun x c ec => (f2 b hb).2.2.2.2.1 x c (O.sub (x, c) (PySem.mem_of_lookup ec)), fun p hp => absurd (show p ∈ ([] : List (Addr × Obj)) from hp) (by simp)⟩
  have loop : ∀ s₃ : Shared, s₃ = { s2 with heap := h₁, toks := s2.toks + ([] : List (Str × Value)).length } →
      codeAny (model X.prog X.w) X.A (.compLoop (.ListComp elt [⟨tg, iter, ifs, 0⟩] scope pos) 0 (.ref it) (.ref s2.heap.objs.size) (compEnvC scope cl G2.objs.size X.env)) (compPost (model X.prog X.w) X.A X.xe none (EP X pins σ Q) (.ref s2.heap.objs.size) G2.objs.size) s₃ := by
    rintro s₃ rfl
    refine codeAny_loop rfl (fun n s' => ∃ i σ' H', Inv (compCx X Nc scope cl G2.objs.size s2 H2 fp) [] σ' H' s' ∧ tn i s'.heap ∧ (∀ b ∈ fp, H' b = none) ∧ W i n σ' H') ?_ m0 ⟨0, _, _, I3, st3, nofp, w0⟩
    rintro n s4 ⟨i, σ4, H4, I4, st4, fr4, w4⟩
    show wpAny _ X.A ((compTurn (.ListComp elt [⟨tg, iter, ifs, 0⟩] scope pos) 0 (.ref it) (.ref s2.heap.objs.size) (compEnvC scope cl G2.objs.size X.env)).onRaise (fun x => do noteFrame x (compEnvC scope cl G2.objs.size X.env); theTreesLotGoes x)) _ _ s4
    refine wpAny_noted ?_
    rw [compTurn_list]
    refine wpAny_bind (wpAny_standAt (wpAny_bind ?_))
    rcases turn i n σ4 H4 w4 with ⟨stop, qn⟩ | ⟨go, step⟩
    · refine thn (T.done (compCx X Nc scope cl G2.objs.size s2 H2 fp) rfl rfl rfl hc i [] s4 σ4 H4 _ I4 (stat fr4) st4 stop) fun r s5 ⟨hr, I5⟩ => ?_
      subst hr
      refine wpAny_pure ?_
      obtain ⟨m, hn, _⟩ := I5.loc
      refine ⟨m, hn, fun h' hs' => ?_⟩
      have J5 : Inv X pins σ H4 s5 := I2.call' I5.os I5.base I5.hok I5.bare fun b hb => ⟨(f2 b hb).2.2.2.1, (f2 b hb).2.1, (f2 b hb).2.2.2.2.1, (f2 b hb).2.2.2.2.2⟩
      refine ⟨.ref s2.heap.objs.size, H4, J5.turned (t' := s5.toks) (it := G2.objs.size) (fun b o hb e => hs'.extBut b o hb e) I5.free (Ne.symm (Nat.ne_of_lt (Nat.lt_of_lt_of_le I2.lt (by rw [hC]; exact Nat.le_succ _)))) (.inr (Nat.le_trans I2.sz (by rw [hC]; exact Nat.le_succ _))) (fun x c ec z => ?_) (fun p hp z => ?_), rfl, qn⟩
      · obtain ⟨v, o, ho, _⟩ := I2.cell x c ec
        have h9 := Heap.lt_size ho
        rw [z, hC] at h9
        exact absurd h9 (Nat.not_lt.mpr (Nat.le_succ _))
      · have h9 := Heap.lt_size (I2.pin p hp).1
        rw [z, hC] at h9
        exact absurd h9 (Nat.not_lt.mpr (Nat.le_succ _))
    · refine thn (T.item (compCx X Nc scope cl G2.objs.size s2 H2 fp) rfl rfl rfl hc i [] s4 σ4 H4 _ I4 (stat fr4) st4 go) fun r s5 ⟨u, hr, h5⟩ => ?_
      subst hr
      refine wpAny_bind (thn h5 fun _ s6 ⟨x, H6, I6, r6, y6, st6, fr6⟩ => ?_)
      have I6' := I6.pinned (stat fr6) (T.obj _ _ st6)
      have again' : ∀ {s9 : Shared} {σ9 : St} {H9 : Hp}, Inv (compCx X Nc scope cl G2.objs.size s2 H2 fp) ([] ++ pinsAt fp s6.heap) σ9 H9 s9 → (∃ m', m' < n ∧ W (i + 1) m' σ9 H9) →
          ∃ m, m < n ∧ ∃ i σ' H', Inv (compCx X Nc scope cl G2.objs.size s2 H2 fp) [] σ' H' s9 ∧ tn i s9.heap ∧ (∀ b ∈ fp, H' b = none) ∧ W i m σ' H' := fun {s9 σ9 H9} I9 ⟨m', hm, w9⟩ => by
        refine ⟨m', hm, i + 1, σ9, H9, I9.unpinned, T.keep _ _ _ st6 fun b hb o e => (I9.pin (b, o) (List.mem_append_right _ (List.mem_append_right _ (mem_pinsAt hb e)))).1, fun b hb => ?_, w9⟩
        obtain ⟨o, e, d⟩ := T.obj _ _ st6 b hb
        exact (I9.pin (b, o) (List.mem_append_right _ (List.mem_append_right _ (mem_pinsAt hb e)))).2.1
      refine wpAny_bind (wpAny_mono (hg G2.objs.size s2 H2 fp _ s6 σ4 H6 x u _ I6' r6 (step x H6 y6)) (fun _ s7 ⟨σ7, H7, I7, q7⟩ => ?_) fun _ _ z => z.elim)
      have tests : ∀ {R : Bool → Shared → Prop} {E' : Value → Shared → Prop}, (∀ b s8, (∃ H8, Inv (compCx X Nc scope cl G2.objs.size s2 H2 fp) ([] ++ pinsAt fp s6.heap) σ7 H8 s8 ∧ (if b = true then te σ7 H8 fun y H6 => ∃ ys, H6 s2.heap.objs.size = some (.lst ys) ∧ ys.length < sizeLine ∧ ∃ m', m' < n ∧ W (i + 1) m' σ7 (upd H6 s2.heap.objs.size (.lst (ys ++ [y])))
          else ∃ m', m' < n ∧ W (i + 1) m' σ7 H8)) → R b s8) → wpAny (model X.prog X.w) X.A (forIn ifs true fun c r => if r = true then do let ok ← isTrue c (compEnvC scope cl G2.objs.size X.env) (eval c (compEnvC scope cl G2.objs.size X.env)); pure (ForInStep.yield ok) else pure (ForInStep.yield r)) R E' s7 := by
        intro R E' hR
        rcases hif G2.objs.size s2 H2 fp with ⟨e1, e2⟩ | ⟨c, e1, e2⟩
        · subst e1 e2
          exact wpAny_tests_nil (hR true s7 ⟨H7, I7, q7⟩)
        · subst e1
          exact wpAny_tests_one (wpAny_mono (e2 _ s7 σ7 H7 _ I7 q7) (fun b s8 ⟨H8, I8, q8⟩ => hR b s8 ⟨H8, I8, q8⟩) fun _ _ z => z.elim)
      refine wpAny_bind (tests fun ok s8 ⟨H8, I8, q8⟩ => ?_)
      cases ok with
      | false =>
        rw [if_neg Bool.false_ne_true] at q8
        exact wpAny_pure ⟨rfl, again' I8 q8⟩
      | true =>
        rw [if_pos rfl] at q8
        refine wpAny_bind (wpAny_bind (wpAny_mono (he G2.objs.size s2 H2 fp _ s8 σ7 H8 _ I8 q8) (fun xv s9 ⟨y, H9, I9, r9, ys, hy, hlen, q9⟩ => ?_) fun _ _ z => z.elim))
        refine wpAny_bind (wpAny_mono (mt_append (X := compCx X Nc scope cl G2.objs.size s2 H2 fp) _ s9 σ7 H9 (.ref s2.heap.objs.size) [y] (.ref s2.heap.objs.size) [xv] (fun v H' => ∃ m', m' < n ∧ W (i + 1) m' σ7 H') I9 rfl (.cons r9 .nil) ⟨_, ys, y, rfl, rfl, hy, hlen, q9⟩) (fun _ s10 ⟨v, H10, I10, _, q10⟩ => wpAny_pure (wpAny_pure ⟨rfl, again' I10 q10⟩)) fun _ _ z => z.elim)
  exact codeAny_compStart_list (loop _ rfl) (T.self _ 0 _ _ _ st3 (loop _ rfl))
/-! over data -/
noncomputable def Fgt (τ0 τ : DSt) : Prop := τ.length = τ0.length ∧ ∀ (i : Nat) d, τ0[i]? = some (some d) → τ[i]? = some (some d)
theorem SAbs.forget {K : PySem.W.Frag} {τ0 τ : DSt} {σ : St} {H : Hp} (h : SAbs K τ σ H) (f : Fgt τ0 τ) : SAbs K τ0 σ H := ⟨f.1.symm.trans h.1, fun i d e => h.2 i d (f.2 i d e)⟩
theorem SAbs.pick {K : PySem.W.Frag} {τ : DSt} {σ : St} {H : Hp} (h : SAbs K τ σ H) (js : List (Option Nat)) : SAbs K (pick js τ) (DL.pick js σ) H := by
  refine ⟨by unfold DL.pick; rw [List.length_map, List.length_map], fun i d e => ?_⟩
  obtain ⟨j, ej, ed⟩ := pick_get e
  obtain ⟨v, ev, iv⟩ := h.2 j d ed
  refine ⟨v, ?_, iv⟩
  unfold DL.pick
  rw [List.getElem?_map, ej]
  simp [ev]
/-- the comprehension over ds: each one's test and value leave all as it was -/
noncomputable def compD (ds : List D) (g : TGd) (tt : TTd) (te : TEd) (js : List (Option Nat)) (τ : DSt) (M : DH) (Q : KD) : Prop := ds.length ≤ 1000000 ∧ ∃ f : D → Option D,
  (∀ d ∈ ds, ∀ p acc, M p = none → g d (pick js τ) (updM M p (.lst acc)) fun τ2 M2 => Fgt (pick js τ) τ2 ∧ tt τ2 M2 fun b M3 => if b = true then te τ2 M3 fun y M4 => M4 = updM M p (.lst acc) ∧ f d = some y else M3 = updM M p (.lst acc) ∧ f d = none) ∧
  ∀ p, M p = none → Q (.ref p) (updM M p (.lst (ds.filterMap f)))
noncomputable def compX (g : TGd) (tt : TTd) (te : TEd) (js : List (Option Nat)) (τ : DSt) : D → DH → KD → Prop
  | .tup ds, M, Q => compD ds g tt te js τ M Q
  | .rol ds, M, Q => compD ds g tt te js τ M Q
  | .str z, M, Q => compD (signs z) g tt te js τ M Q
  | .ref l, M, Q => ∃ ds, M l = some (.lst ds) ∧ compD ds g tt te js τ M Q
  | _, _, _ => False
noncomputable def eComp (ti : TEd) (g : TGd) (tt : TTd) (te : TEd) (js : List (Option Nat)) : TEd := fun τ M Q => ti τ M fun x M1 => compX g tt te js τ x M1 Q
noncomputable def tTrue : TTd := fun _ M Q => Q true M
noncomputable def DIfs (X : Cx) (ifs : List Expr) (t : TTd) : Prop := (ifs = [] ∧ t = tTrue) ∨ ∃ c, ifs = [c] ∧ PT X c (lowT X.K t)
theorem low_comp {K : PySem.W.Frag} {J : It} {ds : List D} {g : TGd} {ttd : TTd} {ted : TEd} {ttv : TT} {τ : DSt} {σ : St} {M : DH} {H H1 : Hp} {Q' : KD} {Q : VK} (hs : SAbs K τ σ H1) (e1 : Ext K H H1) (m1 : HAbs K M H1) (hq : lowQ K H Q' Q)
    (htt : ∀ σ H R, lowT K ttd σ H R → ttv σ H R) (hgv : ∀ l M2 H2, HAbs K M2 H2 → Ext K H1 H2 → (∀ a ds, M a = some (.lst ds) → M2 a = some (.lst ds)) → H1 l = none → Gives K J ds H2) (h : compD ds g ttd ted js τ M Q') :
    ∀ l, H1 l = none → ∃ W : Nat → Nat → St → Hp → Prop, (∃ m, W 0 m (pick js σ) (upd H1 l (.lst []))) ∧ ∀ i m σ2 H2, W i m σ2 H2 →
      (J.stop i H2 ∧ Q (.ref l) H2) ∨ (J.go i H2 ∧ ∀ x H3, J.yld i H2 x H3 → lowG K g x σ2 H3 fun σ4 H4 => ttv σ4 H4 fun b H5 => if b = true then low K ted σ4 H5 fun y H6 => ∃ ys, H6 l = some (.lst ys) ∧ ys.length < sizeLine ∧ ∃ m', m' < m ∧ W (i + 1) m' σ4 (upd H6 l (.lst (ys ++ [y])))
        else ∃ m', m' < m ∧ W (i + 1) m' σ4 H5) := by
  obtain ⟨hz, f, turn, done⟩ := h
  intro l hl
  have hMl : M l = none := m1.free hl
  refine ⟨fun i m σ2 H2 => m = ds.length - i ∧ i ≤ ds.length ∧ SAbs K (pick js τ) σ2 H2 ∧ HAbs K (updM M l (.lst ((ds.take i).filterMap f))) H2 ∧ Ext K H1 H2, ⟨ds.length, by simp, Nat.zero_le _, (hs.pick js).mono (ext_new hl), m1.newL hl .nil, ext_new hl⟩, ?_⟩
  rintro i m σ2 H2 ⟨rfl, hi, s2, m2, e2⟩
  have G := hgv l _ H2 m2 e2 (fun a es ea => by rw [updM_ne (by intro z; subst z; rw [hMl] at ea; cases ea)]; exact ea) hl
  by_cases hlt : i < ds.length
  · refine .inr ⟨G.go i hlt, fun x H3 y => ?_⟩
    obtain ⟨rfl, d, ed, id⟩ := G.yld i x H3 hlt y
    have hd : d ∈ ds := List.mem_of_getElem? ed
    have tk : (ds.take (i + 1)).filterMap f = (ds.take i).filterMap f ++ (match f d with | some y => [y] | none => []) := by
      rw [List.take_add_one, ed, List.filterMap_append]
      congr 1
      cases hfd : f d with
      | none => simp [hfd]
      | some y => simp [hfd]
    have hlen : ((ds.take i).filterMap f).length < sizeLine := by
      have h1 := List.length_filterMap_le f (ds.take i)
      have h2 : (ds.take i).length ≤ ds.length := by simp; omega
      have h3 : sizeLine = 16777216 := sizeLine_eq
      omega
    refine ⟨d, _, _, _, id, s2, m2, turn d hd l _ hMl, fun τ4 M4 σ4 H4 s4 m4 e4 ⟨fg, q4⟩ => ?_⟩
    refine htt _ _ _ ⟨τ4, M4, _, s4, m4, q4, fun b M5 H5 m5 e5 q5 => ?_⟩
    cases b with
    | true =>
      rw [if_pos rfl] at q5 ⊢
      refine ⟨τ4, M5, _, s4.mono e5, m5, q5, fun y M6 v H6 m6 e6 i6 q6 => ?_⟩
      obtain ⟨rfl, fy⟩ := q6
      obtain ⟨ys, hy, iy⟩ := m6 l _ updM_same
      refine ⟨ys, hy, by rw [iy.length]; exact hlen, ds.length - (i + 1), by omega, rfl, hlt, ?_⟩
      obtain ⟨m7, e7⟩ := m6.setL updM_same hy (iy.append (.cons i6 .nil))
      refine ⟨((s4.forget fg).mono (e5.trans e6)).mono e7, ?_, e2.trans (e4.trans (e5.trans (e6.trans e7)))⟩
      rw [tk, fy]
      rw [updM_upd] at m7
      exact m7
    | false =>
      rw [if_neg Bool.false_ne_true] at q5 ⊢
      obtain ⟨rfl, fy⟩ := q5
      refine ⟨ds.length - (i + 1), by omega, rfl, hlt, (s4.forget fg).mono e5, ?_, e2.trans (e4.trans e5)⟩
      rw [tk, fy, List.append_nil]
      exact m5
  · have e : i = ds.length := by omega
    subst e
    refine .inl ⟨G.stop, ?_⟩
    have q := done l hMl
    rw [List.take_length] at m2
    exact hq _ _ _ _ m2 (e1.trans e2) (.ref l) q
theorem d_comp {ti ted : TEd} {gd : TGd} {ttd : TTd} (O : CompOk X Nc js scope cl) (hc : X.calm = true) (hi : PE X iter (low X.K ti)) (hg : ∀ C s H fp, PG (compCx X Nc scope cl C s H fp) tg (lowG X.K gd)) (hif : ∀ C s H fp, DIfs (compCx X Nc scope cl C s H fp) ifs ttd) (he : ∀ C s H fp, PE (compCx X Nc scope cl C s H fp) elt (low X.K ted))
    (hs : ∀ x, foldedSetIterable iter X.env x = pure x := by intro _; rfl) : PE X (.ListComp elt [⟨tg, iter, ifs, 0⟩] scope pos) (low X.K (eComp ti gd ttd ted js)) := by
  intro pins s0 σ0 H0 Q0 I0 hw
  obtain ⟨ttv, hif', htt⟩ : ∃ ttv : TT, (∀ C s H fp, PIfs (compCx X Nc scope cl C s H fp) ifs ttv) ∧ ∀ σ H R, lowT X.K ttd σ H R → ttv σ H R := by
    rcases hif 0 s0 H0 [] with ⟨e1, e2⟩ | ⟨c, e1, _⟩
    · subst e1 e2
      exact ⟨_, fun _ _ _ _ => .inl ⟨rfl, rfl⟩, fun σ H R ⟨τ, M, Q', _, hm, h, hq⟩ => hq true M H hm (Ext.refl H) h⟩
    · subst e1
      refine ⟨lowT X.K ttd, fun C s H fp => ?_, fun σ H R h => h⟩
      rcases hif C s H fp with ⟨e1, _⟩ | ⟨c', e1, h⟩
      · cases e1
      · cases e1
        exact .inr ⟨c, rfl, h⟩
  refine ((pe_comp O hc (pi_any hi) hg hif' he hs).imp (t' := low X.K (eComp ti gd ttd ted js)) fun σ H Q ⟨τ, M, Q', hs, hm, h, hq⟩ => ⟨τ, M, _, hs, hm, h, fun x M1 v H1 m1 e1 i1 h1 => ?_⟩) pins s0 σ0 H0 Q0 I0 hw
  cases i1 with
  | @tup a xs ds hx hxs => exact .inl ⟨a, rfl, .inr ⟨⟨xs, hx⟩, low_comp (hs.mono e1) e1 m1 hq htt (fun l M2 H2 m2 e2 _ _ => gives_tup (e2.t _ _ hx) (hxs.mono e2)) h1⟩⟩
  | @rol a xs ds hx hxs => exact .inl ⟨a, rfl, .inl ⟨⟨xs, hx.sq⟩, low_comp (hs.mono e1) e1 m1 hq htt (fun l M2 H2 m2 e2 _ _ => gives_list (e2.f _ _ hx).sq (hxs.mono e2)) h1⟩⟩
  | str z => exact .inr ⟨z, rfl, low_comp (hs.mono e1) e1 m1 hq htt (fun l M2 H2 m2 e2 _ _ => gives_str z) h1⟩
  | ref l0 =>
    obtain ⟨ds, hl, w⟩ := h1
    obtain ⟨xs, hx, hxs⟩ := m1 l0 _ hl
    exact .inl ⟨l0, rfl, .inl ⟨⟨xs, SqL.of hx⟩, low_comp (hs.mono e1) e1 m1 hq htt (fun l M2 H2 m2 e2 hk _ => let ⟨ys, hy, iy⟩ := m2.lst (hk l0 ds hl); gives_list hy iy) w⟩⟩
  | _ => exact h1.elim
end
end DL

/-! Further rules over data. -/
namespace DL
open PySem PySem.Spec PyProof.Rows L2

section
variable {X : Cx} {e a b c tg : Expr} {pos : Pos} {ta tb te : TEd} {tc : TTd}
/-! ### - x, x if c else y, return -/
noncomputable def eNeg (te : TEd) : TEd := fun τ M Q => te τ M fun x M1 => onInt x fun i => Q (.int (-i)) M1
theorem d_neg (h : PE X a (low X.K ta)) : PE X (.UnaryOp .USub a pos) (low X.K (eNeg ta)) :=
  L2.PE.imp (pe_un un_neg h) fun σ H Q ⟨τ, M, Q', hs, hm, h, hq⟩ => ⟨τ, M, _, hs, hm, h, fun x M1 v H1 m1 e1 i1 h1 => by
    cases i1 with
    | int i => exact ⟨i, rfl, hq _ M1 _ H1 m1 e1 (.int _) h1⟩
    | _ => exact h1.elim⟩
/-! ### <=, in of texts -/
noncomputable def leSD : D → D → DH → KD → Prop
  | .int i, .int j, M, Q => Q (.bl (decide (i ≤ j))) M
  | .str i, .str j, M, Q => Q (.bl (!decide (j.cps.toList < i.cps.toList))) M
  | _, _, _, _ => False
theorem od_le : OpD X (compareOp .LtE) leSD := by
  intro pins s σ H vx vy v u Q I rx ry ⟨x, y, M, Q', ix, iy, hm, q, hq⟩
  cases ix with
  | int i => cases iy with
    | int j => exact op_le pins s σ H _ _ v u Q I rx ry ⟨_, _, rfl, rfl, hq.here hm (.bl _) q⟩
    | _ => exact q.elim
  | str i => cases iy with
    | str j =>
      obtain ⟨t, rfl⟩ := rx
      obtain ⟨t', rfl⟩ := ry
      exact PySem.P.le_str ⟨.bl _, H, I, rfl, hq.here hm (.bl _) q⟩
    | _ => exact q.elim
  | _ => cases iy <;> exact q.elim
theorem one_sign {i : Str} {k : Nat} (h : i.cps.toList = [k]) : i = ⟨#[k]⟩ := by
  cases i with
  | mk cps => have : cps = #[k] := by rw [← Array.toArray_toList (xs := cps), h]
              rw [this]
/-! ### range(a, b, -1) -/
noncomputable def for3D (g : TGd) (tb : TSd) (E : EndsD) (τ : DSt) : List D → DH → Prop
  | [.int lo, .int j, .int st], M => (st = -1 ∧ -(2 ^ 62) ≤ lo ∧ lo < 2 ^ 62 ∧ -(2 ^ 62) ≤ j ∧ j < 2 ^ 62) ∧ walkR (fun i => lo - (i : Int)) (lo - j).toNat g tb E τ M
  | _, _ => False
noncomputable def sFor3 (ta : TAd) (g : TGd) (tb : TSd) : TSd := fun E τ M => ta τ M fun vs M1 => for3D g tb E τ vs M1
/-! ### max of a list of ints, all of a list of truth values -/
noncomputable def maxL : List D → DH → KD → Prop
  | [.ref l], M, Q => ∃ ns : List Int, ns ≠ [] ∧ M l = some (.lst (ns.map .int)) ∧ ∀ m, m ∈ ns → (∀ k ∈ ns, k ≤ m) → Q (.int m) M
  | _, _, _ => False
theorem ints_of {K : PySem.W.Frag} {H : Hp} : ∀ {vs : List V} {us : List Value} {ns : List Int}, Iss K H vs (ns.map D.int) → Vals vs us → IntsAre us ns
  | _, _, [], .nil, .nil => .nil
  | _, _, n :: ns, .cons i t, .cons r t' => by
    (first | cases i.inv | cases i)
    obtain ⟨tk, rfl⟩ := r
    exact .cons n tk (ints_of t t')
theorem cd_maxL (hc : X.calm = true) : CallD X (.builtin "max") maxL := by
  intro pins s σ H vs us Q I r ⟨ds, M, Q', iss, hm, q, hq⟩
  match ds, q, iss with
  | [.ref l], q, iss =>
    obtain ⟨v, rfl, i⟩ := iss1 iss
    cases i with
    | ref =>
      obtain ⟨ns, hne, hl, q⟩ := q
      obtain ⟨u, rfl, rx⟩ := vals1 r
      cases rx
      obtain ⟨xs, hx, hxs⟩ := hm.lst hl
      obtain ⟨its, r1, p1, _⟩ := I.list hx
      have hi := ints_of hxs r1
      obtain ⟨ys, e⟩ := hi.allInts.items
      have hns : ns = ys.toList.map (·.1) := by rw [← hi.numsOf, ← nums_intItems, ← e]
      have hsz : 0 < ys.size := by
        cases ns with
        | nil => exact absurd rfl hne
        | cons n ns => have := congrArg List.length hns; simp at this; omega
      have p2 := p1.isList
      rw [e] at p2
      refine max_intList (I.ok.hd hc) p2 hsz fun v h' tk hv hk => ?_
      obtain ⟨t, rfl⟩ := intItems_at hv
      obtain ⟨h1, h2⟩ := argBest_gt (numAt ys) (ys.size - 1)
      refine ⟨.int _, H, I.kept hk, ⟨t, rfl⟩, hq.here hm (.int _) (q _ ?_ fun a ha => ?_)⟩
      · rw [hns, numAt_eq]; exact getD_mem (by rw [List.length_map, Array.length_toList]; omega)
      · rw [hns] at ha
        obtain ⟨j, hj, rfl⟩ := mem_getD ha
        rw [List.length_map, Array.length_toList] at hj
        rw [← numAt_eq]; exact h2 j (by omega)
noncomputable def allD : List D → DH → KD → Prop
  | [.ref l], M, Q => ∃ bs : List Bool, M l = some (.lst (bs.map .bl)) ∧ Q (.bl (bs.all id)) M
  | _, _, _ => False
theorem bools_get {K : PySem.W.Frag} {H : Hp} : ∀ {vs : List V} {us : List Value} {bs : List Bool} {i : Nat} {v : Value}, Iss K H vs (bs.map D.bl) → Vals vs us → us[i]? = some v → ∃ b, bs[i]? = some b ∧ v = .bool b
  | _, _, [], _, _, .nil, .nil, e => by simp at e
  | _, _, b :: bs, 0, v, .cons i t, .cons r t', e => by
    simp at e
    subst e
    (first | cases i.inv | cases i)
    cases r
    exact ⟨b, rfl, rfl⟩
  | _, _, b :: bs, k + 1, v, .cons i t, .cons r t', e => by
    obtain ⟨b', h1, h2⟩ := bools_get (i := k) t t' (by simpa using e)
    exact ⟨b', by simpa using h1, h2⟩
theorem cd_all (hc : X.calm = true) : CallD X (.builtin "all") allD := by
  intro pins s σ H vs us Q I r ⟨ds, M, Q', iss, hm, q, hq⟩
  match ds, q, iss with
  | [.ref l], q, iss =>
    obtain ⟨v, rfl, i⟩ := iss1 iss
    cases i with
    | ref =>
      obtain ⟨bs, hl, q⟩ := q
      obtain ⟨u, rfl, rx⟩ := vals1 r
      cases rx
      obtain ⟨xs, hx, hxs⟩ := hm.lst hl
      obtain ⟨its, r1, p1, _⟩ := I.list hx
      have p2 := p1.isList
      have hlt : l < s.heap.objs.size := by obtain ⟨_, e, _⟩ := p2; exact Heap.lt_size e
      have hlen : its.toArray.size = bs.length := by rw [List.size_toArray, ← r1.length, hxs.length, List.length_map]
      refine call_all_walk (wpAny_pyIter_list p2 ?_)
      refine ⟨s.heap.objs.size, [s.heap.objs.size, l], [s.heap.objs.size], its.toArray.size, _, _, fun i => (bs[i]?).getD true, rfl, Walks.list (A := X.A.in1) (I.ok.hd hc) _ l (Nat.ne_of_lt hlt) its.toArray,
        ⟨⟨_, Heap.get?_push_size _ rfl, rfl, rfl⟩, p2.push _⟩, fun i v s' Q' E' hP hQ => ?_, fun h' tk hk => ?_⟩
      · obtain ⟨b, e, rfl⟩ := bools_get hxs r1 (by simpa using hP)
        simp only [e, Option.getD_some] at hQ
        exact wpAny_truthy_bool hQ
      · have e : ((List.range its.toArray.size).all fun i => (bs[i]?).getD true) = bs.all id := by
          rw [hlen]
          clear hlen hxs hl q
          induction bs with
          | nil => rfl
          | cons b bs ih =>
            rw [List.length_cons, List.range_succ_eq_map, List.all_cons, List.all_map, List.all_cons]
            have : ((fun i => ((b :: bs)[i]?).getD true) ∘ Nat.succ) = fun i => (bs[i]?).getD true := by funext i; simp
            rw [this, ih]
            rfl
        rw [e]
        exact ⟨.bl _, H, I.kept fun b x eb => hk b x (fun hm => by rw [List.mem_singleton.mp hm] at eb; exact Nat.lt_irrefl _ (Heap.lt_size eb)) (Heap.get?_push_of_some _ eb), rfl, hq.here hm (.bl _) q⟩
theorem len_2 {i j : Nat} : ∀ ds τ M Q, hCons (hName i) (hCons (hName j) hNil) ds τ M Q → ds.length = 2 := fun ds τ M Q h => by
  match ds, h with
  | [], h => exact h.elim
  | [_], h => exact h.elim
  | [_, _], h => rfl
  | _ :: _ :: _ :: _, h => exact h.elim
/-! ### what Python's names stand for -/
theorem bt_len : bootBuiltins "len" = some (.builtin "len") := by decide +kernel
theorem bt_max : bootBuiltins "max" = some (.builtin "max") := by decide +kernel
theorem bt_min : bootBuiltins "min" = some (.builtin "min") := by decide +kernel
theorem bt_all : bootBuiltins "all" = some (.builtin "all") := by decide +kernel
theorem bt_isinstance : bootBuiltins "isinstance" = some (.builtin "isinstance") := by decide +kernel
theorem bt_int : bootBuiltins "int" = some (.type "int") := by decide +kernel
theorem bt_bool : bootBuiltins "bool" = some (.type "bool") := by decide +kernel
theorem bt_str : bootBuiltins "str" = some (.type "str") := by decide +kernel
theorem bt_tuple : bootBuiltins "tuple" = some (.type "tuple") := by decide +kernel
theorem bt_list : bootBuiltins "list" = some (.type "list") := by decide +kernel
/-! ### a comprehension without names of the def around it -/
theorem comp_ok0 {Nc : List Str} {js : List (Option Nat)} {scope : Scope} (hf : ∀ x ∈ scope.names, x.2 ≠ .free) (hc : ∀ y ∈ scope.names, y.2 ≠ .cell) (hn : ∀ y ∈ scope.names, y.2 = .local → scope.names.lookup y.1 = some .local)
    (hk : scope.kind = .function) (hj : js = Nc.map fun _ => none) : CompOk X Nc js scope [] := by
  have hr : (relabel scope X.env).names = scope.names := by
    unfold relabel
    show scope.names.map _ = scope.names
    refine map_eq_self fun x hx => ?_
    obtain ⟨n, k⟩ := x
    have h1 : (k == NameKind.free) = false := by simpa using hf _ hx
    simp [h1]
  refine ⟨hk, closureFor_none hf, hc, hn, fun p hp => (nomatch hp), ?_, by rw [hj, List.length_map], fun i j x h => ?_⟩
  · rw [hr, List.all_eq_true]
    intro p hp
    have h1 : (p.2 != NameKind.cell) = true := by simpa using hc p hp
    have h2 : (p.2 != NameKind.free) = true := by simpa using hf p hp
    simp [h1, h2]
  · rw [hj, List.getElem?_map] at h
    cases q : Nc[i]? with
    | none => rw [q] at h; cases h
    | some y => rw [q] at h; cases h
/-! ### * -/
noncomputable def mulSD : D → D → DH → KD → Prop
  | .int i, .int j, M, Q => CMul i j ∧ Q (.int (i * j)) M
  | .str z, .int n, M, Q => (z.length ≤ 100000 ∧ 0 ≤ n ∧ n ≤ 100) ∧ Q (.str (Txt.mul z n)) M
  | _, _, _, _ => False
theorem od_mulS : OpD X (binaryOp .Mult) mulSD := by
  intro pins s σ H vx vy v u Q I rx ry ⟨x, y, M, Q', ix, iy, hm, q, hq⟩
  cases ix with
  | int i => cases iy with
    | int j => exact op_mul pins s σ H _ _ v u Q I rx ry ⟨_, _, rfl, rfl, q.1, hq.here hm (.int _) q.2⟩
    | _ => exact q.elim
  | str z => cases iy with
    | int n =>
      obtain ⟨⟨h1, h2, h3⟩, q⟩ := q
      obtain ⟨t, rfl⟩ := rx
      obtain ⟨t', rfl⟩ := ry
      have hz : z.length * n.toNat ≤ 100000 * 100 := Nat.mul_le_mul h1 (by omega)
      refine SB.mul ⟨?_, fun h4 _ => ?_, fun _ _ => ?_⟩ fun t2 k => ⟨.str _, H, I.tok k, ⟨_, rfl⟩, hq.here hm (.str _) q⟩
      · have e1 : decide (n < -(2 ^ 63 : Int)) = false := decide_eq_false (by omega)
        have e2 : decide (n ≥ 2 ^ 63) = false := decide_eq_false (by omega)
        rw [e1, e2]; rfl
      · have h5 : (100 : Int) * 92233720368547758 ≤ (2 ^ 63 - 1) := by decide
        have h6 : (92233720368547758 : Int) ≤ (2 ^ 63 - 1) / n := by
          rw [Int.le_ediv_iff_mul_le (by omega)]
          calc (92233720368547758 : Int) * n ≤ 92233720368547758 * 100 := Int.mul_le_mul_of_nonneg_left h3 (by decide)
            _ ≤ _ := by decide
        omega
      · unfold Builtin.Str.tooLong
        simp only [decide_eq_false_iff_not]
        have h3 : sizeLine = 16777216 := sizeLine_eq
        omega
    | _ => exact q.elim
  | _ => cases iy <;> exact q.elim
end
end DL

/-! range(a, b, -1); comprehensions with a name of the def around them. -/
namespace DL
open PySem PySem.Spec PyProof.Rows L2
section
variable {X : Cx} {tg : Expr} {g : TGd} {tb : TSd} {pos : Pos}
noncomputable def iRng3 (ta : TA) : TI := fun σ H R => ta σ H fun vs H1 => ∃ i j : Int, vs = [.int i, .int j, .int (-1)] ∧ (-(2 ^ 62) ≤ i ∧ i < 2 ^ 62 ∧ -(2 ^ 62) ≤ j ∧ j < 2 ^ 62) ∧ R (Itf (i - j).toNat fun k => .int (i - k)) H1
theorem pi_range3 {a b c : Expr} {ta : TA} {p cpos : Pos} (hg : Gl X "range") (hm : X.mg "range" = none) (ha : PA X [a, b, c] ta) (hs : starEach [a, b, c] X.env = (false, eval a X.env) :: starEach [b, c] X.env := by rfl)
    (hpl : (backTo cpos (starEach [b, c] X.env)).any (·.1) = false := by rfl) : PI X tg (.Call (.Name "range" p) [a, b, c] [] cpos) (iRng3 ta) := by
  intro pins s σ H R I h
  refine Call_ (ld_blt I hg hm boot_range (PyProof.Rows.callWith_type1 (thn (ha cpos pins s σ H _ I h) fun us s1 ⟨vs, H1, I1, r1, q1⟩ => ?_) hs hpl))
  obtain ⟨i, j, e, ⟨q1, q2, q3, q4⟩, q⟩ := q1
  subst e
  cases r1 with
  | cons r rr =>
    cases rr with
    | cons r' rr =>
      cases rr with
      | cons r'' rr =>
        cases rr
        obtain ⟨t, rfl⟩ := r
        obtain ⟨t', rfl⟩ := r'
        obtain ⟨t'', rfl⟩ := r''
        refine call_range_3 (by decide) ?_ (.inl (PyProof.noPylong_small (by decide)))
        refine wpAny_pyIter_range (IsRange.new ..) (PySem.W.small_down q1 q2 q3 q4) ?_
        have I2 : Inv X pins σ H1 { s1 with heap := s1.heap.push { cls := .type "range", data := .fields #[.int i t, .int j t', .int (-1) t''] }, toks := s1.toks } := I1.kept fun b o e => Heap.get?_push_of_some _ e
        refine ⟨(s1.heap.push { cls := .type "range", data := .fields #[.int i t, .int j t', .int (-1) t''] }).objs.size, [(s1.heap.push { cls := .type "range", data := .fields #[.int i t, .int j t', .int (-1) t''] }).objs.size], _, _, H1, rfl,
          I2.kept (t' := s1.toks) fun b o e => Heap.get?_push_of_some _ e, turn_walks _ (i - j).toNat (fun k => .int (i - k)) (fun k h => IsRangeIter h (s1.heap.push { cls := .type "range", data := .fields #[.int i t, .int j t', .int (-1) t''] }).objs.size (i + (k : Nat) * (-1)) (((i - j).toNat : Int) - (k : Nat)) (-1))
            (fun A hA => walks_imp (Walks.range (A := A) hA _ i (-1) (i - j).toNat) fun k v ⟨tk, e⟩ => ⟨tk, by rw [e]; congr 1; omega⟩) (fun k h st => ⟨_, _, _, st, rfl, rfl, by decide⟩) (fun _ _ _ _ _ st h => wpAny_pyIter_rangeiter st h), ?_, fun b hb => ?_, q⟩
        · have e1 : i + ((0 : Nat) : Int) * (-1) = i := by omega
          have e2 : (((i - j).toNat : Nat) : Int) - ((0 : Nat) : Int) = Builtin.Range.rangeSize i j (-1) := by rw [PySem.W.rangeSize_downNat]; omega
          show IsRangeIter _ _ (i + ((0 : Nat) : Int) * (-1)) ((((i - j).toNat : Nat) : Int) - ((0 : Nat) : Int)) (-1)
          rw [e1, e2]
          exact Heap.get?_push_size _ rfl
        · have e : b = (s1.heap.push { cls := .type "range", data := .fields #[.int i t, .int j t', .int (-1) t''] }).objs.size := by simpa using hb
          subst e
          exact I2.fpOk (Nat.le_refl _) (I2.hok.fresh (Nat.le_refl _))
theorem gives_f {K : PySem.W.Frag} {H : Hp} (n : Nat) (f : Nat → Int) : Gives K (Itf n fun k => .int (f k)) ((List.range n).map fun k => D.int (f k)) H :=
  ⟨fun j hj => by rw [List.length_map, List.length_range] at hj; exact hj, fun j x H' hj ⟨e, y⟩ => by
    rw [List.length_map, List.length_range] at hj
    exact ⟨e, .int (f j), by rw [List.getElem?_map, List.getElem?_range hj]; rfl, by rw [y]; exact .int _⟩, by rw [List.length_map, List.length_range]; exact rfl⟩
theorem walk_rd {f : Nat → Int} {n : Nat} {E : EndsD} {τ : DSt} {M : DH} (h : walkR f n g tb E τ M) : walkD ((List.range n).map fun k => D.int (f k)) (fun _ => True) g tb E τ M := by
  obtain ⟨W, w0, turn, done⟩ := h
  refine ⟨W, w0, fun _ _ _ _ _ => trivial, fun i d τ M ed w => ?_, fun τ M w => done τ M (by rw [List.length_map, List.length_range] at w; exact w)⟩
  rw [List.getElem?_map] at ed
  cases q : (List.range n)[i]? with
  | none => rw [q] at ed; cases ed
  | some k =>
    rw [q] at ed
    cases ed
    have hk := List.getElem?_eq_some_iff.mp q
    obtain ⟨hl, e⟩ := hk
    rw [List.getElem_range] at e
    subst e
    rw [List.length_range] at hl
    exact turn _ τ M hl w
theorem s_for3 {a b c : Expr} {ta : TAd} {body : List Stmt} {p cpos : Pos} (hp : PassesOwn (model X.prog X.w) X.A X.env X.xe) (hc : X.calm = true) (hm : X.mg "range" = none) (ha : PA X [a, b, c] (lowA X.K ta)) (hg : PG X tg (lowG X.K g)) (hb : PSs X body (lowS X.K tb)) (hgl : Gl X "range" := by rfl)
    (hst : starEach [a, b, c] X.env = (false, eval a X.env) :: starEach [b, c] X.env := by rfl) (hpl : (backTo cpos (starEach [b, c] X.env)).any (·.1) = false := by rfl) (hs : ∀ x, foldedSetIterable (.Call (.Name "range" p) [a, b, c] [] cpos) X.env x = pure x := by intro _; rfl) :
    PS X (.For tg (.Call (.Name "range" p) [a, b, c] [] cpos) body [] pos) (lowS X.K (sFor3 ta g tb)) :=
  (ps_for hp hc (pi_range3 hgl hm ha hst hpl) hg hb hs).imp fun D σ H ⟨τ, M, D', hs, hm, h, hd⟩ => ⟨τ, M, _, hs, hm, h, fun ds M1 vs H1 m1 e1 i1 h1 => by
    match ds, h1, i1 with
    | [.int lo, .int j, .int st], h1, i1 =>
      obtain ⟨⟨es, q⟩, w⟩ := h1
      subst es
      cases i1 with
      | cons i i1 =>
        obtain ⟨v, v', rfl, i', i''⟩ := iss2 i1
        (first | cases i.inv | cases i)
        (first | cases i'.inv | cases i')
        cases i''
        exact ⟨lo, j, rfl, q, for_gives hd e1 (hs.mono e1) m1 (fun M2 H2 m2 e2 _ => gives_f _ _) (walk_rd w)⟩⟩
end
end DL

/-! Comprehensions with names of the def around them. -/
namespace DL
open PySem PySem.Spec PyProof.Rows L2
/-- the cells of the free names -/
noncomputable def cloF (cells : List (Str × Addr)) : List (Str × NameKind) → List (Str × Addr) → List (Str × Addr)
  | [], acc => acc
  | (n, k) :: r, acc => cloF cells r (if k == .free then (n, (cells.lookup n).getD 0) :: acc else acc)
theorem clos_for {env : Env} : ∀ (names : List (Str × NameKind)) (acc : List (Str × Addr)), (∀ y ∈ names, y.2 = .free → ∃ c, env.cells.lookup y.1 = some c) →
    (forIn (m := Sem) names acc fun x cs => if x.2 == NameKind.free then do let c ← cellOf env x.1; pure (ForInStep.yield ((x.1, c) :: cs)) else pure (ForInStep.yield cs)) = pure (cloF env.cells names acc)
  | [], acc, _ => rfl
  | (n, k) :: r, acc, h => by
    rw [List.forIn_cons]
    have ih := fun acc' => clos_for (env := env) r acc' fun y hy => h y (List.mem_cons_of_mem _ hy)
    by_cases hk : (k == NameKind.free) = true
    · obtain ⟨c, hc⟩ := h (n, k) List.mem_cons_self (by simpa using hk)
      have hc' : env.cells.lookup n = some c := hc
      have e1 : cellOf env n = pure c := by unfold cellOf; rw [hc']
      simp only [hk, if_true, e1, pure_bind, ih]
      rw [cloF, if_pos hk, hc']
      rfl
    · have hk' : (k == NameKind.free) = false := by simpa using hk
      simp only [hk', Bool.false_eq_true, if_false, pure_bind, ih]
      rw [cloF, if_neg (by simp [hk'])]
theorem clos_of {env : Env} {scope : Scope} (h : ∀ y ∈ scope.names, y.2 = .free → ∃ c, env.cells.lookup y.1 = some c) : closureFor scope env = pure (cloF env.cells scope.names []) := by
  have z := clos_for (env := env) scope.names [] h
  simp only [closureFor]
  first
    | exact z
    | (simp only [bind_pure]; exact z)
    | (rw [z]; rfl)
theorem cloF_mem {cells : List (Str × Addr)} : ∀ (names : List (Str × NameKind)) (acc : List (Str × Addr)) (p : Str × Addr), (∀ y ∈ names, y.2 = .free → ∃ c, cells.lookup y.1 = some c) → p ∈ cloF cells names acc → p ∈ acc ∨ cells.lookup p.1 = some p.2
  | [], acc, p, _, h => .inl h
  | (n, k) :: r, acc, p, hf, h => by
    rw [cloF] at h
    rcases cloF_mem r _ p (fun y hy => hf y (List.mem_cons_of_mem _ hy)) h with h | h
    · by_cases hk : (k == NameKind.free) = true
      · rw [if_pos hk] at h
        rcases List.mem_cons.mp h with rfl | h
        · obtain ⟨c, hc⟩ := hf (n, k) List.mem_cons_self (by simpa using hk)
          have hc' : cells.lookup n = some c := hc
          exact .inr (by show cells.lookup n = some ((cells.lookup n).getD 0); rw [hc']; rfl)
        · exact .inl h
      · rw [if_neg hk] at h; exact .inl h
    · exact .inr h
theorem cloF_some {cells : List (Str × Addr)} {x : Str} : ∀ (names : List (Str × NameKind)) (acc : List (Str × Addr)), (x, NameKind.free) ∈ names ∨ (acc.lookup x).isSome = true → ((cloF cells names acc).lookup x).isSome = true
  | [], acc, h => h.elim (fun h => (nomatch h)) id
  | (n, k) :: r, acc, h => by
    rw [cloF]
    refine cloF_some r _ ?_
    by_cases hk : (k == NameKind.free) = true
    · rw [if_pos hk]
      by_cases hx : (x == n) = true
      · exact .inr (by rw [List.lookup_cons, hx]; rfl)
      · have hx' : (x == n) = false := by simpa using hx
        rcases h with h | h
        · rcases List.mem_cons.mp h with h | h
          · cases h; simp at hx
          · exact .inl h
        · exact .inr (by rw [List.lookup_cons, hx']; exact h)
    · rw [if_neg hk]
      rcases h with h | h
      · rcases List.mem_cons.mp h with h | h
        · cases h; simp at hk
        · exact .inl h
      · exact .inr h
theorem relabel_free {env : Env} (hk : env.scope.kind = .function) : ∀ {names : List (Str × NameKind)} {x : Str}, names.lookup x = some .free → env.kindOf x = some .cell →
    (names.map fun (n, k) => if (k == NameKind.free && env.scope.kind == .function && env.kindOf n == some .cell) then (n, NameKind.cell) else (n, k)).lookup x = some .cell
  | [], _, h, _ => by simp at h
  | (n, k) :: r, x, h, hx => by
    have ih := @relabel_free env hk r x
    show List.lookup x ((if (k == NameKind.free && env.scope.kind == .function && env.kindOf n == some .cell) = true then (n, NameKind.cell) else (n, k)) :: _) = _
    cases e : x == n with
    | true =>
      simp only [List.lookup_cons, e] at h
      cases h
      have en : x = n := by simpa using e
      subst en
      rw [if_pos (by simp [hk, hx])]
      simp [List.lookup_cons]
    | false =>
      simp only [List.lookup_cons, e] at h
      by_cases hc : (k == NameKind.free && env.scope.kind == .function && env.kindOf n == some .cell) = true
      · rw [if_pos hc]; simp only [List.lookup_cons, e]; exact ih h hx
      · rw [if_neg hc]; simp only [List.lookup_cons, e]; exact ih h hx
noncomputable def frOk (N : List Str) (ns : List (Str × NameKind)) : List (Option Nat) → List Str → Bool
  | none :: js, _ :: Nc => frOk N ns js Nc
  | some j :: js, x :: Nc => decide (N[j]? = some x) && decide (ns.lookup x = some .free) && frOk N ns js Nc
  | [], [] => true
  | _, _ => false
theorem frOk_len {N : List Str} {ns : List (Str × NameKind)} : ∀ {js : List (Option Nat)} {Nc : List Str}, frOk N ns js Nc = true → js.length = Nc.length
  | [], [], _ => rfl
  | [], _ :: _, h => by simp [frOk] at h
  | none :: _, [], h => by simp [frOk] at h
  | some _ :: _, [], h => by simp [frOk] at h
  | none :: js, _ :: Nc, h => by rw [frOk] at h; simp [frOk_len h]
  | some j :: js, x :: Nc, h => by simp only [frOk, Bool.and_eq_true] at h; simp [frOk_len h.2]
theorem frOk_get {N : List Str} {ns : List (Str × NameKind)} : ∀ {js : List (Option Nat)} {Nc : List Str} {i j : Nat} {x : Str}, frOk N ns js Nc = true → js[i]? = some (some j) → Nc[i]? = some x → N[j]? = some x ∧ ns.lookup x = some .free
  | [], _, _, _, _, _, e, _ => by simp at e
  | _ :: _, [], _, _, _, _, _, e => by simp at e
  | none :: js, _ :: Nc, 0, _, _, _, e, _ => by simp at e
  | none :: js, _ :: Nc, i + 1, j, x, h, e1, e2 => by rw [frOk] at h; exact frOk_get (i := i) h (by simpa using e1) (by simpa using e2)
  | some j' :: js, y :: Nc, 0, j, x, h, e1, e2 => by
    simp at e1 e2
    subst e1 e2
    simp only [frOk, Bool.and_eq_true, decide_eq_true_eq] at h
    exact h.1
  | some j' :: js, y :: Nc, i + 1, j, x, h, e1, e2 => by
    simp only [frOk, Bool.and_eq_true] at h
    exact frOk_get (i := i) h.2 (by simpa using e1) (by simpa using e2)
section
variable {X : Cx}
theorem comp_okF {Nc : List Str} {js : List (Option Nat)} {scope : Scope} {n : Nat} (N : List Str) (ns : List (Str × NameKind)) (hN : X.N = N) (hS : X.env.scope.names = ns) (hE : X.env.cells = cellsFrom n X.env.scope.names []) (hK : X.env.scope.kind = .function)
    (hfr : ∀ y ∈ scope.names, y.2 = .free → ns.lookup y.1 = some .cell) (hc : ∀ y ∈ scope.names, y.2 ≠ .cell) (hn : ∀ y ∈ scope.names, y.2 = .local → scope.names.lookup y.1 = some .local)
    (hk : scope.kind = .function) (hj : frOk N scope.names js Nc = true) : CompOk X Nc js scope (cloF X.env.cells scope.names []) := by
  have hcell : ∀ y ∈ scope.names, y.2 = .free → ∃ c, X.env.cells.lookup y.1 = some c := fun y hy hf => by
    rw [hE, hS]; exact L2.cell_has (sc := { X.env.scope with names := ns }) (hfr y hy hf)
  refine ⟨hk, clos_of hcell, hc, hn, fun p hp => ?_, ?_, frOk_len hj, fun i j x e1 e2 => ?_⟩
  · rcases cloF_mem _ _ p hcell hp with h | h
    · cases h
    · exact h
  · unfold relabel
    rw [List.all_map, List.all_eq_true]
    rintro ⟨y, k⟩ hp
    by_cases hf : k = .free
    · subst hf
      have z := cloF_some (cells := X.env.cells) (x := y) scope.names [] (.inl hp)
      simp only [Function.comp]
      split <;> (rw [z]; simp)
    · have h1 : (k == NameKind.free) = false := by simpa using hf
      have h2 : k ≠ .cell := hc _ hp
      simp [h1, h2, hf]
  · obtain ⟨h1, h2⟩ := frOk_get hj e1 e2
    have hx : X.env.kindOf x = some .cell := by
      show X.env.scope.names.lookup x = _
      rw [hS]; exact hfr (x, .free) (PySem.mem_of_lookup h2) rfl
    exact ⟨by rw [hN]; exact h1, .inl hx, .inl (relabel_free hK h2 hx), rfl⟩
end
end DL

/-! Dicts over data: keys ints and texts. -/
namespace DL
open PySem PySem.Spec PyProof.Rows L2
noncomputable def keyD : Key → D
  | .inl i => .int i
  | .inr x => .str x
noncomputable def keyOf : D → Option Key
  | .int i => some (.inl i)
  | .str x => some (.inr x)
  | _ => none
noncomputable def valD (kvs : List (Key × D)) (k : Key) : Option D := (kvs.find? fun kv => decide (kv.1 = k)).map (·.2)
noncomputable def putD (kvs : List (Key × D)) (k : Key) (d : D) : List (Key × D) :=
  if (kvs.any fun kv => decide (kv.1 = k)) = true then kvs.map (fun kv => if kv.1 = k then (kv.1, d) else kv) else kvs ++ [(k, d)]
theorem valD_nil {k : Key} : valD [] k = none := rfl
theorem valD_pos {p : Key × D} {r : List (Key × D)} {k : Key} (e : p.1 = k) : valD (p :: r) k = some p.2 := by simp [valD, List.find?_cons, e]
theorem valD_neg {p : Key × D} {r : List (Key × D)} {k : Key} (e : ¬ p.1 = k) : valD (p :: r) k = valD r k := by simp [valD, List.find?_cons, e]
theorem valD_any (k : Key) : ∀ kvs : List (Key × D), (kvs.any fun kv => decide (kv.1 = k)) = (valD kvs k).isSome
  | [] => rfl
  | p :: r => by
    rw [List.any_cons]
    by_cases e : p.1 = k
    · rw [valD_pos e, decide_eq_true e]; rfl
    · rw [valD_neg e, decide_eq_false e, Bool.false_or]; exact valD_any k r
theorem putD_new {kvs : List (Key × D)} {k : Key} (d : D) (h : valD kvs k = none) : putD kvs k d = kvs ++ [(k, d)] := by
  unfold putD; rw [valD_any, h]; exact if_neg (by decide)
theorem putD_old {kvs : List (Key × D)} {k : Key} (d : D) (h : (valD kvs k).isSome = true) : putD kvs k d = kvs.map fun kv => if kv.1 = k then (kv.1, d) else kv := by
  unfold putD; rw [valD_any, h]; exact if_pos rfl
noncomputable abbrev PKD (K : PySem.W.Frag) (H : Hp) : List (Key × V) → List (Key × D) → Prop := Paired fun (p : Key × V) (q : Key × D) => p.1 = q.1 ∧ Is K H p.2 q.2
section
variable {K : PySem.W.Frag} {M : DH} {H H' : Hp} {kx : List (Key × V)} {kvs : List (Key × D)} {k : Key} {p : Addr}
theorem key_is {v : V} {d : D} (i : Is K H v d) (e : keyOf d = some k) : v = kV k := by
  cases i with
  | int j => cases e; rfl
  | str x => cases e; rfl
  | _ => cases e
theorem pkd_some (r : PKD K H kx kvs) {d : D} (e : valD kvs k = some d) : ∃ v, valV kx k = some v ∧ Is K H v d := by
  induction r with
  | nil => rw [valD_nil] at e; cases e
  | @cons a b as bs h t ih =>
    by_cases hk : b.1 = k
    · rw [valD_pos hk] at e
      cases e
      exact ⟨a.2, valV_pos (h.1.trans hk), h.2⟩
    · rw [valD_neg hk] at e
      obtain ⟨v, h1, h2⟩ := ih e
      exact ⟨v, by rw [valV_neg fun z => hk (h.1.symm.trans z)]; exact h1, h2⟩
theorem pkd_none (r : PKD K H kx kvs) (e : valD kvs k = none) : valV kx k = none := by
  induction r with
  | nil => rfl
  | @cons a b as bs h t ih =>
    have hk : ¬ b.1 = k := fun z => by rw [valD_pos z] at e; cases e
    rw [valD_neg hk] at e
    rw [valV_neg fun z => hk (h.1.symm.trans z)]
    exact ih e
theorem pkd_isSome (r : PKD K H kx kvs) : (valV kx k).isSome = (valD kvs k).isSome := by
  cases e : valD kvs k with
  | none => rw [pkd_none r e]; rfl
  | some d => obtain ⟨v, h1, _⟩ := pkd_some r e; rw [h1]; rfl
theorem pkd_length (r : PKD K H kx kvs) : kx.length = kvs.length := Paired.length r
theorem pkd_mono0 (e : Ext0 K H H') (r : PKD K H kx kvs) : PKD K H' kx kvs := r.impP fun _ _ ⟨r1, r2⟩ => ⟨r1, r2.mono0 e⟩
theorem pkd_mono (e : Ext K H H') (r : PKD K H kx kvs) : PKD K H' kx kvs := r.impP fun _ _ ⟨r1, r2⟩ => ⟨r1, r2.mono e⟩
theorem pkd_put (r : PKD K H kx kvs) {v : V} {d : D} (i : Is K H v d) : PKD K H (putK kx k v) (putD kvs k d) := by
  have e : (kx.any fun kv => decide (kv.1 = k)) = kvs.any fun kv => decide (kv.1 = k) := by rw [valV_any, valD_any, pkd_isSome r]
  unfold putK putD
  rw [e]
  by_cases q : (kvs.any fun kv => decide (kv.1 = k)) = true
  · rw [if_pos q, if_pos q]
    clear e q
    induction r with
    | nil => exact .nil
    | @cons a b as bs h t ih =>
      rw [List.map_cons, List.map_cons]
      refine .cons ?_ ih
      by_cases z : b.1 = k
      · rw [if_pos z, if_pos (h.1.trans z)]; exact ⟨h.1, i⟩
      · rw [if_neg z, if_neg fun y => z (h.1.symm.trans y)]; exact h
  · rw [if_neg q, if_neg q]; exact Paired.snoc r ⟨rfl, i⟩
/-- a dict that is read: one that may change, or one that a loop walks -/
noncomputable abbrev DicAt (M : DH) (a : Addr) (kvs : List (Key × D)) : Prop := M a = some (.dic kvs) ∨ M a = some (.fdc kvs)
theorem HAbs.dic {kvs : List (Key × D)} {a : Addr} (h : HAbs K M H) (e : DicAt M a kvs) : ∃ kx, Rd H a (.dK kx) ∧ PKD K H kx kvs := by
  rcases e with e | e
  · obtain ⟨kx, h1, h2⟩ := h a _ e; exact ⟨kx, .inl h1, h2⟩
  · obtain ⟨o, kx, h1, h2⟩ := h a _ e; exact ⟨kx, .inr ⟨o, h1⟩, h2⟩
theorem HAbs.newK (h : HAbs K M H) (e : H p = none) : HAbs K (updM M p (.dic [])) (upd H p (.dK [])) := h.newM e (show MOk K _ p (.dic []) from ⟨[], upd_same, .nil⟩)
theorem HAbs.setK {es : List (Key × D)} {ys : List (Key × V)} (h : HAbs K M H) (hx : H p = some (.dK kx)) (hy : PKD K H ys es) : HAbs K (updM M p (.dic es)) (upd H p (.dK ys)) ∧ Ext K H (upd H p (.dK ys)) := by
  have ex : Ext K H (upd H p (.dK ys)) := ext_upd (fun zs s => by rcases s with s | ⟨u, s⟩ <;> rw [hx] at s <;> cases s) (fun u xs s => by rw [hx] at s; cases s)
  refine ⟨fun a u q => ?_, ex⟩
  by_cases z : a = p
  · subst z; rw [updM_same] at q; cases q; exact ⟨ys, upd_same, pkd_mono ex hy⟩
  · rw [updM_ne z] at q
    exact (h a u q).mono ex.e0 (fun v w => by rw [upd_ne z]; exact w) (fun dx w => by rw [upd_ne (ne_of w hx (by intro k; cases k))]; exact w)
end
section
variable {X : Cx} {e a b c o f : Expr} {es : List Expr} {pos apos cpos : Pos} {ta tb tc te td ty tx : TEd} {n : Nat}
noncomputable def eDict0 : TEd := fun _ M Q => ∀ p, M p = none → Q (.ref p) (updM M p (.dic []))
theorem d_dict0 : PE X (.Dict [] [] pos) (low X.K eDict0) :=
  pe_dnewK.imp fun σ H Q ⟨τ, M, Q', hs, hm, h, hq⟩ p hp => hq _ _ _ _ (hm.newK hp) (ext_new hp) (.ref p) (h p (hm.free hp))
/-! ### in, not in -/
noncomputable def D.flat : D → Bool
  | .non => true
  | .bl _ => true
  | .int _ => true
  | .str _ => true
  | _ => false
theorem flat_of {K : PySem.W.Frag} {H : Hp} {v : V} {d : D} (i : Is K H v d) (h : D.flat d = true) : flatV v = true := by
  cases i <;> first | rfl | (cases h; done)
theorem flat_all {K : PySem.W.Frag} {H : Hp} : ∀ {vs : List V} {ds : List D}, Iss K H vs ds → ds.all D.flat = true → vs.all flatV = true
  | _, _, .nil, _ => rfl
  | _, _, .cons i t, h => by
    rw [List.all_cons, Bool.and_eq_true] at h
    rw [List.all_cons, flat_of i h.1, flat_all t h.2]
    rfl
theorem flat_eqV {K : PySem.W.Frag} {H : Hp} {v v' : V} {d d' : D} (i : Is K H v d) (i' : Is K H v' d') (h : D.flat d = true) (h' : D.flat d' = true) : eqV v v' = D.eq d d' :=
  (flat_eq i i' (by cases d <;> cases d' <;> first | rfl | (cases h; done) | (cases h'; done)) (by cases d <;> first | rfl | (cases h; done))).2.2
theorem flat_any {K : PySem.W.Frag} {H : Hp} {v : V} {d : D} (i : Is K H v d) (h : D.flat d = true) : ∀ {vs : List V} {ds : List D}, Iss K H vs ds → ds.all D.flat = true → inV v vs = ds.any fun y => D.eq y d
  | _, _, .nil, _ => rfl
  | _, _, .cons j t, hh => by
    rw [List.all_cons, Bool.and_eq_true] at hh
    have ih := flat_any i h t hh.2
    unfold inV at ih ⊢
    rw [List.any_cons, List.any_cons, ih, flat_eqV j i hh.1 h]
/-- one sign in a text; a key in a dict; a thing in a list of flat ones -/
noncomputable def inXD (neg : Bool) : D → D → DH → KD → Prop
  | .str i, .str j, M, Q => ∃ k, i.cps.toList = [k] ∧ Q (.bl (if neg then !decide (k ∈ j.cps.toList) else decide (k ∈ j.cps.toList))) M
  | d, .ref l, M, Q => (∃ k kvs, keyOf d = some k ∧ DicAt M l kvs ∧ Q (.bl (if neg then !(valD kvs k).isSome else (valD kvs k).isSome)) M) ∨
      ∃ xs, M l = some (.lst xs) ∧ D.flat d = true ∧ xs.all D.flat = true ∧ Q (.bl (if neg then !(xs.any fun y => D.eq y d) else xs.any fun y => D.eq y d)) M
  | _, _, _, _ => False
theorem inXD_ref {neg : Bool} {x : D} {l : Addr} {M : DH} {Q : KD} (h : inXD neg x (.ref l) M Q) : (∃ k kvs, keyOf x = some k ∧ DicAt M l kvs ∧ Q (.bl (if neg then !(valD kvs k).isSome else (valD kvs k).isSome)) M) ∨
      ∃ xs, M l = some (.lst xs) ∧ D.flat x = true ∧ xs.all D.flat = true ∧ Q (.bl (if neg then !(xs.any fun y => D.eq y x) else xs.any fun y => D.eq y x)) M := by
  cases x <;> exact h
theorem inXD_str {neg : Bool} {x : D} {j : Str} {M : DH} {Q : KD} (h : inXD neg x (.str j) M Q) : ∃ i k, x = .str i ∧ i.cps.toList = [k] ∧ Q (.bl (if neg then !decide (k ∈ j.cps.toList) else decide (k ∈ j.cps.toList))) M := by
  cases x with
  | str i => obtain ⟨k, h1, h2⟩ := h; exact ⟨i, k, rfl, h1, h2⟩
  | _ => exact h.elim
theorem od_notinX (hr : Room n X.A) : OpD X (compareOp .NotIn) (inXD true) := by
  intro pins s σ H vx vy v u Q I rx ry ⟨x, y, M, Q', ix, iy, hm, q, hq⟩
  cases iy with
  | str j =>
    obtain ⟨i, k, rfl, hk, q⟩ := inXD_str q
    (first | cases ix.inv | cases ix)
    refine op_notin_str pins s σ H _ _ v u Q I rx ry ⟨_, _, rfl, rfl, ?_⟩
    rw [one_sign hk, PySem.StrLaws.found_one]
    exact hq.here hm (.bl _) (by simpa using q)
  | ref l =>
    cases ry
    rcases inXD_ref q with ⟨k, kvs, hk, hl, q⟩ | ⟨xs, hl, h1, h2, q⟩
    · obtain ⟨kx, hx, hp⟩ := hm.dic hl
      have hv := key_is ix hk
      subst hv
      refine d_notIn (hu_of hr) I (.inl ⟨kx, k, hx, rfl, rfl⟩) rx fun s' I' => ⟨.bl _, H, I', rfl, ?_⟩
      rw [pkd_isSome hp]
      exact hq.here hm (.bl _) q
    · obtain ⟨ys, hy, iy⟩ := hm.lst hl
      refine op_notIn_seq pins s σ H _ (.ref l) v _ Q I rx rfl ⟨l, ys, rfl, .inl hy, flat_of ix h1, flat_all iy h2, ?_⟩
      rw [flat_any ix h1 iy h2]
      exact hq.here hm (.bl _) q
  | _ => cases ix <;> exact q.elim
/-! ### d[k] -/
noncomputable def ixKD : D → D → DH → KD → Prop
  | .ref l, y, M, Q => ∃ k kvs d, keyOf y = some k ∧ DicAt M l kvs ∧ valD kvs k = some d ∧ Q d M
  | _, _, _, _ => False
theorem d_ixK (hr : Room n X.A) (ha : PE X a (low X.K ta)) (hb : PE X b (low X.K tb)) (hs : NoSl b := by intro _ _; rfl) : PE X (.Subscript a b pos) (low X.K (eOp ixKD ta tb)) :=
  (pe_dget (hu_of hr) ha hb hs).imp fun σ H Q ⟨τ, M, Q', hs, hm, h, hq⟩ =>
    ⟨τ, M, _, hs, hm, h, fun x M1 vx H1 m1 e1 i1 h1 => ⟨τ, M1, _, hs.mono e1, m1, h1, fun y M2 vy H2 m2 e2 i2 h2 => by
      cases i1 with
      | ref l =>
        obtain ⟨k, kvs, d, hk, hl, hd, q⟩ := h2
        obtain ⟨kx, hx, hp⟩ := m2.dic hl
        obtain ⟨v, hv, iv⟩ := pkd_some hp hd
        have hy := key_is i2 hk
        subst hy
        exact ⟨l, v, rfl, .inl ⟨kx, k, hx, rfl, hv.symm⟩, hq d M2 v H2 m2 (e1.trans e2) iv q⟩
      | _ => exact h2.elim⟩⟩
/-! ### d[k] = v -/
noncomputable def setKD : D → D → D → DH → (DH → Prop) → Prop
  | .ref l, y, d, M, Q => ∃ k kvs, keyOf y = some k ∧ M l = some (.dic kvs) ∧ kvs.length < sizeLine ∧ Q (updM M l (.dic (putD kvs k d)))
  | _, _, _, _, _ => False
noncomputable def hSubK (to ti : TEd) : TGd := fun d τ M Q => to τ M fun x M1 => ti τ M1 fun y M2 => setKD x y d M2 fun M3 => Q τ M3
noncomputable def rSetK : TSet := fun x y v H R => ∃ l H', x = .ref l ∧ DPut H l y v H' ∧ R H'
theorem set_dict (hr : Room n X.A) : PSet X rSetK := by
  intro pins s σ H o i v ov iv u Q I ro ri rv ⟨l, H', e, g, q⟩
  subst e
  cases ro
  exact d_setItem (hu_of hr) I g ri rv fun s' I' => ⟨H', I', q⟩
theorem g_subK {i : Expr} {to ti : TEd} (hr : Room n X.A) (ho : PE X o (low X.K to)) (hi : PE X i (low X.K ti))
    (ha : ∀ v, assign (.Subscript o i pos) X.env v = (do
      let ov ← holding [v] (eval o X.env)
      let iv ← holding [v, ov] (eval i X.env)
      standAt pos
      holding [v, ov, iv] (setItem ov iv v)
      release [v, ov, iv] []) := by intro _; rfl) : PG X (.Subscript o i pos) (lowG X.K (hSubK to ti)) :=
  (pg_sub ho hi (set_dict hr) ha).imp fun v σ H Q ⟨d, τ, M, Q', i, hs, hm, h, hq⟩ =>
    ⟨τ, M, _, hs, hm, h, fun x M1 vx H1 m1 e1 i1 h1 => ⟨τ, M1, _, hs.mono e1, m1, h1, fun y M2 vy H2 m2 e2 i2 h2 => by
      cases i1 with
      | ref l =>
        obtain ⟨k, kvs, hk, hl, hz, q⟩ := h2
        obtain ⟨kx, hx, hp⟩ := m2 l _ hl
        have hy := key_is i2 hk
        subst hy
        have e12 := e1.trans e2
        obtain ⟨m3, e3⟩ := m2.setK hx (pkd_put (k := k) hp (i.mono e12))
        exact ⟨l, _, rfl, DPut.k (k := k) hx (by rw [pkd_length hp]; exact hz), hq τ _ σ _ (hs.mono (e12.trans e3)) m3 (e12.trans e3) q⟩
      | _ => exact h2.elim⟩⟩
/-! ### d.get(k, x) -/
noncomputable def isDic : D → DH → Prop
  | .ref l, M => ∃ kvs, DicAt M l kvs
  | _, _ => False
noncomputable def getKD : D → D → D → DH → KD → Prop
  | .ref l, y, z, M, Q => ∃ k kvs, keyOf y = some k ∧ DicAt M l kvs ∧ Q ((valD kvs k).getD z) M
  | _, _, _, _, _ => False
noncomputable def eGet2 (td ty tx : TEd) : TEd := fun τ M Q => td τ M fun x M1 => isDic x M1 ∧ ty τ M1 fun y M2 => tx τ M2 fun z M3 => getKD x y z M3 Q
theorem d_get2D (hr : Room n X.A) (ho : PE X o (low X.K td)) (he : PE X e (low X.K ty)) (hf : PE X f (low X.K tx)) (m : M2 X o "get" apos e f cpos := by exact ⟨rfl, rfl, rfl, rfl⟩) : PE X (.Call (.Attribute o "get" apos) [e, f] [] cpos) (low X.K (eGet2 td ty tx)) :=
  (pe_dget2 (hu_of hr) ho he hf m).imp fun σ H Q ⟨τ, M, Q', hs, hm, h, hq⟩ =>
    ⟨τ, M, _, hs, hm, h, fun x M1 vx H1 m1 e1 i1 ⟨h0, h1⟩ => by
      cases i1 with
      | ref l =>
        obtain ⟨kvs, hl⟩ := h0
        obtain ⟨kx, hx, hp⟩ := m1.dic hl
        refine ⟨l, rfl, .inl ⟨kx, hx⟩, τ, M1, _, hs.mono e1, m1, h1, fun y M2 vy H2 m2 e2 i2 h2 => ⟨τ, M2, _, hs.mono (e1.trans e2), m2, h2, fun z M3 vz H3 m3 e3 i3 h3 => ?_⟩⟩
        obtain ⟨k, kvs', hk, hl', q⟩ := h3
        obtain ⟨kx', hx', hp'⟩ := m3.dic hl'
        have hy := key_is i2 hk
        subst hy
        refine ⟨valV kx' k, .inl ⟨kx', k, hx', rfl, rfl⟩, hq _ M3 _ H3 m3 (e1.trans (e2.trans e3)) ?_ q⟩
        cases ev : valD kvs' k with
        | none => rw [pkd_none hp' ev]; exact i3
        | some d => obtain ⟨v, h4, h5⟩ := pkd_some hp' ev; rw [h4]; exact h5
      | _ => exact h0.elim⟩
/-! ### len(d), list(d) -/
end
end DL

/-! enumerate of a tuple or a list, for loops. -/
namespace DL
open PySem PySem.Spec PyProof.Rows L2
section
variable {prog : Program} {w : World} {A : Around} {E : Value → Shared → Prop} {z : Shared}
end
section
variable {X : Cx} {elts : List Expr} {k : Nat} {tpos pos : Pos} {g : TGd} {tb : TSd}
end
end DL

/-! for over a dict. -/
namespace DL
open PySem PySem.Spec PyProof.Rows L2
section
variable {X : Cx} {pins : List (Addr × Obj)} {σ : St} {H : Hp} {s : Shared}
/-- what is told of a thing changes, the thing does not -/
theorem inv_swap {d : Addr} {u v : HO} (I : Inv X pins σ H s) (hd : H d = some u) (n1 : ∀ xs, X.H₀ d ≠ some (.tup xs)) (n2 : ∀ o x, X.H₀ d ≠ some (.frz o x)) (n3 : ∀ ps, X.H₀ d ≠ some (.tbl ps)) (n4 : ∀ xs, u ≠ .tup xs) (n5 : ∀ a, u ≠ .own a)
    (new : ObjOk X.prog X.w (upd H d v) s.heap d v) : Inv X pins σ (upd H d v) s := by
  have hne : ∀ b, H b = none → b ≠ d := fun b e z => by subst z; rw [hd] at e; cases e
  refine ⟨I.ok, I.os, I.bare, ⟨I.base.keep, I.base.slot, fun b o e n hx => ?_, I.base.there, fun b xs e => ?_, fun b o x e => ?_, fun b ps e => ?_⟩, I.loc, I.cell, ?_, fun x c e => ?_, fun p hp => ?_, fun b o e => ?_, I.len⟩
  · have z := I.base.free b o e n hx
    rw [upd_ne (hne b z)]; exact z
  · rw [upd_ne (by intro z; subst z; exact n1 xs e)]; exact I.base.tups b xs e
  · rw [upd_ne (by intro z; subst z; exact n2 o x e)]; exact I.base.frzs b o x e
  · obtain ⟨more, q⟩ := I.base.tbls b ps e
    exact ⟨more, by rw [upd_ne (by intro z; subst z; exact n3 ps e)]; exact q⟩
  · rw [upd_ne (hne _ I.free)]; exact I.free
  · rw [upd_ne (hne _ (I.freeC x c e))]; exact I.freeC x c e
  · obtain ⟨h1, h2, h3⟩ := I.pin p hp
    exact ⟨h1, by rw [upd_ne (hne _ h2)]; exact h2, h3⟩
  · by_cases z : b = d
    · subst z; rw [upd_same] at e; cases e; exact new
    · rw [upd_ne z] at e
      exact (I.hok b o e).stay (fun c w _ q => q) (fun c q => by rw [upd_ne (by intro y; subst y; rw [hd] at q; cases q; exact n5 _ rfl)]; exact q) fun c xs q => by rw [upd_ne (by intro y; subst y; rw [hd] at q; cases q; exact n4 _ rfl)]; exact q
theorem inv_freeze {d : Addr} {kx : List (Key × V)} (I : Inv X pins σ H s) (hd : H d = some (.dK kx)) : ∃ (o : Obj) (vs : List (Key × Value)) (ep : Nat), s.heap.get? d = some o ∧ KV kx vs ∧ s.heap.DictAt (mixKind X.prog X.w) d vs ep ∧ (∃ es, o.data = .dict es ep) ∧ (d == sysModules) = false ∧
    (∀ o x, X.H₀ d ≠ some (.frz o x)) ∧ Inv X pins σ (upd H d (.frz o (.dK kx))) s := by
  obtain ⟨z, y, vs, r, o, es, ep, h1, h2⟩ := dk_of I.hok hd
  have n2 : ∀ o x, X.H₀ d ≠ some (.frz o x) := fun o x e => by have := I.base.frzs d o x e; rw [hd] at this; cases this
  refine ⟨o, vs, ep, h1, r, ⟨o, es, h1, h2⟩, ⟨es, h2.2.1⟩, y, n2, inv_swap I hd (fun xs e => ?_) n2 (fun ps e => ?_) (fun xs e => nomatch e) (fun a e => nomatch e) ?_⟩
  · have := I.base.tups d xs e; rw [hd] at this; cases this
  · obtain ⟨more, this⟩ := I.base.tbls d ps e; rw [hd] at this; cases this
  · exact ⟨h1, z, y, vs, r, o, es, ep, h1, h2⟩
theorem inv_thaw {d : Addr} {o : Obj} {kx : List (Key × V)} (I : Inv X pins σ H s) (hd : H d = some (.frz o (.dK kx))) (n2 : ∀ o x, X.H₀ d ≠ some (.frz o x)) : Inv X pins σ (upd H d (.dK kx)) s := by
  obtain ⟨h1, h2⟩ := I.hok d _ hd
  refine inv_swap I hd (fun xs e => ?_) n2 (fun ps e => ?_) (fun xs e => nomatch e) (fun a e => nomatch e) h2
  · have := I.base.tups d xs e; rw [hd] at this; cases this
  · obtain ⟨more, this⟩ := I.base.tbls d ps e; rw [hd] at this; cases this
end
noncomputable def Itk (d : Addr) (o : Obj) (kx : List (Key × V)) : It :=
  ⟨fun i H => H d = some (.frz o (.dK kx)) ∧ i < kx.length, fun i H x H' => H' = H ∧ ∃ k v, kx[i]? = some (k, v) ∧ x = kV k, fun i H => H d = some (.frz o (.dK kx)) ∧ i = kx.length⟩
theorem frz_at {X : Cx} {pins : List (Addr × Obj)} {σ : St} {H : Hp} {s : Shared} {d : Addr} {o : Obj} {kx : List (Key × V)} {es : Array DictEntry} {ep : Nat} (I : Inv X pins σ H s) (hd : H d = some (.frz o (.dK kx))) (ho : o.data = .dict es ep) : ∃ vs, KV kx vs ∧ s.heap.DictAt (mixKind X.prog X.w) d vs ep := by
  obtain ⟨h1, z, y, vs, r, o', es', ep', h2, h3, h4, h5⟩ := I.hok d _ hd
  rw [h1] at h2
  (first | cases h2.inv | cases h2)
  rw [ho] at h4
  cases h4
  exact ⟨vs, r, o, es, h1, h3, ho, h5⟩
theorem key_rel {P : Program} {w : World} {k : Key} {v : Value} (h : (mixKind P w).is k v = true) : RelV (kV k) v := by
  rcases keyIs_shape h with ⟨i, t, e, rfl⟩ | ⟨i, t, e, rfl⟩
  · rw [e]; exact ⟨t, rfl⟩
  · rw [e]; exact ⟨t, rfl⟩
theorem turn_dict {P : Program} {w : World} {K : PySem.W.Frag} {tg : Expr} {d it : Addr} {o : Obj} {kx : List (Key × V)} {es : Array DictEntry} {ep : Nat} (ho : o.data = .dict es ep) : Turn P w K tg (Itk d o kx) [it] it (fun i h => h.IsKeyIter it d i kx.length ep) where
  mem := by simp
  obj := fun i h st b hb => by
    have e : b = it := by simpa using hb
    subst e
    obtain ⟨ob, e, c, dd⟩ := st
    exact ⟨ob, e, fun v z => by rw [dd] at z; cases z⟩
  keep := fun i h h' st k => st.at fun ob e => k it (by simp) ob e
  item := by
    intro X hP hw hK hc i pins s σ H E I hf st hg
    subst hP hw hK
    obtain ⟨hd, hi⟩ := hg
    obtain ⟨vs, rel, hat⟩ := frz_at I hd ho
    obtain ⟨f0, f1, f2, f3, f4, f5⟩ := hf it (by simp)
    have hne : d ≠ it := by intro z; subst z; rw [hd] at f0; cases f0
    have hlen : kx.length = vs.length := rel.length
    rw [hlen] at st hi
    refine (Walks.dictKeys (I.ok.hd hc) it d hne vs ep).item i s _ _ hi ⟨st, hat⟩ fun v h' tk hv st' kk => ?_
    obtain ⟨k, x, h1, h2⟩ := hv
    have I1 : Inv X pins σ H { s with heap := h', toks := tk } := I.turned (fun b ob hb e => kk b ob (by simpa using hb) e) f0 f1 f3 f4 f5
    obtain ⟨ob, e2, c2, d2⟩ := id st'.1
    have hk : (kx.map (·.1))[i]? = some k := by rw [rel.keys, List.getElem?_map, h1]; rfl
    rw [List.getElem?_map] at hk
    cases e3 : kx[i]? with
    | none => rw [e3] at hk; cases hk
    | some pr =>
      rw [e3] at hk
      cases hk
      exact ⟨v, rfl, go_of (s := { s with heap := h', toks := tk }) e2 c2 d2 (by decide) ⟨kV pr.1, H, I1, key_rel h2, ⟨rfl, pr.1, pr.2, e3, rfl⟩, by rw [hlen]; exact st'.1, fun b hb => (hf b hb).1⟩⟩
  done := by
    intro X hP hw hK hc i pins s σ H E I hf st hg
    subst hP hw hK
    obtain ⟨hd, hi⟩ := hg
    obtain ⟨vs, rel, hat⟩ := frz_at I hd ho
    obtain ⟨f0, f1, f2, f3, f4, f5⟩ := hf it (by simp)
    have hne : d ≠ it := by intro z; subst z; rw [hd] at f0; cases f0
    have hlen : kx.length = vs.length := rel.length
    rw [hlen] at st hi
    subst hi
    exact (Walks.dictKeys (I.ok.hd hc) it d hne vs ep).done s _ _ ⟨st, hat⟩ fun h' tk kk => ⟨rfl, I.turned (fun b ob hb e => kk b ob (by simpa using hb) e) f0 f1 f3 f4 f5⟩
  self := fun _ _ _ _ _ st h => wpAny_pyIter_keyiter st h
section
variable {X : Cx} {tg : Expr} {pos : Pos} {g : TGd} {tb : TSd} {te : TEd}
noncomputable def iDict (X : Cx) (tl : TE) : TI := fun σ H R => tl σ H fun x H1 => ∃ d kx, x = .ref d ∧ H1 d = some (.dK kx) ∧ ∀ o, (∀ o x, X.H₀ d ≠ some (.frz o x)) → R (Itk d o kx) (upd H1 d (.frz o (.dK kx)))
theorem pi_dict {l : Expr} {tl : TE} (hl : PE X l tl) : PI X tg l (iDict X tl) := by
  intro pins s σ H R I h
  refine thn (hl pins s σ H _ I h) fun v s1 ⟨x, H1, I1, r1, q1⟩ => ?_
  obtain ⟨d, kx, e, hd, q⟩ := q1
  subst e
  cases r1
  obtain ⟨o, vs, ep, h1, rel, hat, ⟨es, ho⟩, lo, nf, I2⟩ := inv_freeze I1 hd
  refine wpAny_pyIter_dict lo hat ?_
  refine ⟨s1.heap.objs.size, [s1.heap.objs.size], _, _, _, rfl, I2.kept (t' := s1.toks) fun b ob e => Heap.get?_push_of_some _ e, turn_dict ho, ⟨_, Heap.get?_push_size _ rfl, rfl, by rw [rel.length]; rfl⟩, fun b hb => ?_, q o nf⟩
  have e : b = s1.heap.objs.size := by simpa using hb
  subst e
  exact I2.fpOk (Nat.le_refl _) (I2.hok.fresh (Nat.le_refl _))
/-- the ends of a loop over a dict: it may be changed again -/
noncomputable def thawed (X : Cx) (D : Ends) : Ends where
  nx := fun σ H => ∃ d o kx, H d = some (.frz o (.dK kx)) ∧ (∀ o x, X.H₀ d ≠ some (.frz o x)) ∧ D.nx σ (upd H d (.dK kx))
  rt := fun v H => ∃ d o kx, H d = some (.frz o (.dK kx)) ∧ (∀ o x, X.H₀ d ≠ some (.frz o x)) ∧ D.rt v (upd H d (.dK kx))
  bk := fun σ H => ∃ d o kx, H d = some (.frz o (.dK kx)) ∧ (∀ o x, X.H₀ d ≠ some (.frz o x)) ∧ D.bk σ (upd H d (.dK kx))
  ct := fun σ H => ∃ d o kx, H d = some (.frz o (.dK kx)) ∧ (∀ o x, X.H₀ d ≠ some (.frz o x)) ∧ D.ct σ (upd H d (.dK kx))
theorem ps_forK {iter : Expr} {body : List Stmt} {tl : TE} {gv : TG} {tbv : TS} (hp : PassesOwn (model X.prog X.w) X.A X.env X.xe) (hc : X.calm = true) (hl : PE X iter tl) (hg : PG X tg gv) (hb : PSs X body tbv)
    (hs : ∀ x, foldedSetIterable iter X.env x = pure x := by intro _; rfl) : PS X (.For tg iter body [] pos) (fun D σ H => tFor (iDict X tl) gv tbv (thawed X D) σ H) := by
  intro pins s σ H D I h
  refine thn (ps_for hp hc (pi_dict hl) hg hb hs pins s σ H (thawed X D) I h) fun f s1 q => ?_
  cases f with
  | next => obtain ⟨σ1, H1, I1, d, o, kx, hd, nf, q⟩ := q; exact ⟨σ1, _, inv_thaw I1 hd nf, q⟩
  | cont => obtain ⟨σ1, H1, I1, d, o, kx, hd, nf, q⟩ := q; exact ⟨σ1, _, inv_thaw I1 hd nf, q⟩
  | brk => obtain ⟨σ1, H1, I1, d, o, kx, hd, nf, q⟩ := q; exact ⟨σ1, _, inv_thaw I1 hd nf, q⟩
  | ret v => obtain ⟨x, σ1, H1, I1, r, d, o, kx, hd, nf, q⟩ := q; exact ⟨x, σ1, _, inv_thaw I1 hd nf, r, q⟩
/-! over data -/
theorem pkd_keys {K : PySem.W.Frag} {H : Hp} {kx : List (Key × V)} {kvs : List (Key × D)} (r : PKD K H kx kvs) : kx.map (·.1) = kvs.map (·.1) := by
  induction r with
  | nil => rfl
  | cons h t ih => rw [List.map_cons, List.map_cons, ih, h.1]
section
variable {K : PySem.W.Frag} {M : DH} {H : Hp} {l : Addr} {o : Obj} {kx : List (Key × V)} {kvs : List (Key × D)}
theorem ext_freeze (hx : H l = some (.dK kx)) : Ext K H (upd H l (.frz o (.dK kx))) := ext_upd (fun zs s => by rcases s with s | ⟨u, s⟩ <;> rw [hx] at s <;> cases s) (fun u x s => by rw [hx] at s; cases s)
theorem HAbs.freeze (h : HAbs K M H) (hx : H l = some (.dK kx)) (hp : PKD K H kx kvs) : HAbs K (updM M l (.fdc kvs)) (upd H l (.frz o (.dK kx))) := fun a u q => by
  by_cases z : a = l
  · subst z; rw [updM_same] at q; cases q; exact ⟨o, kx, upd_same, pkd_mono (ext_freeze hx) hp⟩
  · rw [updM_ne z] at q
    exact (h a u q).mono (ext_freeze hx).e0 (fun v w => by rw [upd_ne z]; exact w) (fun dx w => by rw [upd_ne (ne_of w hx (by intro k; cases k))]; exact w)
theorem ext_thaw (hx : H l = some (.frz o (.dK kx))) : Ext0 K H (upd H l (.dK kx)) := ⟨fun a xs s => by
  rcases s with s | s
  · have hne : a ≠ l := by intro z; subst z; rcases s with s | ⟨u, s⟩ <;> rw [hx] at s <;> cases s
    rcases s with s | ⟨u, s⟩
    · exact .inl (.inl (by rw [upd_ne hne]; exact s))
    · exact .inl (.inr ⟨u, by rw [upd_ne hne]; exact s⟩)
  · exact .inr s, fun a xs s => by
  rcases s with ⟨u, s⟩ | s
  · exact .inl ⟨u, by rw [upd_ne (by intro z; subst z; rw [hx] at s; cases s)]; exact s⟩
  · exact .inr s⟩
theorem HAbs.thaw (h : HAbs K M H) (hx : H l = some (.frz o (.dK kx))) (hl : M l = some (.fdc kvs)) : HAbs K (updM M l (.dic kvs)) (upd H l (.dK kx)) := fun a u q => by
  obtain ⟨o', kx', h1, hp⟩ := h l _ hl
  rw [hx] at h1
  (first | cases h1.inv | cases h1)
  by_cases z : a = l
  · subst z; rw [updM_same] at q; cases q; exact ⟨kx, upd_same, pkd_mono0 (ext_thaw hx) hp⟩
  · rw [updM_ne z] at q
    exact (h a u q).mono (ext_thaw hx) (fun v w => by rw [upd_ne z]; exact w) (fun dx w => by rw [upd_ne (ne_of w hx (by intro k; cases k))]; exact w)
/-- from ahead of the loop to behind it -/
theorem ext_loop {H1 H2 : Hp} (h1 : H1 l = some (.dK kx)) (e : Ext K (upd H1 l (.frz o (.dK kx))) H2) : Ext K H1 (upd H2 l (.dK kx)) := by
  have h2 : H2 l = some (.frz o (.dK kx)) := e.z _ _ _ upd_same
  refine ⟨fun a xs s => (ext_thaw h2).t a xs (e.t a xs ((ext_freeze h1).t a xs s)), fun a u x s => ?_⟩
  have hne : a ≠ l := by intro z; subst z; rw [h1] at s; cases s
  rw [upd_ne hne]
  exact e.z a u x (by rw [upd_ne hne]; exact s)
end
noncomputable def forKD (g : TGd) (tb : TSd) (E : EndsD) (τ : DSt) : D → DH → Prop
  | .ref l, M => ∃ kvs, M l = some (.dic kvs) ∧ ∃ W : Nat → DSt → DH → Prop, W 0 τ (updM M l (.fdc kvs)) ∧ (∀ i τ M, i ≤ kvs.length → W i τ M → M l = some (.fdc kvs)) ∧
      (∀ i k d τ M, kvs[i]? = some (k, d) → W i τ M → g (keyD k) τ M fun τ2 M2 => tb { nx := W (i + 1), ct := W (i + 1), bk := fun τ M => M l = some (.fdc kvs) ∧ E.nx τ (updM M l (.dic kvs)), rt := fun d M => M l = some (.fdc kvs) ∧ E.rt d (updM M l (.dic kvs)) } τ2 M2) ∧
      ∀ τ M, W kvs.length τ M → E.nx τ (updM M l (.dic kvs))
  | _, _ => False
noncomputable def sForK (te : TEd) (g : TGd) (tb : TSd) : TSd := fun E τ M => te τ M fun x M1 => forKD g tb E τ x M1
theorem s_forK {iter : Expr} {body : List Stmt} (hp : PassesOwn (model X.prog X.w) X.A X.env X.xe) (hc : X.calm = true) (hi : PE X iter (low X.K te)) (hg : PG X tg (lowG X.K g)) (hb : PSs X body (lowS X.K tb))
    (hs : ∀ x, foldedSetIterable iter X.env x = pure x := by intro _; rfl) : PS X (.For tg iter body [] pos) (lowS X.K (sForK te g tb)) :=
  (ps_forK hp hc hi hg hb hs).imp fun D σ H ⟨τ, M, D', hs, hm, h, hd⟩ => ⟨τ, M, _, hs, hm, h, fun x M1 v H1 m1 e1 i1 h1 => by
    cases i1 with
    | ref l =>
      obtain ⟨kvs, hl, W, w0, stay, turn, done⟩ := h1
      obtain ⟨kx, hx, hpk⟩ := m1 l _ hl
      have hlen := pkd_length hpk
      refine ⟨l, kx, rfl, hx, fun o nf => ?_⟩
      refine ⟨fun i m σ2 H2 => m = kvs.length - i ∧ i ≤ kvs.length ∧ ∃ τ2 M2, SAbs X.K τ2 σ2 H2 ∧ HAbs X.K M2 H2 ∧ Ext X.K (upd H1 l (.frz o (.dK kx))) H2 ∧ W i τ2 M2, ⟨kvs.length, by simp, Nat.zero_le _, τ, _, (hs.mono e1).mono (ext_freeze hx), m1.freeze hx hpk, Ext.refl _, w0⟩, ?_⟩
      rintro i m σ2 H2 ⟨rfl, hi, τ2, M2, s2, m2, e2, w2⟩
      have hz : H2 l = some (.frz o (.dK kx)) := e2.z _ _ _ upd_same
      by_cases hlt : i < kvs.length
      · refine .inr ⟨⟨hz, by omega⟩, fun σ3 H3 => ∃ τ3 M3, SAbs X.K τ3 σ3 H3 ∧ HAbs X.K M3 H3 ∧ Ext X.K (upd H1 l (.frz o (.dK kx))) H3 ∧ W (i + 1) τ3 M3, fun σ3 H3 p => ⟨kvs.length - (i + 1), by omega, rfl, hlt, p⟩, fun x H' y => ?_⟩
        obtain ⟨rfl, k, vv, ek, rfl⟩ := y
        obtain ⟨q, hq⟩ : ∃ q, kvs[i]? = some q := ⟨_, List.getElem?_eq_getElem hlt⟩
        have ekk : q.1 = k := by
          have h1 : (kx.map (·.1))[i]? = (kvs.map (·.1))[i]? := by
            rw [pkd_keys hpk]
          rw [List.getElem?_map, List.getElem?_map, ek, hq] at h1
          exact (Option.some.inj h1).symm
        subst ekk
        refine ⟨keyD q.1, τ2, M2, _, by cases q.1 with | inl n => exact .int n | inr z => exact .str z, s2, m2, turn i q.1 q.2 τ2 M2 hq w2, fun τ3 M3 σ3 H3 s3 m3 e3 q3 => ⟨τ3, M3, _, s3, m3, q3, ⟨?_, ?_, ?_, ?_⟩⟩⟩
        · intro τ4 M4 σ4 H4 s4 m4 e4 q4
          exact ⟨τ4, M4, s4, m4, e2.trans (e3.trans e4), q4⟩
        · intro d4 M4 v4 H4 m4 e4 i4 ⟨hf4, q4⟩
          have e5 := e2.trans (e3.trans e4)
          have hz4 : H4 l = some (.frz o (.dK kx)) := e5.z _ _ _ upd_same
          exact ⟨l, o, kx, hz4, nf, hd.rt _ _ _ _ (m4.thaw hz4 hf4) (e1.trans (ext_loop hx e5)) (i4.mono0 (ext_thaw hz4)) q4⟩
        · intro τ4 M4 σ4 H4 s4 m4 e4 ⟨hf4, q4⟩
          have e5 := e2.trans (e3.trans e4)
          have hz4 : H4 l = some (.frz o (.dK kx)) := e5.z _ _ _ upd_same
          exact ⟨l, o, kx, hz4, nf, hd.nx _ _ _ _ (s4.mono0 (ext_thaw hz4)) (m4.thaw hz4 hf4) (e1.trans (ext_loop hx e5)) q4⟩
        · intro τ4 M4 σ4 H4 s4 m4 e4 q4
          exact ⟨τ4, M4, s4, m4, e2.trans (e3.trans e4), q4⟩
      · have e : i = kvs.length := by omega
        subst e
        have hf := stay _ τ2 M2 (Nat.le_refl _) w2
        exact .inl ⟨⟨hz, hlen.symm⟩, l, o, kx, hz, nf, hd.nx _ _ _ _ (s2.mono0 (ext_thaw hz)) (m2.thaw hz hf) (e1.trans (ext_loop hx e2)) (done τ2 M2 w2)⟩
    | _ => exact h1.elim⟩
end
end DL

/-! enumerate(x, start=1), for loops. -/
namespace DL
open PySem PySem.Spec PyProof.Rows L2
section
variable {prog : Program} {w : World} {A : Around} {E : Value → Shared → Prop} {z : Shared}
end
end DL

/-! enumerate(x, start=1), for loops: the rules. -/
namespace DL
open PySem PySem.Spec PyProof.Rows L2
section
variable {X : Cx} {elts : List Expr} {k : Nat} {tpos pos : Pos} {g : TGd} {tb : TSd}
end
end DL

/-! is, == of lists, comprehensions over a range. -/
namespace DL
open PySem PySem.Spec PyProof.Rows L2
section
variable {X : Cx} {k : Nat}
/-! ### == of lists -/
theorem lists_at {pins : List (Addr × Obj)} {σ : St} {H : Hp} {s : Shared} {us ws : List V} {xs ys : List D} {its its2 : List Value} (I : Inv X pins σ H s) (i1 : Iss X.K H us xs) (i2 : Iss X.K H ws ys) (r1 : Vals us its) (r2 : Vals ws its2) (ok : D.eqOks xs ys = true) (dp : D.deps xs ≤ 150) {A : Around} (hu : A.units + 200 < cLine) :
    ∀ j (h1 : j < its.toArray.size) (h2 : j < its2.toArray.size), SeqAt.EqAt A s its.toArray[j] its2.toArray[j] (pairEq xs ys j) := by
  intro j h1 h2
  have n1 : its.toArray.size = xs.length := by rw [List.size_toArray, ← r1.length, i1.length]
  have n2 : its2.toArray.size = ys.length := by rw [List.size_toArray, ← r2.length, i2.length]
  have q1 : xs[j]? = some xs[j] := List.getElem?_eq_getElem (by omega)
  have q2 : ys[j]? = some ys[j] := List.getElem?_eq_getElem (by omega)
  obtain ⟨x, ex, ix⟩ := i1.get q1
  obtain ⟨y, ey, iy⟩ := i2.get q2
  obtain ⟨ux, eu, ru⟩ := r1.get ex
  obtain ⟨uy, ew, rw'⟩ := r2.get ey
  have g1 : its.toArray[j] = ux := by
    have : its[j]? = some its[j] := List.getElem?_eq_getElem (by simpa using h1)
    rw [this] at eu; simpa using eu
  have g2 : its2.toArray[j] = uy := by
    have : its2[j]? = some its2[j] := List.getElem?_eq_getElem (by simpa using h2)
    rw [this] at ew; simpa using ew
  rw [g1, g2]
  have pe : pairEq xs ys j = D.eq xs[j] ys[j] := by unfold pairEq; rw [q1, q2]
  rw [pe]
  have dg := deps_get q1
  exact (eqAt_D I 150 _ _ A x y ux uy (by omega) (by omega) (eqOks_get ok q1 q2) ix iy ru rw').1
theorem eqs_len : ∀ {xs ys : List D}, D.eqs xs ys = true → xs.length = ys.length
  | [], [], _ => rfl
  | [], _ :: _, h => nof h
  | _ :: _, [], h => nof h
  | x :: xs, y :: ys, h => by
    rw [List.length_cons, List.length_cons, eqs_len (Bool.and_eq_true_iff.mp h).2]
noncomputable def neXD : D → D → DH → KD → Prop
  | .ref l, .ref r, M, Q => ∃ xs ys, LstAt M l xs ∧ LstAt M r ys ∧ D.eqOks xs ys = true ∧ D.deps xs ≤ 150 ∧ Q (.bl (!D.eqs xs ys)) M
  | .tup xs, .tup ys, M, Q => D.eqOks xs ys = true ∧ D.deps xs ≤ 150 ∧ Q (.bl (!D.eqs xs ys)) M
  | .int i, .int j, M, Q => Q (.bl (!decide (i = j))) M
  | .str i, .str j, M, Q => Q (.bl (!decide (i = j))) M
  | .bl i, .bl j, M, Q => Q (.bl (!decide (i = j))) M
  | _, _, _, _ => False
theorem od_neX (hk1 : Room (k + 1) X.A) : OpD X (compareOp .NotEq) neXD := by
  intro pins s σ H vx vy v u Q I rx ry ⟨x, y, M, Q', ix, iy, hm, q, hq⟩
  have hr := hk1.mono (Nat.le_succ k)
  have hu : X.A.units + 200 < cLine := by have := hr.un; omega
  by_cases hrr : ∃ l r, x = .ref l ∧ y = .ref r
  · obtain ⟨l, r, rfl, rfl⟩ := hrr
    obtain ⟨xs, ys, hl, hr', ok, dp, q⟩ := q
    (first | cases ix.inv | cases ix)
    (first | cases iy.inv | cases iy)
    cases rx
    cases ry
    obtain ⟨us, hu1, i1⟩ := hm.lst hl
    obtain ⟨ws, hw, i2⟩ := hm.lst hr'
    obtain ⟨its, r1, p1, _⟩ := I.list hu1
    obtain ⟨its2, r2, p2, _⟩ := I.list hw
    have n1 : its.toArray.size = xs.length := by rw [List.size_toArray, ← r1.length, i1.length]
    have n2 : its2.toArray.size = ys.length := by rw [List.size_toArray, ← r2.length, i2.length]
    by_cases hlen : xs.length = ys.length
    · refine SeqAt.RcNeAt.lists (e := pairEq xs ys) p1.isList p2.isList (by rw [n1, n2, hlen]) (by omega) (lists_at I i1 i2 r1 r2 ok dp (A := X.A.in1) (by rw [in1_units]; have := hk1.un; omega)) _ _ _ _ ⟨.bl _, H, I, rfl, hq.here hm (.bl _) ?_⟩
      have e := eqs_all xs ys
      rw [show min xs.length ys.length = xs.length by omega, show (xs.length == ys.length) = true by simpa using hlen, Bool.and_true] at e
      rw [n1, e]
      exact q
    · have hf : D.eqs xs ys = false := by
        cases h : D.eqs xs ys with
        | false => rfl
        | true => exact absurd (eqs_len h) hlen
      rw [hf] at q
      exact SeqAt.RcNeAt.lists_lengths p1.isList p2.isList (by rw [n1, n2]; simpa using hlen) (by omega) _ _ _ _ ⟨.bl _, H, I, rfl, hq.here hm (.bl _) q⟩
  · refine od_ne hr pins s σ H vx vy v u Q I rx ry ⟨x, y, M, Q', ix, iy, hm, ?_, hq⟩
    cases x <;> cases y <;> first | exact q | exact q.elim | exact absurd ⟨_, _, rfl, rfl⟩ hrr
end
/-! ### [.. for k in range(n)] -/
section
variable {X : Cx} {tg elt a : Expr} {ifs : List Expr} {scope : Scope} {pos p cpos : Pos} {js : List (Option Nat)} {Nc : List Str} {cl : List (Str × Addr)}
end
end DL

/-! isinstance(x, dict). -/
namespace DL
open PySem PySem.Spec PyProof.Rows L2
section
variable {X : Cx}
end
end DL

/-! Exceptions: raised, passed on. -/
namespace DL
open PySem PySem.Spec PyProof.Rows L2

/-- an exception of the class cls lies at a, its traceback at T -/
noncomputable def Tr (h : Heap) (a T : Addr) (cls : Value) : Prop :=
  ∃ oe vs a0 oT ts, h.get? a = some oe ∧ (oe.cls = cls ∧ vs[0]? = some a0) ∧ oe.data = .fields vs ∧ vs[1]? = some (.ref T) ∧ T ≠ a ∧ h.get? T = some oT ∧ oT.data = .fields ts ∧ ts[3]? = some .none
section
variable {P : Program} {w : World} {K : PySem.W.Frag} {mg : Str → Option Value} {base : Heap} {N : List Str} {qual : Str} {scope : Scope} {f : Addr} {cd : Value} {A : Around} {outer : List Env} {s₀ : Shared} {H₀ : Hp} {E : XK} {EX : Value → DH → Prop}
end

/-! ### defs that may raise -/
section
variable {P : Program} {w : World} {K : PySem.W.Frag} {mg : Str → Option Value} {base : Heap}
end

section
variable {X : Cx} {e : Expr} {es : List Expr} {pos : Pos} {t : TAd} {EX : DSt → Value → DH → Prop}
end
end DL

/-! try .. except. -/
namespace DL
open PySem PySem.Spec PyProof.Rows L2

/-- an exception has come into this body -/
structure Fly (X : Cx) (pins : List (Addr × Obj)) (σ : St) (H : Hp) (s : Shared) (a T : Addr) (cls : Value) : Prop where
  inv : Inv X pins σ H s
  new : ∀ b ∈ [a, T], X.s₀.heap.get? b = none ∧ H b = none ∧ b ≠ X.env.locals ∧ (∀ x c, X.env.cells.lookup x = some c → c ≠ b) ∧ ∀ p ∈ X.pn ++ pins, p.1 ≠ b
  tr : Tr s.heap a T cls
section
variable {X : Cx} {pins : List (Addr × Obj)} {σ : St} {H : Hp} {s : Shared}
end
section
variable {X : Cx} {pins : List (Addr × Obj)} {σ : St} {H : Hp} {s : Shared}
end
section
variable {X : Cx} {pins : List (Addr × Obj)} {σ : St} {H : Hp} {s : Shared} {a T : Addr} {cls : Value}
/-- the classes above an own class -/
noncomputable def isaIn (K : PySem.W.Frag) (C : Addr) (v : Value) : Option Bool := match K.lookup C with
  | some ⟨_, _, .cls cd, _⟩ => some (cd.mro.contains v)
  | _ => none
abbrev bmVE : List Value := [.type "ValueError", .type "Exception", .type "BaseException", .type "object"]
end
end DL

/-! Handlers, and try around a call. -/
namespace DL
open PySem PySem.Spec PyProof.Rows L2

section
variable {X : Cx} {pins : List (Addr × Obj)} {σ : St} {H : Hp} {s : Shared}
end

section
variable {X : Cx} {y : Str} {F : Addr} {np hpos : Pos} {b₀ : Stmt} {body : List Stmt} {ts : TSd} {rest : List ExceptHandler} {tr : Value → TSd}
end

/-! ### try around a call -/
noncomputable def XP (X : Cx) (pins : List (Addr × Obj)) (σ : St) (H : Hp) (EX : Value → DH → Prop) (e : Value) (s' : Shared) : Prop := ∃ a T cls H2 M2, e = .ref a ∧ Fly X pins σ H2 s' a T cls ∧ HAbs X.K M2 H2 ∧ Ext X.K H H2 ∧ EX cls M2
section
variable {X : Cx} {e : Expr} {es : List Expr} {pos : Pos} {t : TAd}
end
end DL

/-! isinstance of an exception. -/
namespace DL
open PySem PySem.Spec PyProof.Rows L2

section
variable {prog : Program} {w : World} {A : Around} {E : Value → Shared → Prop} {h : Heap} {g : Array GenState} {d : Drawn} {t : Nat} {os : OsState} {a : Addr} {o : Obj}
  {nm q : Str} {C N : Addr} {bs bm : List Value} {hdct : Bool} {sn : List Str} {sub : List Value} {ab : Bool} {col : Option Bool} {dd : Option Addr} {k0 k1 k2 k3 k5 : Option Value} {newId : String}
end
/-! ### the text's classes of exceptions, by their names -/
noncomputable def cl (mg : Str → Option Value) (x : Str) : Addr := match mg x with
  | some (.ref C) => C
  | _ => 0
theorem cl_of {mg : Str → Option Value} {x : Str} {C : Addr} (h : mg x = some (.ref C)) : cl mg x = C := by unfold cl; rw [h]
noncomputable def kitTab (K : PySem.W.Frag) (cs : List Addr) : List (List (Option Bool)) := cs.map fun c => cs.map fun f => PySem.W.kitOne K (.ref c) (.ref f)
noncomputable def isaTab (K : PySem.W.Frag) (cs : List Addr) : List (List (Option Bool)) := cs.map fun c => cs.map fun f => isaIn K c (.ref f)
structure XTab (K : PySem.W.Frag) (cs : List Addr) (tab : List (List Bool)) : Prop where
  ow : ∀ c ∈ cs, PySem.W.excIn K c bmVE "ValueError.__new__" = true
  kt : kitTab K cs = tab.map fun r => r.map some
  ia : isaTab K cs = tab.map fun r => r.map some
  ve : cs.map (fun c => PySem.W.kitOne K (.ref c) (.type "ValueError")) = cs.map fun _ => some true
  f1 : cs.map (fun c => PySem.W.findIn K (.ref c) "__class__") = cs.map fun _ => some (some (.builtin "object.__class__"))
  f2 : cs.map (fun c => PySem.W.findIn K (.ref c) "__getattribute__") = cs.map fun _ => some (some (.builtin "BaseException.__getattribute__"))
  f3 : cs.map (fun c => PySem.W.findIn K (.ref c) "__getattr__") = cs.map fun _ => some none
section
variable {K : PySem.W.Frag} {cs : List Addr} {tab : List (List Bool)} {i j : Nat} {c f : Addr} {r : List Bool} {b : Bool}
end
end DL

/-! == of lists, displays of dicts, clear, tuples many times over. -/
namespace DL
open PySem PySem.Spec PyProof.Rows L2

section
variable {X : Cx} {k : Nat} {e a b : Expr} {pos : Pos} {ta tb te : TEd}
end
end DL

/-! `len(set(xs))` of a list of ints. -/
namespace DL
open PySem PySem.Spec PyProof.Rows L2
section
variable {X : Cx}
end
end DL

/-! A tuple taken several times; a dict with one pair; `d.clear()`. -/
namespace DL
open PySem PySem.Spec PyProof.Rows L2
section
open Builtin
set_option maxRecDepth 100000
end
section
variable {X : Cx}
/-! ### a dict with one pair -/
/-! ### d.clear() -/
end
end DL

/-! `sorted(xs)` of a list of ints, of a dict with int keys: fewer than 64. -/
namespace DL
open PySem PySem.Spec PyProof.Rows L2
section
variable {X : Cx}
end
end DL

/-! d.setdefault(k, x) of a dict with int or text keys; == of tuples up to 190 deep. -/
namespace DL
open PySem PySem.Spec PyProof.Rows L2
section
variable {X : Cx} {n : Nat} {o e f : Expr} {apos cpos : Pos}
end
end DL

/-! min(a, b, c) of ints. -/
namespace DL
open PySem PySem.Spec PyProof.Rows L2
section
variable {X : Cx}
end
end DL

/-! xs[lo:hi:step] of a list. -/
namespace DL
open PySem PySem.Spec PyProof.Rows L2
noncomputable def stepIx (n : Nat) (lo hi st : Option Int) : List Nat := sliceRange (sliceBounds lo hi st n).1 (sliceBounds lo hi st n).2.1 (sliceBounds lo hi st n).2.2
noncomputable def pickL {α : Type} (xs : List α) (is : List Nat) : List α := is.filterMap (xs[·]?)
theorem pick_map {α β : Type} (g : α → β) (xs : List α) : ∀ is : List Nat, pickL (xs.map g) is = (pickL xs is).map g
  | [] => rfl
  | i :: is => by
    have ih := pick_map g xs is
    unfold pickL at ih ⊢
    rw [List.filterMap_cons, List.filterMap_cons, List.getElem?_map]
    cases xs[i]? with
    | none => exact ih
    | some x => show g x :: _ = g x :: _; rw [ih]
theorem step_le (n : Nat) (lo hi st : Option Int) (items : Array Value) (h : items.size = n) : (pickL items.toList (stepIx n lo hi st)).length ≤ n := by
  have := slicePick_size_le items lo hi st
  unfold slicePick at this
  rw [List.size_toArray, h] at this
  unfold pickL stepIx
  simpa using this
theorem pick_vals {xs : List V} {us : List Value} (r : Vals xs us) : ∀ is : List Nat, Vals (pickL xs is) (pickL us is)
  | [] => .nil
  | i :: is => by
    have ih := pick_vals r is
    unfold pickL at ih ⊢
    rw [List.filterMap_cons, List.filterMap_cons]
    cases e : xs[i]? with
    | none =>
      have : us[i]? = none := List.getElem?_eq_none_iff.mpr (by rw [← r.length]; exact List.getElem?_eq_none_iff.mp e)
      rw [this]; exact ih
    | some x =>
      obtain ⟨u, eu, ru⟩ := r.get e
      rw [eu]; exact .cons ru ih
theorem pick_iss {K : PySem.W.Frag} {H : Hp} {xs : List V} {ds : List D} (r : Iss K H xs ds) : ∀ is : List Nat, Iss K H (pickL xs is) (pickL ds is)
  | [] => .nil
  | i :: is => by
    have ih := pick_iss r is
    unfold pickL at ih ⊢
    rw [List.filterMap_cons, List.filterMap_cons]
    cases e : ds[i]? with
    | none =>
      have : xs[i]? = none := List.getElem?_eq_none_iff.mpr (by rw [r.length]; exact List.getElem?_eq_none_iff.mp e)
      rw [this]; exact ih
    | some d =>
      obtain ⟨x, ex, ix⟩ := r.get e
      rw [ex]; exact .cons ix ih
section
variable {X : Cx} {e : Expr} {p2 pos : Pos} {lo hi : Option Expr} {se : Expr}
noncomputable def rSlS (K : PySem.W.Frag) : V → Option Int → Option Int → Option Int → Hp → VK → Prop := fun x lo hi st H Q => ∃ a xs, x = .ref a ∧ SqL K H a xs ∧ st ≠ some 0 ∧ ∀ p, H p = none → Q (.ref p) (upd H p (.lst (pickL xs (stepIx xs.length lo hi st))))
theorem pe_sliceS {te : TE} {tl th tk : TO} (he : PE X e te) (hl : PO X lo tl) (hu : PO X hi th) (hk : PO X (some se) tk) :
    PE X (.Subscript e (.Slice lo hi (some se) p2) pos) (fun σ H Q => te σ H fun x H1 => tl σ H1 fun l H2 => th σ H2 fun u H3 => tk σ H3 fun k H4 => rSlS X.K x l u k H4 Q) := by
  intro pins s σ H Q I h
  refine Subscript_ (thn (he pins s σ H _ I h) fun v s1 ⟨x, H1, I1, r1, q1⟩ => ?_)
  refine wpAny_Slice (thn (hl pins s1 σ H1 _ I1 q1) fun vl s2 ⟨l, H2, I2, pl, q2⟩ => thn (hu pins s2 σ H2 _ I2 q2) fun vu s3 ⟨u, H3, I3, pu, q3⟩ => thn (hk pins s3 σ H3 _ I3 q3) fun vk s4 ⟨k, H4, I4, pk, q4⟩ => ?_)
  obtain ⟨a, xs, rfl, hx, h0, q⟩ := q4
  cases r1
  have I5 : Inv X pins σ H4 { s4 with heap := s4.heap.push { cls := .type "slice", data := .fields #[vl, vu, vk] } } := I4.kept (t' := s4.toks) fun b ob q => Heap.get?_push_of_some _ q
  obtain ⟨its, r, ht, hz⟩ := I5.list hx
  have hlen := r.length
  have e1 : slicePick its.toArray l u k = (pickL its (stepIx xs.length l u k)).toArray := by
    unfold slicePick pickL stepIx
    rw [List.size_toArray, hlen]
    simp
  have hg : wpAny (model X.prog X.w) X.A (getItem (.ref a) (.ref s4.heap.objs.size)) (EP X pins σ Q) X.xe { s4 with heap := s4.heap.push { cls := .type "slice", data := .fields #[vl, vu, vk] } } := by
    refine wpAny_getItem_list_slice ht.isList (Heap.IsSliceOf.new ..) pl pu pk h0 ?_ (by rw [List.size_toArray] <;> omega)
    rw [e1]
    refine ⟨.ref _, _, I5.laid (t' := s4.toks) (o := .lst (pickL xs (stepIx xs.length l u k))) (fun b ob q => Heap.get?_push_of_some _ q) (Nat.le_refl _) ?_, rfl, q _ (I5.hok.fresh (Nat.le_refl _))⟩
    have hle := step_le xs.length l u k its.toArray (by rw [List.size_toArray, hlen])
    have hv := pick_vals r (stepIx xs.length l u k)
    exact ⟨by rw [hv.length]; exact Nat.le_trans hle hz, _, 0, hv, Heap.get?_push_size _ rfl⟩
  show wpAny (model X.prog X.w) X.A (subscriptTail e (.Slice lo hi (some se) p2) (.ref a) (.ref s4.heap.objs.size)) (EP X pins σ Q) X.xe { s4 with heap := s4.heap.push { cls := .type "slice", data := .fields #[vl, vu, vk] } }
  exact tail_any (ops := [.ref a, .ref s4.heap.objs.size]) ht.isList.typeIs slot_list_getitem.lookup hg (by with_unfolding_all rfl)
noncomputable def slSD : D → Option Int → Option Int → Option Int → DH → KD → Prop
  | .ref l, lo, hi, st, M, Q => ∃ xs, LstAt M l xs ∧ st ≠ some 0 ∧ ∀ p, M p = none → Q (.ref p) (updM M p (.lst (pickL xs (stepIx xs.length lo hi st))))
  | .rol xs, lo, hi, st, M, Q => st ≠ some 0 ∧ ∀ p, M p = none → Q (.ref p) (updM M p (.lst (pickL xs (stepIx xs.length lo hi st))))
  | _, _, _, _, _, _ => False
noncomputable def eSlS (te : TEd) (tl th tk : TOd) : TEd := fun τ M Q => te τ M fun x M1 => tl τ M1 fun l M2 => th τ M2 fun u M3 => tk τ M3 fun k M4 => slSD x l u k M4 Q
theorem d_slS {te : TEd} {tl th tk : TOd} (he : PE X e (low X.K te)) (hl : PO X lo (lowO X.K tl)) (hu : PO X hi (lowO X.K th)) (hk : PO X (some se) (lowO X.K tk)) : PE X (.Subscript e (.Slice lo hi (some se) p2) pos) (low X.K (eSlS te tl th tk)) :=
  (pe_sliceS he hl hu hk).imp fun σ H Q ⟨τ, M, Q', hs, hm, h, hq⟩ =>
    ⟨τ, M, _, hs, hm, h, fun x M1 v H1 m1 e1 i1 h1 => ⟨τ, M1, _, hs.mono e1, m1, h1, fun l M2 H2 m2 e2 h2 => ⟨τ, M2, _, hs.mono (e1.trans e2), m2, h2, fun u M3 H3 m3 e3 h3 => ⟨τ, M3, _, hs.mono (e1.trans (e2.trans e3)), m3, h3, fun k M4 H4 m4 e4 h4 => by
      have e14 := e1.trans (e2.trans (e3.trans e4))
      have i4 := i1.mono (e2.trans (e3.trans e4))
      cases i4 with
      | ref a =>
        obtain ⟨xs, hl, h0, q⟩ := h4
        obtain ⟨ys, hy, iy⟩ := m4.lst hl
        refine ⟨a, ys, rfl, hy, h0, fun p hp => ?_⟩
        have q := q p (m4.free hp)
        rw [← iy.length] at q
        exact hq _ _ _ _ (m4.newL hp (pick_iss iy _)) (e14.trans (ext_new hp)) (.ref p) q
      | rol hr hys =>
        obtain ⟨h0, q⟩ := h4
        refine ⟨_, _, rfl, hr.sq, h0, fun p hp => ?_⟩
        have q := q p (m4.free hp)
        rw [← hys.length] at q
        exact hq _ _ _ _ (m4.newL hp (pick_iss hys _)) (e14.trans (ext_new hp)) (.ref p) q
      | _ => exact h4.elim⟩⟩⟩⟩
end
end DL

/-! dict(d); != of two dicts that hold the same. -/
namespace DL
open PySem PySem.Spec PyProof.Rows L2
section
variable {X : Cx} {k : Nat}
end
end DL

/-! Dicts whose keys are tuples of ints and texts. -/
namespace DL
open PySem PySem.Spec PyProof.Rows L2
section
variable {K : PySem.W.Frag} {M : DH} {H H' : Hp} {kvs : List (List Key × D)} {xs : List (List Key × Addr × Value)} {k : List Key}
end
section
variable {X : Cx} {pins : List (Addr × Obj)} {σ : St} {H : Hp} {s : Shared} {a b : Addr} {k : List Key} {kvs : List (List Key × D)} {xs : List (List Key × Addr × Value)}
end
section
variable {X : Cx} {a b o : Expr} {pos : Pos} {ta tb : TEd} {n : Nat}
end
end DL

/-! Comprehensions over a dict; == and != of lists of dicts that hold the same. -/
namespace DL
open PySem PySem.Spec PyProof.Rows L2
section
variable {X : Cx} {tg elt iter : Expr} {ifs : List Expr} {scope : Scope} {pos : Pos} {js : List (Option Nat)} {Nc : List Str} {cl : List (Str × Addr)}
theorem pe_compK {tl : TE} {g : TG} {tt : TT} {te : TE} (O : CompOk X Nc js scope cl) (hc : X.calm = true) (hl : PE X iter tl) (hg : ∀ C s H fp, PG (compCx X Nc scope cl C s H fp) tg g) (hif : ∀ C s H fp, PIfs (compCx X Nc scope cl C s H fp) ifs tt) (he : ∀ C s H fp, PE (compCx X Nc scope cl C s H fp) elt te)
    (hs : ∀ x, foldedSetIterable iter X.env x = pure x := by intro _; rfl) : PE X (.ListComp elt [⟨tg, iter, ifs, 0⟩] scope pos) (fun σ H Q => tComp (iDict X tl) g tt te js σ H fun v H => ∃ d o kx, H d = some (.frz o (.dK kx)) ∧ (∀ o x, X.H₀ d ≠ some (.frz o x)) ∧ Q v (upd H d (.dK kx))) := by
  intro pins s σ H Q I h
  refine thn (pe_comp O hc (pi_dict hl) hg hif he hs pins s σ H _ I h) fun v s1 q => ?_
  obtain ⟨x, H1, I1, r, d, o, kx, hd, nf, q⟩ := q
  exact ⟨x, _, inv_thaw I1 hd nf, r, q⟩
noncomputable def compKD (g : TGd) (tt : TTd) (te : TEd) (js : List (Option Nat)) (τ : DSt) : D → DH → KD → Prop
  | .ref l, M, Q => ∃ kvs, M l = some (.dic kvs) ∧ compD (kvs.map fun kv => keyD kv.1) g tt te js τ (updM M l (.fdc kvs)) fun d M' => M' l = some (.fdc kvs) ∧ Q d (updM M' l (.dic kvs))
  | _, _, _ => False
noncomputable def eCompK (ti : TEd) (g : TGd) (tt : TTd) (te : TEd) (js : List (Option Nat)) : TEd := fun τ M Q => ti τ M fun x M1 => compKD g tt te js τ x M1 Q
theorem gives_k {K : PySem.W.Frag} {H1 H : Hp} {l : Addr} {o : Obj} {kx : List (Key × V)} {kvs : List (Key × D)} (hp : PKD K H1 kx kvs) (hz : H l = some (.frz o (.dK kx))) : Gives K (Itk l o kx) (kvs.map fun kv => keyD kv.1) H :=
  ⟨fun j hj => ⟨hz, by rw [List.length_map] at hj; rw [pkd_length hp]; exact hj⟩, fun j x H' hj ⟨e, k, v, ek, ex⟩ => by
    rw [List.length_map] at hj
    obtain ⟨q, hq⟩ : ∃ q, kvs[j]? = some q := ⟨_, List.getElem?_eq_getElem hj⟩
    have ekk : q.1 = k := by
      have h1 : (kx.map (·.1))[j]? = (kvs.map (·.1))[j]? := by rw [pkd_keys hp]
      rw [List.getElem?_map, List.getElem?_map, ek, hq] at h1
      exact (Option.some.inj h1).symm
    subst ekk
    refine ⟨e, keyD q.1, by rw [List.getElem?_map, hq]; rfl, ?_⟩
    rw [ex]
    cases q.1 with
    | inl n => exact .int n
    | inr z => exact .str z, ⟨hz, by rw [List.length_map, pkd_length hp]⟩⟩
theorem d_compK {ti ted : TEd} {gd : TGd} {ttd : TTd} (O : CompOk X Nc js scope cl) (hc : X.calm = true) (hi : PE X iter (low X.K ti)) (hg : ∀ C s H fp, PG (compCx X Nc scope cl C s H fp) tg (lowG X.K gd)) (hif : ∀ C s H fp, DIfs (compCx X Nc scope cl C s H fp) ifs ttd) (he : ∀ C s H fp, PE (compCx X Nc scope cl C s H fp) elt (low X.K ted))
    (hs : ∀ x, foldedSetIterable iter X.env x = pure x := by intro _; rfl) : PE X (.ListComp elt [⟨tg, iter, ifs, 0⟩] scope pos) (low X.K (eCompK ti gd ttd ted js)) := by
  intro pins s0 σ0 H0 Q0 I0 hw
  obtain ⟨ttv, hif', htt⟩ : ∃ ttv : TT, (∀ C s H fp, PIfs (compCx X Nc scope cl C s H fp) ifs ttv) ∧ ∀ σ H R, lowT X.K ttd σ H R → ttv σ H R := by
    rcases hif 0 s0 H0 [] with ⟨e1, e2⟩ | ⟨c, e1, _⟩
    · subst e1 e2
      exact ⟨_, fun _ _ _ _ => .inl ⟨rfl, rfl⟩, fun σ H R ⟨τ, M, Q', _, hm, h, hq⟩ => hq true M H hm (Ext.refl H) h⟩
    · subst e1
      refine ⟨lowT X.K ttd, fun C s H fp => ?_, fun σ H R h => h⟩
      rcases hif C s H fp with ⟨e1, _⟩ | ⟨c', e1, h⟩
      · cases e1
      · cases e1
        exact .inr ⟨c, rfl, h⟩
  refine ((pe_compK O hc hi hg hif' he hs).imp (t' := low X.K (eCompK ti gd ttd ted js)) fun σ H Q ⟨τ, M, Q', hs, hm, h, hq⟩ => ⟨τ, M, _, hs, hm, h, fun x M1 v H1 m1 e1 i1 h1 => ?_⟩) pins s0 σ0 H0 Q0 I0 hw
  cases i1 with
  | ref l =>
    obtain ⟨kvs, hl, w⟩ := h1
    obtain ⟨kx, hx, hp⟩ := m1 l _ hl
    refine ⟨l, kx, rfl, hx, fun o nf => ?_⟩
    refine low_comp (H := upd H1 l (.frz o (.dK kx))) (Q := fun v H => ∃ d o kx, H d = some (.frz o (.dK kx)) ∧ (∀ o x, X.H₀ d ≠ some (.frz o x)) ∧ Q v (upd H d (.dK kx))) ((hs.mono e1).mono (ext_freeze hx)) (Ext.refl _) (m1.freeze hx hp) (fun d4 M4 v4 H4 m4 e4 i4 ⟨hf4, q4⟩ => ?_) htt (fun l2 M2 H2 m2 e2 _ _ => gives_k hp (e2.z _ _ _ upd_same)) w
    have hz4 : H4 l = some (.frz o (.dK kx)) := e4.z _ _ _ upd_same
    exact ⟨l, o, kx, hz4, nf, hq _ _ _ _ (m4.thaw hz4 hf4) (e1.trans (ext_loop hx e4)) (i4.mono0 (ext_thaw hz4)) q4⟩
  | _ => exact h1.elim
end
/-! ### dicts with int keys are alike in every world -/
section
variable {X : Cx} {k : Nat}
end
end DL

/-! Texts: join, find; max of a list, with a default; comprehensions whose test makes things of its own. -/
namespace DL
open PySem PySem.Spec PyProof.Rows L2
section
variable {X : Cx}
theorem strs_of {K : PySem.W.Frag} {H : Hp} : ∀ {vs : List V} {us : List Value} {ns : List Str}, Iss K H vs (ns.map D.str) → Vals vs us → StrsAre us ns
  | _, _, [], .nil, .nil => .nil
  | _, _, n :: ns, .cons i t, .cons r t' => by
    (first | cases i.inv | cases i)
    obtain ⟨tk, rfl⟩ := r
    exact .cons n tk (strs_of t t')
noncomputable def joinD : D → List D → DH → KD → Prop
  | .str x, [.ref l], M, Q => ∃ ys : List Str, M l = some (.lst (ys.map .str)) ∧ (ys.map (·.length)).sum + ys.length * x.length ≤ 16777216 ∧ Q (.str (Txt.join x ys)) M
  | _, _, _, _ => False
theorem md_join : MtD X "str.join" joinD := by
  intro pins s σ H vx vs v us Q I rx rs ⟨x, ds, M, Q', ix, iss, hm, q, hq⟩
  match x, ds, q, ix, iss with
  | .str a, [.ref l], q, ix, iss =>
    (first | cases ix.inv | cases ix)
    obtain ⟨vy, rfl, iy⟩ := iss1 iss
    (first | cases iy.inv | cases iy)
    obtain ⟨t, rfl⟩ := rx
    obtain ⟨u, rfl, ru⟩ := vals1 rs
    cases ru
    obtain ⟨ys, hl, hz, q⟩ := q
    obtain ⟨xs, hx, hxs⟩ := hm.lst hl
    obtain ⟨its, r1, p1, _⟩ := I.list hx
    exact join_list p1.isList (by simpa using strs_of hxs r1) hz fun t' k => ⟨.str _, H, I.tok _, ⟨_, rfl⟩, hq.here hm (.str _) q⟩
end
/-! ### max(.., default=d) -/
section
variable {prog : Program} {w : World} {A : Around} {R : Result → Shared → Prop} {I : Addr} {fp wr : List Addr} {n : Nat} {P : Nat → Value → Prop} {St : Nat → Heap → Prop} {d : Value}
end
section
variable {X : Cx}
end
/-! ### a comprehension whose test makes things of its own -/
section
variable {X : Cx} {tg elt iter : Expr} {ifs : List Expr} {scope : Scope} {pos : Pos} {js : List (Option Nat)} {Nc : List Str} {cl : List (Str × Addr)}
end
end DL

/-! Own objects: attributes, methods, making one. -/
namespace DL
open PySem PySem.Spec PyProof.Rows L2
noncomputable def putFD (f : Str) (d : D) : List (Str × D) → List (Str × D)
  | [] => [(f, d)]
  | (g, x) :: r => if g = f then (g, d) :: r else (g, x) :: putFD f d r
noncomputable abbrev PFD (K : PySem.W.Frag) (H : Hp) : List (Str × V) → List (Str × D) → Prop := Paired fun (p : Str × V) (q : Str × D) => p.1 = q.1 ∧ Is K H p.2 q.2
section
variable {K : PySem.W.Frag} {M : DH} {H H' : Hp} {fx : List (Str × V)} {fs : List (Str × D)} {f : Str} {a C dx : Addr}
theorem pfd_some (r : PFD K H fx fs) {d : D} (e : fs.lookup f = some d) : ∃ v, fx.lookup f = some v ∧ Is K H v d := by
  induction r with
  | nil => cases e
  | @cons p q ps qs h t ih =>
    obtain ⟨p1, p2⟩ := p
    obtain ⟨q1, q2⟩ := q
    have h1 : p1 = q1 := h.1
    subst h1
    by_cases z : f = p1
    · subst z
      have e' : List.lookup f ((f, q2) :: qs) = some q2 := by simp [List.lookup]
      rw [e'] at e
      cases e
      exact ⟨p2, by simp [List.lookup], h.2⟩
    · have z' : (f == p1) = false := by simpa using z
      have e1 : List.lookup f ((p1, q2) :: qs) = List.lookup f qs := by simp [List.lookup, z']
      have e2 : List.lookup f ((p1, p2) :: ps) = List.lookup f ps := by simp [List.lookup, z']
      rw [e1] at e
      rw [e2]
      exact ih e
theorem pfd_none (r : PFD K H fx fs) (e : fs.lookup f = none) : fx.lookup f = none := by
  induction r with
  | nil => rfl
  | @cons p q ps qs h t ih =>
    obtain ⟨p1, p2⟩ := p
    obtain ⟨q1, q2⟩ := q
    have h1 : p1 = q1 := h.1
    subst h1
    by_cases z : f = p1
    · subst z
      have e' : List.lookup f ((f, q2) :: qs) = some q2 := by simp [List.lookup]
      rw [e'] at e
      cases e
    · have z' : (f == p1) = false := by simpa using z
      have e1 : List.lookup f ((p1, q2) :: qs) = List.lookup f qs := by simp [List.lookup, z']
      have e2 : List.lookup f ((p1, p2) :: ps) = List.lookup f ps := by simp [List.lookup, z']
      rw [e1] at e
      rw [e2]
      exact ih e
theorem pfd_put (r : PFD K H fx fs) {v : V} {d : D} (i : Is K H v d) : PFD K H (putF f v fx) (putFD f d fs) := by
  induction r with
  | nil => exact .cons ⟨rfl, i⟩ .nil
  | @cons p q ps qs h t ih =>
    obtain ⟨p1, p2⟩ := p
    obtain ⟨q1, q2⟩ := q
    have h1 : p1 = q1 := h.1
    subst h1
    show PFD K H (if p1 = f then (p1, v) :: ps else (p1, p2) :: putF f v ps) (if p1 = f then (p1, d) :: qs else (p1, q2) :: putFD f d qs)
    by_cases z : p1 = f
    · rw [if_pos z, if_pos z]; exact .cons ⟨rfl, i⟩ t
    · rw [if_neg z, if_neg z]; exact .cons h ih
theorem pfd_mono0 (e : Ext0 K H H') (r : PFD K H fx fs) : PFD K H' fx fs := r.impP fun _ _ ⟨r1, r2⟩ => ⟨r1, r2.mono0 e⟩
theorem HAbs.setI {v : V} {d : D} (h : HAbs K M H) (hx : H a = some (.ins C dx fx)) (ho : H dx = some (.own a)) (hp : PFD K H fx fs) (i : Is K H v d) :
    HAbs K (updM M a (.ins C dx (putFD f d fs))) (upd H a (.ins C dx (putF f v fx))) ∧ Ext K H (upd H a (.ins C dx (putF f v fx))) := by
  have ex : Ext K H (upd H a (.ins C dx (putF f v fx))) := ext_upd (fun zs s => by rcases s with s | ⟨u, s⟩ <;> rw [hx] at s <;> cases s) (fun u xs s => by rw [hx] at s; cases s)
  refine ⟨fun c o q => ?_, ex⟩
  by_cases z : c = a
  · subst z; rw [updM_same] at q; cases q
    exact ⟨_, upd_same, by rw [upd_ne (ne_of ho hx (by intro k; cases k))]; exact ho, pfd_mono0 ex.e0 (pfd_put hp i)⟩
  · rw [updM_ne z] at q
    exact (h c o q).mono ex.e0 (fun v w => by rw [upd_ne z]; exact w) (fun dx w => by rw [upd_ne (ne_of w hx (by intro k; cases k))]; exact w)
theorem HAbs.made {x : Addr} (h : HAbs K M H) (nx : H x = none) (nd : H dx = none) (ne : dx ≠ x) : HAbs K (updM M x (.ins C dx [])) (upd (upd H dx (.own x)) x (.ins C dx [])) ∧ Ext K H (upd (upd H dx (.own x)) x (.ins C dx [])) := by
  have n1 : upd H dx (.own x) x = none := by rw [upd_ne (Ne.symm ne)]; exact nx
  refine ⟨(h.new nd).newM n1 (show MOk K _ x (.ins C dx []) from ⟨[], upd_same, by rw [upd_ne ne, upd_same], .nil⟩), (ext_new nd).trans (ext_new n1)⟩
end
section
variable {X : Cx} {e o value : Expr} {es : List Expr} {f m : Str} {pos pos' apos tpos : Pos} {te to tv : TEd} {t : TAd} {C : Addr} {k : Nat}
noncomputable def eFld (C : Addr) (f : Str) (to : TEd) : TEd := fun τ M Q => to τ M fun x M1 => ∃ a dx fs d, x = .ref a ∧ M1 a = some (.ins C dx fs) ∧ fs.lookup f = some d ∧ Q d M1
theorem d_fld (c : Cls X.K C) (n : NoAttr X.K C f) (he : PE X e (low X.K te)) (hb : attributeBase e f X.env (eval e X.env) = eval e X.env := by rfl) : PE X (.Attribute e f pos) (low X.K (eFld C f te)) :=
  (pe_fld he hb).imp fun σ H Q ⟨τ, M, Q', hs, hm, h, hq⟩ => ⟨τ, M, _, hs, hm, h, fun x M1 v H1 m1 e1 i1 ⟨a, dx, fs, d, ex, ha, hl, q⟩ => by
    subst ex
    (first | cases i1.inv | cases i1)
    obtain ⟨fx, h1, h2, h3⟩ := m1 a _ ha
    obtain ⟨v, hv, iv⟩ := pfd_some h3 hl
    exact ⟨a, C, dx, fx, v, rfl, h1, c, n, hv, hq _ _ _ _ m1 e1 iv q⟩⟩
noncomputable def sFldD (C : Addr) (f : Str) (to tv : TEd) : TSd := fun E τ M => tv τ M fun y M1 => to τ M1 fun x M2 => ∃ a dx fs, x = .ref a ∧ M2 a = some (.ins C dx fs) ∧ fs.length < 1000 ∧ E.nx τ (updM M2 a (.ins C dx (putFD f y fs)))
theorem s_fld (c : Cls X.K C) (n : NoAttr X.K C f) (ho : PE X o (low X.K to)) (hv : PE X value (low X.K tv)) (hs : swapsWith value (some (.Attribute o f pos')) pos.line X.env = pure false := by rfl) : PS X (.Assign [.Attribute o f pos'] value pos) (lowS X.K (sFldD C f to tv)) :=
  (ps_fld ho hv hs).imp fun D σ H ⟨τ, M, D', hs, hm, h, hd⟩ => ⟨τ, M, _, hs, hm, h, fun y M1 vy H1 m1 e1 i1 h1 => ⟨τ, M1, _, hs.mono e1, m1, h1, fun x M2 vx H2 m2 e2 i2 ⟨a, dx, fs, ex, ha, hl, q⟩ => by
    subst ex
    (first | cases i2.inv | cases i2)
    obtain ⟨fx, g1, g2, g3⟩ := m2 a _ ha
    obtain ⟨m3, e3⟩ := m2.setI (f := f) g1 g2 g3 (i1.mono e2)
    have e12 := e1.trans e2
    exact ⟨a, C, dx, fx, rfl, g1, c, n, by rw [Paired.length g3]; exact hl, hd.nx _ _ _ _ (hs.mono (e12.trans e3)) m3 (e12.trans e3) q⟩⟩⟩
/-- self.f += e, ints -/
noncomputable def sFldAugD (C : Addr) (f : Str) (to tv : TEd) : TSd := fun E τ M => to τ M fun x M1 => ∃ a dx fs i, x = .ref a ∧ M1 a = some (.ins C dx fs) ∧ fs.lookup f = some (.int i) ∧
  tv τ M1 fun y M2 => ∃ j dx' fs', y = .int j ∧ M2 a = some (.ins C dx' fs') ∧ fs'.length < 1000 ∧ E.nx τ (updM M2 a (.ins C dx' (putFD f (.int (i + j)) fs')))
theorem s_fldAug (c : Cls X.K C) (n : NoAttr X.K C f) (ho : PE X o (low X.K to)) (hv : PE X value (low X.K tv)) : PS X (.AugAssign (.Attribute o f tpos) .Add value pos) (lowS X.K (sFldAugD C f to tv)) :=
  (ps_fldaug ho hv in_add).imp fun D σ H ⟨τ, M, D', hs, hm, h, hd⟩ => ⟨τ, M, _, hs, hm, h, fun x M1 vx H1 m1 e1 i1 ⟨a, dx, fs, i, ex, ha, hl, q⟩ => by
    subst ex
    (first | cases i1.inv | cases i1)
    obtain ⟨fx, g1, g2, g3⟩ := m1 a _ ha
    obtain ⟨v, hv, iv⟩ := pfd_some g3 hl
    cases iv
    refine ⟨a, C, dx, fx, .int i, rfl, g1, c, n, hv, τ, M1, _, hs.mono e1, m1, q, fun y M2 vy H2 m2 e2 i2 ⟨j, dx', fs', ey, ha', hl', q2⟩ => ?_⟩
    subst ey
    (first | cases i2.inv | cases i2)
    obtain ⟨fx', k1, k2, k3⟩ := m2 a _ ha'
    obtain ⟨m3, e3⟩ := m2.setI (f := f) k1 k2 k3 (.int (i + j))
    have e12 := e1.trans e2
    exact ⟨i, j, rfl, rfl, dx', fx', k1, by rw [Paired.length k3]; exact hl', hd.nx _ _ _ _ (hs.mono (e12.trans e3)) m3 (e12.trans e3) q2⟩⟩
/-- a method's promise -/
structure FnM (P : Program) (w : World) (K : PySem.W.Frag) (mg : Str → Option Value) (base : Heap) (C : Addr) (k : Nat) (m : Str) (ps : List Str) (sp : SpD) : Prop where
  ex : ∃ f fd, FnOk P w K mg base CX0 k f fd ps (lowSp K sp) ∧ Meth K C m f ∧ Binds K fd ps []
theorem FnM.mono {P : Program} {w : World} {K : PySem.W.Frag} {mg : Str → Option Value} {base : Heap} {C : Addr} {j k : Nat} {m : Str} {ps : List Str} {sp : SpD} (F : FnM P w K mg base C j m ps sp) (h : j ≤ k) : FnM P w K mg base C k m ps sp :=
  let ⟨f, fd, a, b, c⟩ := F.ex; ⟨f, fd, a.mono h, b, c⟩
noncomputable def eMeth (C : Addr) (m : Str) (sp : SpD) (to : TEd) (t : TAd) : TEd := fun τ M Q => to τ M fun x M1 => ∃ a dx fs, x = .ref a ∧ M1 a = some (.ins C dx fs) ∧ fs.lookup m = none ∧ t τ M1 fun ds M2 => sp (.ref a :: ds) M2 Q
noncomputable def eMeth0 (C : Addr) (m : Str) (sp : SpD) (to : TEd) : TEd := fun τ M Q => to τ M fun x M1 => ∃ a dx fs, x = .ref a ∧ M1 a = some (.ins C dx fs) ∧ fs.lookup m = none ∧ sp [.ref a] M1 Q
theorem d_meth {ps : List Str} {sp : SpD} {pl : Sem Bool} (c : Cls X.K C) (F : FnM X.prog X.w X.K X.mg X.base C k m ps sp) (hr : Room k X.A) (ho : PE X o (low X.K to)) (ha : PA X (e :: es) (lowA X.K t))
    (hst : starEach (e :: es) X.env = (false, eval e X.env) :: starEach es X.env := by rfl) (hpl : (backTo pos (starEach es X.env)).any (·.1) = false := by rfl)
    (ht : eval (.Call (.Attribute o m apos) (e :: es) [] pos) X.env = (do
      let ov ← eval o X.env
      standAt apos.atName
      let (f, first) ← holding [ov] (getMethod ov m pl)
      callWith pos f first (backTo pos (starEach (e :: es) X.env)) (backToKw pos (keywordEach [] X.env))) := by rfl) :
    PE X (.Call (.Attribute o m apos) (e :: es) [] pos) (low X.K (eMeth C m sp to t)) := by
  obtain ⟨f, fd, F, hm, hb⟩ := F.ex
  refine (pe_meth (E := E0) (pl := pl) ho c hm F hr hb .nil pass0 ha hst hpl ht).imp fun σ H Q ⟨τ, M, Q', hs, hm, h, hq⟩ => ?_
  refine ⟨τ, M, _, hs, hm, h, fun x M1 v H1 m1 e1 i1 ⟨a, dx, fs, ex, hx, hl, q⟩ => ?_⟩
  subst ex
  (first | cases i1.inv | cases i1)
  obtain ⟨fx, h1, h2, h3⟩ := m1 a _ hx
  refine ⟨a, dx, fx, rfl, h1, pfd_none h3 hl, τ, M1, _, hs.mono e1, m1, q, fun ds M2 vs H2 m2 e2 i2 h4 => ?_⟩
  show lowSp X.K sp (.ref a :: (vs ++ [])) H2 Q E0
  rw [List.append_nil]
  exact ⟨.ref a :: ds, M2, Q', .cons (.ref a) i2, m2, h4, hq.ext (e1.trans e2)⟩
theorem d_meth0 {ps : List Str} {sp : SpD} {pl : Sem Bool} (c : Cls X.K C) (F : FnM X.prog X.w X.K X.mg X.base C k m ps sp) (hr : Room k X.A) (ho : PE X o (low X.K to))
    (ht : eval (.Call (.Attribute o m apos) [] [] pos) X.env = (do
      let ov ← eval o X.env
      standAt apos.atName
      let (f, first) ← holding [ov] (getMethod ov m pl)
      callWith pos f first (backTo pos (starEach [] X.env)) (backToKw pos (keywordEach [] X.env))) := by rfl) :
    PE X (.Call (.Attribute o m apos) [] [] pos) (low X.K (eMeth0 C m sp to)) := by
  obtain ⟨f, fd, F, hm, hb⟩ := F.ex
  refine (pe_meth0 (E := E0) (pl := pl) ho c hm F hr hb .nil pass0 ht).imp fun σ H Q ⟨τ, M, Q', hs, hm, h, hq⟩ => ?_
  refine ⟨τ, M, _, hs, hm, h, fun x M1 v H1 m1 e1 i1 ⟨a, dx, fs, ex, hx, hl, q⟩ => ?_⟩
  subst ex
  (first | cases i1.inv | cases i1)
  obtain ⟨fx, h1, h2, h3⟩ := m1 a _ hx
  refine ⟨a, dx, fx, rfl, h1, pfd_none h3 hl, ?_⟩
  exact ⟨[.ref a], M1, Q', .cons (.ref a) .nil, m1, q, hq.ext e1⟩
/-- __init__'s promise -/
structure FnI (P : Program) (w : World) (K : PySem.W.Frag) (mg : Str → Option Value) (base : Heap) (C : Addr) (k : Nat) (ps : List Str) (sp : SpD) : Prop where
  ex : ∃ f fd, FnOk P w K mg base CX0 k f fd ps (lowSp K sp) ∧ Mk K C f ∧ Binds K fd ps []
noncomputable def eMake (C : Addr) (sp : SpD) (t : TAd) : TEd := fun τ M Q => t τ M fun ds M1 => ∀ x dx, M1 x = none → sp (.ref x :: ds) (updM M1 x (.ins C dx [])) fun d M2 => d = .non ∧ Q (.ref x) M2
theorem d_make {ps : List Str} {sp : SpD} {x : Str} {p : Pos} (F : FnI X.prog X.w X.K X.mg X.base C k ps sp) (hr : Room (k + 1) X.A) (hm : X.mg x = some (.ref C)) (ha : PA X (e :: es) (lowA X.K t)) (hg : Gl X x := by rfl)
    (hdb : (x == ("__debug__" : Str)) = false := by decide) (he : starEach (e :: es) X.env = (false, eval e X.env) :: starEach es X.env := by rfl) (hpl : (backTo pos (starEach es X.env)).any (·.1) = false := by rfl) :
    PE X (.Call (.Name x p) (e :: es) [] pos) (low X.K (eMake C sp t)) := by
  obtain ⟨f, fd, F, hM, hb⟩ := F.ex
  refine (pe_make (E := E0) hM F hr hg hm hb .nil pass0 ha hdb he hpl).imp fun σ H Q ⟨τ, M, Q', hs, hm, h, hq⟩ => ?_
  refine ⟨τ, M, _, hs, hm, h, fun ds M1 vs H1 m1 e1 i1 h1 y dy ny nd ne => ?_⟩
  obtain ⟨m2, e2⟩ := m1.made (C := C) ny nd ne
  show lowSp X.K sp (.ref y :: (vs ++ [])) _ _ E0
  rw [List.append_nil]
  refine ⟨.ref y :: ds, _, _, .cons (.ref y) (i1.mono e2), m2, h1 y dy (m1.free ny), fun d M3 v H3 m3 e3 i3 ⟨ed, q⟩ => ?_⟩
  subst ed
  (first | cases i3.inv | cases i3)
  exact ⟨rfl, hq _ _ _ _ m3 (e1.trans (e2.trans e3)) (.ref y) q⟩
end
/-! ### methods of the text -/
noncomputable def StandsM (K : PySem.W.Frag) (C : Addr) (m qual : Str) (st : Stmt) (ps : List Str) : Prop := ∃ f fd, Fun K m qual st f fd ∧ Binds K fd ps [] ∧ Meth K C m f
noncomputable def StandsI (K : PySem.W.Frag) (C : Addr) (qual : Str) (st : Stmt) (ps : List Str) : Prop := ∃ f fd, Fun K "__init__" qual st f fd ∧ Binds K fd ps [] ∧ Mk K C f
section
variable {P : Program} {w : World} {K : PySem.W.Frag} {mg : Str → Option Value} {base : Heap}
theorem fnM_none {C : Addr} {m qual : Str} {ps : List Str} {sp : SpD} {st : Stmt} (T : StandsM K C m qual st ps) (no : ∀ ds M Q, ¬ sp ds M Q) : FnM P w K mg base C 0 m ps sp := by
  obtain ⟨f, fd, F, hb, hm⟩ := T
  have no' : ∀ vs H Q E, ¬ lowSp K sp vs H Q E := fun vs H Q E ⟨ds, M, Q', _, _, h, _⟩ => no ds M Q' h
  exact ⟨f, fd, ⟨fun vs H Q E h => absurd h (no' vs H Q E), fun A outer s H args us vs Q E _ _ _ _ h => absurd h (no' vs H Q E)⟩, hm, hb⟩
theorem def_okM {C : Addr} {m qual : Str} {st : Stmt} {N ps : List Str} {k : Nat} {sp : SpD} (T : StandsM K C m qual st ps) (S : FnScope N ps (defScope st)) (len : ∀ ds M Q, sp ds M Q → ds.length = ps.length)
    (hbody : ∀ (f : Addr) (cdv : Value) (A : Around) (outer : List Env) (s : Shared) (H : Hp) (E : XK), Room k (A.deeper (envOfC qual (defScope st) s.heap.objs.size f cdv)) →
      ∃ t : TSd, PSs (cxOf CX0 P w K mg base N qual (defScope st) f cdv A outer s H E).nox (defBody st) (lowS K t) ∧ ∀ ds M Q, sp ds M Q → t (endsOf Q) (startD N ds) M) : FnM P w K mg base C (k + 1) m ps sp := by
  obtain ⟨f, fd, F, hb, hm⟩ := T
  exact ⟨f, fd, def_fn F S len (hbody f), hm, hb⟩
theorem def_okI {C : Addr} {qual : Str} {st : Stmt} {N ps : List Str} {k : Nat} {sp : SpD} (T : StandsI K C qual st ps) (S : FnScope N ps (defScope st)) (len : ∀ ds M Q, sp ds M Q → ds.length = ps.length)
    (hbody : ∀ (f : Addr) (cdv : Value) (A : Around) (outer : List Env) (s : Shared) (H : Hp) (E : XK), Room k (A.deeper (envOfC qual (defScope st) s.heap.objs.size f cdv)) →
      ∃ t : TSd, PSs (cxOf CX0 P w K mg base N qual (defScope st) f cdv A outer s H E).nox (defBody st) (lowS K t) ∧ ∀ ds M Q, sp ds M Q → t (endsOf Q) (startD N ds) M) : FnI P w K mg base C (k + 1) ps sp := by
  obtain ⟨f, fd, F, hb, hm⟩ := T
  exact ⟨f, fd, def_fn F S len (hbody f), hm, hb⟩
end
end DL

/-! Texts: str(n), int(text), startswith, slices by signs. -/
namespace DL
open PySem PySem.Spec PyProof.Rows L2
section
variable {X : Cx}
noncomputable def numT (n : Int) : Str := Str.ofString (toString n)
noncomputable def strD : List D → DH → KD → Prop
  | [.int n], M, Q => (0 ≤ n ∧ n < 10 ^ 10) ∧ Q (.str (numT n)) M
  | _, _, _ => False
theorem cd_str : CallD X (.type "str") strD := by
  intro pins s σ H vs us Q I r ⟨ds, M, Q', iss, hm, q, hq⟩
  match ds, q, iss with
  | [.int n], q, iss =>
    obtain ⟨v, rfl, i⟩ := iss1 iss
    (first | cases i.inv | cases i)
    obtain ⟨u, rfl, t, rfl⟩ := vals1 r
    obtain ⟨⟨q0, q1⟩, q⟩ := q
    refine str_of_int_fit (N := 10 ^ 10) (by rw [if_neg (by omega)]; exact q1) (by decide) fun _ => ?_
    exact ⟨.str _, H, I.tok _, ⟨_, rfl⟩, hq.here hm (.str _) q⟩
noncomputable def intTD : List D → DH → KD → Prop
  | [.str z], M, Q => ∃ n : Int, z = numT n ∧ (0 ≤ n ∧ n < 10 ^ 10) ∧ Q (.int n) M
  | _, _, _ => False
theorem cd_intT : CallD X (.type "int") intTD := by
  intro pins s σ H vs us Q I r ⟨ds, M, Q', iss, hm, q, hq⟩
  match ds, q, iss with
  | [.str z], q, iss =>
    obtain ⟨v, rfl, i⟩ := iss1 iss
    (first | cases i.inv | cases i)
    obtain ⟨u, rfl, t, rfl⟩ := vals1 r
    obtain ⟨n, rfl, hn, q⟩ := q
    exact PySem.W.KIN.call_num hn.1 hn.2 ⟨.int n, H, I.tok _, ⟨_, rfl⟩, hq.here hm (.int _) q⟩
noncomputable def startsD : D → List D → DH → KD → Prop
  | .str a, [.str b], M, Q => Q (.bl (decide (0 + b.length ≤ a.length) && Builtin.Str.subAt a b 0)) M
  | _, _, _, _ => False
theorem md_startswith : MtD X "str.startswith" startsD := by
  intro pins s σ H vx vs v us Q I rx rs ⟨x, ds, M, Q', ix, iss, hm, q, hq⟩
  match x, ds, q, ix, iss with
  | .str a, [.str b], q, ix, iss =>
    (first | cases ix.inv | cases ix)
    obtain ⟨vy, rfl, iy⟩ := iss1 iss
    (first | cases iy.inv | cases iy)
    obtain ⟨t, rfl⟩ := rx
    obtain ⟨u, rfl, ru⟩ := vals1 rs
    obtain ⟨t', rfl⟩ := ru
    exact call_gives PySem.F.slot_str_startswith (typeIs_str _ _ _) PySem.F.entry_str_startswith (PySem.F.args_str_startswith_2 _ _) (gives_str_startswith a b t t') ⟨.bl _, H, I, rfl, hq.here hm (.bl _) q⟩
end
/-! ### by signs -/
noncomputable def tx (cs : List Nat) : Str := ⟨cs.toArray⟩
theorem tx_cps (cs : List Nat) : (tx cs).cps.toList = cs := rfl
theorem tx_len (cs : List Nat) : (tx cs).length = cs.length := by show cs.toArray.size = _; simp
theorem tx_eta (z : Str) : tx z.cps.toList = z := by cases z; simp [tx]
theorem tx_inj {a b : List Nat} (h : tx a = tx b) : a = b := by rw [← tx_cps a, h, tx_cps]
theorem slice_tx (cs : List Nat) {a b : Nat} (hab : a ≤ b) (hb : b ≤ cs.length) : Txt.slice (tx cs) (some (a : Int)) (some (b : Int)) = tx ((cs.drop a).take (b - a)) := by
  have hb' : b ≤ (tx cs).length := by rw [tx_len]; exact hb
  have e := PySem.StrLaws.sliced_plain (tx cs) hab hb'
  rw [tx_cps] at e
  unfold Txt.slice
  rw [e]
  split
  · rename_i h
    have h1 : (Builtin.Str.strSliceIndices (some (a : Int)) (some (b : Int)) 1 (tx cs).length).length = (tx cs).length := by simpa using h
    rw [PySem.StrLaws.strSliceIndices_plain hab hb', tx_len] at h1
    have h2 : b - a = cs.length := by simpa using h1
    have h3 : a = 0 := by omega
    subst h3
    rw [List.drop_zero, List.take_of_length_le (by omega)]
  · rfl
theorem slice_end (cs : List Nat) : Txt.slice (tx cs) (some (cs.length : Int)) (some ((cs.length : Int) + 1)) = tx [] := by
  have e : Builtin.Str.strSliceIndices (some (cs.length : Int)) (some ((cs.length : Int) + 1)) 1 (tx cs).length = [] := by
    rw [tx_len]
    have h1 : ¬ ((cs.length : Int) < 0) := by omega
    have h2 : ¬ ((cs.length : Int) + 1 < 0) := by omega
    have h3 : max (0 : Int) (min (cs.length : Int) (cs.length : Int)) = (cs.length : Int) := by omega
    have h4 : max (0 : Int) (min ((cs.length : Int) + 1) (cs.length : Int)) = (cs.length : Int) := by omega
    simp only [Builtin.Str.strSliceIndices, sliceRange, h1, h2, if_false, show (1 : Int) > 0 by decide, if_true, h3, h4, Int.lt_irrefl]
    rfl
  unfold Txt.slice
  rw [e]
  split
  · rename_i h
    have h1 : 0 = (tx cs).length := by simpa using h
    rw [tx_len] at h1
    have : cs = [] := List.length_eq_zero_iff.mp h1.symm
    rw [this]
  · rfl
end DL

/-! Methods that may raise; a text taken up to a thousand times. -/
namespace DL
open PySem PySem.Spec PyProof.Rows L2
section
variable {P : Program} {w : World} {K : PySem.W.Frag} {mg : Str → Option Value} {base : Heap}
end
section
variable {X : Cx} {e o : Expr} {es : List Expr} {m : Str} {pos apos : Pos} {to : TEd} {t : TAd} {C : Addr} {k : Nat} {EX : DSt → Value → DH → Prop}
end
section
variable {X : Cx}
end
end DL

namespace Law
open PySem PySem.Spec PyProof.Rows L2 DL

noncomputable def top (i : Nat) : Stmt := PySem.Challenge.pw_commonform_k20_whole_filled_by_both.main.body.getD i (.Pass ⟨0, 0, 0, 0⟩)
noncomputable abbrev s_is_letter : Stmt := top 8
theorem sc_is_letter : FnScope ["sign"] ["sign"] (defScope s_is_letter) := ⟨rfl, rfl, rfl, by decide +kernel, rfl, by decide +kernel, by decide +kernel⟩
noncomputable abbrev s_is_figure : Stmt := top 9
theorem sc_is_figure : FnScope ["sign"] ["sign"] (defScope s_is_figure) := ⟨rfl, rfl, rfl, by decide +kernel, rfl, by decide +kernel, by decide +kernel⟩
noncomputable abbrev s_is_name : Stmt := top 10
theorem sc_is_name : FnScope ["text"] ["text"] (defScope s_is_name) := ⟨rfl, rfl, rfl, by decide +kernel, rfl, by decide +kernel, by decide +kernel⟩
noncomputable abbrev s_parts_of : Stmt := top 11
theorem sc_parts_of : FnScope ["tree"] ["tree"] (defScope s_parts_of) := ⟨rfl, rfl, rfl, by decide +kernel, rfl, by decide +kernel, by decide +kernel⟩
noncomputable abbrev s_knots_of : Stmt := top 12
theorem sc_knots_of : FnScope ["tree", "knots", "part"] ["tree"] (defScope s_knots_of) := ⟨rfl, rfl, rfl, by decide +kernel, rfl, by decide +kernel, by decide +kernel⟩
noncomputable abbrev s_depth_of : Stmt := top 13
theorem sc_depth_of : FnScope ["tree", "deepest", "part"] ["tree"] (defScope s_depth_of) := ⟨rfl, rfl, rfl, by decide +kernel, rfl, by decide +kernel, by decide +kernel⟩
noncomputable abbrev s_exchanged : Stmt := top 17
theorem sc_exchanged : FnScope ["tree", "filling", "parts", "part"] ["tree", "filling"] (defScope s_exchanged) := ⟨rfl, rfl, rfl, by decide +kernel, rfl, by decide +kernel, by decide +kernel⟩
noncomputable abbrev s_refuse_too_great : Stmt := top 18
theorem sc_refuse_too_great : FnScope ["tree"] ["tree"] (defScope s_refuse_too_great) := ⟨rfl, rfl, rfl, by decide +kernel, rfl, by decide +kernel, by decide +kernel⟩
noncomputable abbrev s_filled : Stmt := top 19
theorem sc_filled : FnScope ["tree", "filling", "whole"] ["tree", "filling"] (defScope s_filled) := ⟨rfl, rfl, rfl, by decide +kernel, rfl, by decide +kernel, by decide +kernel⟩
noncomputable abbrev s_one_behind : Stmt := top 20
theorem sc_one_behind : FnScope ["one", "other", "both", "number"] ["one", "other"] (defScope s_one_behind) := ⟨rfl, rfl, rfl, by decide +kernel, rfl, by decide +kernel, by decide +kernel⟩
noncomputable abbrev s_written : Stmt := top 25
theorem sc_written : FnScope ["tree", "texts", "part"] ["tree"] (defScope s_written) := ⟨rfl, rfl, rfl, by decide +kernel, rfl, by decide +kernel, by decide +kernel⟩
noncomputable abbrev s_blank_number : Stmt := top 26
theorem sc_blank_number : FnScope ["figures"] ["figures"] (defScope s_blank_number) := ⟨rfl, rfl, rfl, by decide +kernel, rfl, by decide +kernel, by decide +kernel⟩
noncomputable abbrev s_read : Stmt := top 28
theorem sc_read : FnScope ["text", "reader", "tree"] ["text"] (defScope s_read) := ⟨rfl, rfl, rfl, by decide +kernel, rfl, by decide +kernel, by decide +kernel⟩
noncomputable abbrev s__law_cell_at : Stmt := top 30
theorem sc__law_cell_at : FnScope ["script", "k"] ["script", "k"] (defScope s__law_cell_at) := ⟨rfl, rfl, rfl, by decide +kernel, rfl, by decide +kernel, by decide +kernel⟩
noncomputable abbrev s__law_draw : Stmt := top 31
theorem sc__law_draw : FnScope ["cell", "k", "many", "number"] ["cell", "k", "many"] (defScope s__law_draw) := ⟨rfl, rfl, rfl, by decide +kernel, rfl, by decide +kernel, by decide +kernel⟩
noncomputable abbrev s__law_alike : Stmt := top 32
theorem sc__law_alike : FnScope ["found", "due", "k"] ["found", "due"] (defScope s__law_alike) := ⟨rfl, rfl, rfl, by decide +kernel, rfl, by decide +kernel, by decide +kernel⟩
noncomputable abbrev s__law_names : Stmt := top 33
theorem sc__law_names : FnScope ["cell", "some", "size", "at", "names", "j", "many", "here", "step", "k", "sign"] ["cell"] (defScope s__law_names) := ⟨rfl, rfl, rfl, by decide +kernel, rfl, by decide +kernel, by decide +kernel⟩
noncomputable abbrev s__law_leaf : Stmt := top 34
theorem sc__law_leaf : FnScope ["cell", "first", "names", "shares", "numbers"] ["cell", "first", "names", "shares"] (defScope s__law_leaf) := ⟨rfl, rfl, rfl, by decide +kernel, rfl, by decide +kernel, by decide +kernel⟩
noncomputable abbrev s__law_tree : Stmt := top 35
theorem sc__law_tree : FnScope ["cells", "first", "shares", "names", "frames", "cell", "way", "top", "parts", "whole", "time"] ["cells", "first", "shares"] (defScope s__law_tree) := ⟨rfl, rfl, rfl, by decide +kernel, rfl, by decide +kernel, by decide +kernel⟩
noncomputable abbrev s__law_places : Stmt := top 36
theorem sc__law_places : FnScope ["tree", "found", "waiting", "place", "here", "k"] ["tree"] (defScope s__law_places) := ⟨rfl, rfl, rfl, by decide +kernel, rfl, by decide +kernel, by decide +kernel⟩
noncomputable abbrev s__law_filling : Stmt := top 37
theorem sc__law_filling : FnScope ["cells", "first", "way", "numbers", "filling", "k"] ["cells", "first", "way"] (defScope s__law_filling) := ⟨rfl, rfl, rfl, by decide +kernel, rfl, by decide +kernel, by decide +kernel⟩
noncomputable abbrev s__law_small : Stmt := top 38
theorem sc__law_small : FnScope ["cells", "first", "way", "kind"] ["cells", "first", "way"] (defScope s__law_small) := ⟨rfl, rfl, rfl, by decide +kernel, rfl, by decide +kernel, by decide +kernel⟩
noncomputable abbrev s__law_exchanged : Stmt := top 39
theorem sc__law_exchanged : FnScope ["tree", "filling"] ["tree", "filling"] (defScope s__law_exchanged) := ⟨rfl, rfl, rfl, by decide +kernel, rfl, by decide +kernel, by decide +kernel⟩
noncomputable abbrev s__law_too_great : Stmt := top 40
theorem sc__law_too_great : FnScope ["tree", "filling", "sizes", "number", "places", "many", "deep", "place", "here", "size"] ["tree", "filling"] (defScope s__law_too_great) := ⟨rfl, rfl, rfl, by decide +kernel, rfl, by decide +kernel, by decide +kernel⟩
noncomputable abbrev s_law : Stmt := top 41
theorem sc_law : FnScope ["script", "first", "tree", "one", "other", "middle", "due", "found", "both", "places"] ["script"] (defScope s_law) := ⟨rfl, rfl, rfl, by decide +kernel, rfl, by decide +kernel, by decide +kernel⟩
noncomputable abbrev s_Reader___init__ : Stmt := inClass (top 27) 0
theorem sc_Reader___init__ : FnScope ["self", "text"] ["self", "text"] (defScope s_Reader___init__) := ⟨rfl, rfl, rfl, by decide +kernel, rfl, by decide +kernel, by decide +kernel⟩
noncomputable abbrev s_Reader_sign_here : Stmt := inClass (top 27) 1
theorem sc_Reader_sign_here : FnScope ["self"] ["self"] (defScope s_Reader_sign_here) := ⟨rfl, rfl, rfl, by decide +kernel, rfl, by decide +kernel, by decide +kernel⟩
noncomputable abbrev s_Reader_begin_knot : Stmt := inClass (top 27) 2
theorem sc_Reader_begin_knot : FnScope ["self", "depth"] ["self", "depth"] (defScope s_Reader_begin_knot) := ⟨rfl, rfl, rfl, by decide +kernel, rfl, by decide +kernel, by decide +kernel⟩
noncomputable abbrev s_Reader_read_tree : Stmt := inClass (top 27) 3
theorem sc_Reader_read_tree : FnScope ["self", "depth", "sign"] ["self", "depth"] (defScope s_Reader_read_tree) := ⟨rfl, rfl, rfl, by decide +kernel, rfl, by decide +kernel, by decide +kernel⟩
noncomputable abbrev s_Reader_read_blank : Stmt := inClass (top 27) 4
theorem sc_Reader_read_blank : FnScope ["self", "start"] ["self"] (defScope s_Reader_read_blank) := ⟨rfl, rfl, rfl, by decide +kernel, rfl, by decide +kernel, by decide +kernel⟩
noncomputable abbrev s_Reader_read_block : Stmt := inClass (top 27) 5
theorem sc_Reader_read_block : FnScope ["self", "depth", "name"] ["self", "depth"] (defScope s_Reader_read_block) := ⟨rfl, rfl, rfl, by decide +kernel, rfl, by decide +kernel, by decide +kernel⟩
noncomputable abbrev s_Reader_read_name : Stmt := inClass (top 27) 6
theorem sc_Reader_read_name : FnScope ["self", "start", "name"] ["self"] (defScope s_Reader_read_name) := ⟨rfl, rfl, rfl, by decide +kernel, rfl, by decide +kernel, by decide +kernel⟩
noncomputable abbrev s_Reader_read_parts : Stmt := inClass (top 27) 7
theorem sc_Reader_read_parts : FnScope ["self", "depth", "parts"] ["self", "depth"] (defScope s_Reader_read_parts) := ⟨rfl, rfl, rfl, by decide +kernel, rfl, by decide +kernel, by decide +kernel⟩
theorem allN1 {C : List Value → Prop} (h : ∀ a0, C [a0]) : ∀ us : List Value, us.length = 1 → C us
  | [a0], _ => h a0
theorem allN2 {C : List Value → Prop} (h : ∀ a0 a1, C [a0, a1]) : ∀ us : List Value, us.length = 2 → C us
  | [a0, a1], _ => h a0 a1
theorem allN3 {C : List Value → Prop} (h : ∀ a0 a1 a2, C [a0, a1, a2]) : ∀ us : List Value, us.length = 3 → C us
  | [a0, a1, a2], _ => h a0 a1 a2
theorem allN4 {C : List Value → Prop} (h : ∀ a0 a1 a2 a3, C [a0, a1, a2, a3]) : ∀ us : List Value, us.length = 4 → C us
  | [a0, a1, a2, a3], _ => h a0 a1 a2 a3
structure Txt (K : PySem.W.Frag) (mg : Str → Option Value) : Prop where
  f_is_letter : Stands K mg "is_letter" s_is_letter ["sign"]
  f_is_figure : Stands K mg "is_figure" s_is_figure ["sign"]
  f_is_name : Stands K mg "is_name" s_is_name ["text"]
  f_parts_of : Stands K mg "parts_of" s_parts_of ["tree"]
  f_knots_of : Stands K mg "knots_of" s_knots_of ["tree"]
  f_depth_of : Stands K mg "depth_of" s_depth_of ["tree"]
  f_exchanged : Stands K mg "exchanged" s_exchanged ["tree", "filling"]
  f_refuse_too_great : Stands K mg "refuse_too_great" s_refuse_too_great ["tree"]
  f_filled : Stands K mg "filled" s_filled ["tree", "filling"]
  f_one_behind : Stands K mg "one_behind" s_one_behind ["one", "other"]
  f_written : Stands K mg "written" s_written ["tree"]
  f_blank_number : Stands K mg "blank_number" s_blank_number ["figures"]
  f_read : Stands K mg "read" s_read ["text"]
  f__law_cell_at : Stands K mg "_law_cell_at" s__law_cell_at ["script", "k"]
  f__law_draw : Stands K mg "_law_draw" s__law_draw ["cell", "k", "many"]
  f__law_alike : Stands K mg "_law_alike" s__law_alike ["found", "due"]
  f__law_names : Stands K mg "_law_names" s__law_names ["cell"]
  f__law_leaf : Stands K mg "_law_leaf" s__law_leaf ["cell", "first", "names", "shares"]
  f__law_tree : Stands K mg "_law_tree" s__law_tree ["cells", "first", "shares"]
  f__law_places : Stands K mg "_law_places" s__law_places ["tree"]
  f__law_filling : Stands K mg "_law_filling" s__law_filling ["cells", "first", "way"]
  f__law_small : Stands K mg "_law_small" s__law_small ["cells", "first", "way"]
  f__law_exchanged : Stands K mg "_law_exchanged" s__law_exchanged ["tree", "filling"]
  f__law_too_great : Stands K mg "_law_too_great" s__law_too_great ["tree", "filling"]
  f_Reader___init__ : StandsI K (cl mg "Reader") "Reader.__init__" s_Reader___init__ ["self", "text"]
  f_Reader_sign_here : StandsM K (cl mg "Reader") "sign_here" "Reader.sign_here" s_Reader_sign_here ["self"]
  f_Reader_begin_knot : StandsM K (cl mg "Reader") "begin_knot" "Reader.begin_knot" s_Reader_begin_knot ["self", "depth"]
  f_Reader_read_tree : StandsM K (cl mg "Reader") "read_tree" "Reader.read_tree" s_Reader_read_tree ["self", "depth"]
  f_Reader_read_blank : StandsM K (cl mg "Reader") "read_blank" "Reader.read_blank" s_Reader_read_blank ["self"]
  f_Reader_read_block : StandsM K (cl mg "Reader") "read_block" "Reader.read_block" s_Reader_read_block ["self", "depth"]
  f_Reader_read_name : StandsM K (cl mg "Reader") "read_name" "Reader.read_name" s_Reader_read_name ["self"]
  f_Reader_read_parts : StandsM K (cl mg "Reader") "read_parts" "Reader.read_parts" s_Reader_read_parts ["self", "depth"]
  n_Reader : mg "Reader" = some (.ref (cl mg "Reader"))
  c_Reader : Cls K (cl mg "Reader")
  a_Reader_at : NoAttr K (cl mg "Reader") "at"
  a_Reader_knots : NoAttr K (cl mg "Reader") "knots"
  a_Reader_text : NoAttr K (cl mg "Reader") "text"
  m_all : mg "all" = none
  m_bool : mg "bool" = none
  m_int : mg "int" = none
  m_isinstance : mg "isinstance" = none
  m_len : mg "len" = none
  m_list : mg "list" = none
  m_max : mg "max" = none
  m_min : mg "min" = none
  m_range : mg "range" = none
  m_str : mg "str" = none
  m_tuple : mg "tuple" = none
  g_MOST_BLANK : ∃ t, mg "MOST_BLANK" = some (.int 1000000000 t)
  g_MOST_BLANK_FIGURES : ∃ t, mg "MOST_BLANK_FIGURES" = some (.int 10 t)
  g_MOST_DEPTH : ∃ t, mg "MOST_DEPTH" = some (.int 30 t)
  g_MOST_KNOTS : ∃ t, mg "MOST_KNOTS" = some (.int 200 t)
  g_MOST_NAME_SIGNS : ∃ t, mg "MOST_NAME_SIGNS" = some (.int 12 t)
  g_MOST_PARTS : ∃ t, mg "MOST_PARTS" = some (.int 9 t)
  g_MOST_TOLD_DEPTH : ∃ t, mg "MOST_TOLD_DEPTH" = some (.int 60 t)
  g_MOST_TOLD_KNOTS : ∃ t, mg "MOST_TOLD_KNOTS" = some (.int 400 t)
  n_FormError : mg "FormError" = some (.ref (cl mg "FormError"))
  n_BadText : mg "BadText" = some (.ref (cl mg "BadText"))
  n_TooLong : mg "TooLong" = some (.ref (cl mg "TooLong"))
  xc : XTab K [cl mg "FormError", cl mg "BadText", cl mg "TooLong"] [[true, false, false], [true, true, false], [true, false, true]]
section
variable {K : PySem.W.Frag} {mg : Str → Option Value}
end
section
variable {P : Program} {w : World} {K : PySem.W.Frag} {mg : Str → Option Value} {base : Heap}
-- DICTS read.reader:Reader blank_number:int law!= law.one law.other _law_filling.filling _law_too_great.filling _law_too_great.sizes one_behind.both one_behind.one one_behind.other
noncomputable def kLaw : Nat := 190
theorem rt_done {Q : KD} {d : D} {M : DH} (q : Q d M) : (endsOf Q).rt d M := ⟨M, Sub.refl M, q⟩
/-! ### trees -/
inductive Tree where
  | block (n : Str) (ps : List Tree)
  | blank (k : Int)
mutual
noncomputable def Tree.d : Tree → D
  | .block n ps => .tup [.str "block", .str n, .tup (Tree.ds ps)]
  | .blank k => .tup [.str "blank", .int k]
noncomputable def Tree.ds : List Tree → List D
  | [] => []
  | t :: ts => t.d :: Tree.ds ts
end
mutual
noncomputable def Tree.knots : Tree → Nat
  | .block _ ps => Tree.knotss ps + 1
  | .blank _ => 1
noncomputable def Tree.knotss : List Tree → Nat
  | [] => 0
  | t :: ts => t.knots + Tree.knotss ts
end
mutual
noncomputable def Tree.depth : Tree → Nat
  | .block _ ps => Tree.depths ps + 1
  | .blank _ => 1
noncomputable def Tree.depths : List Tree → Nat
  | [] => 0
  | t :: ts => max t.depth (Tree.depths ts)
end
noncomputable def Tree.parts : Tree → List Tree
  | .block _ ps => ps
  | .blank _ => []
theorem ds_map : ∀ ts : List Tree, Tree.ds ts = ts.map Tree.d
  | [] => rfl
  | t :: ts => by rw [Tree.ds, ds_map ts]; rfl
theorem knots_parts (t : Tree) : t.knots = Tree.knotss t.parts + 1 := by cases t <;> rfl
theorem depth_parts (t : Tree) : t.depth = Tree.depths t.parts + 1 := by cases t <;> rfl
theorem depth_get : ∀ {ts : List Tree} {i : Nat} {t : Tree}, ts[i]? = some t → t.depth ≤ Tree.depths ts
  | [], _, _, e => by simp at e
  | t :: ts, 0, _, e => by simp at e; subst e; simp only [Tree.depths]; (first | lia | omega)
  | t :: ts, i + 1, _, e => by
    have := depth_get (ts := ts) (i := i) (by simpa using e)
    simp only [Tree.depths]; (first | lia | omega)
theorem knotss_take : ∀ (ts : List Tree) (i : Nat) (t : Tree), ts[i]? = some t → Tree.knotss (ts.take (i + 1)) = Tree.knotss (ts.take i) + t.knots
  | [], _, _, e => by simp at e
  | t :: ts, 0, _, e => by simp at e; subst e; simp [Tree.knotss]
  | t :: ts, i + 1, _, e => by
    have := knotss_take ts i _ (by simpa using e)
    simp only [List.take_succ_cons, Tree.knotss] at this ⊢
    (first | lia | omega)
theorem depths_take : ∀ (ts : List Tree) (i : Nat) (t : Tree), ts[i]? = some t → Tree.depths (ts.take (i + 1)) = max (Tree.depths (ts.take i)) t.depth
  | [], _, _, e => by simp at e
  | t :: ts, 0, _, e => by simp at e; subst e; simp [Tree.depths]
  | t :: ts, i + 1, _, e => by
    have := depths_take ts i _ (by simpa using e)
    rw [List.take_succ_cons, List.take_succ_cons, Tree.depths, Tree.depths, this, Nat.max_assoc]
/-! ### the program -/
noncomputable def spParts : SpD := fun ds M Q => ∃ t : Tree, ds = [t.d] ∧ Q (.tup (t.parts.map Tree.d)) M
theorem ok_parts_of (T : Txt K mg) : FnD P w K mg base 1 "parts_of" ["tree"] spParts := by
  refine def_ok T.f_parts_of sc_parts_of (fun ds M Q h => ?_) fun f cdv A outer s H E hr => ⟨_, (ss_cons (s_if (dt_cmp (od_eq hr) (d_ix (d_var 0) d_int) d_str (nomark _)) (ss_one (s_ret (d_tup a_nil))) ss_nil)
 (ss_one (s_ret (d_ix (d_var 0) d_int)))), fun ds M Q h => ?_⟩
  · obtain ⟨t, rfl, _⟩ := h; rfl
  · obtain ⟨t, rfl, q⟩ := h
    cases t with
    | blank k => exact rt_done q
    | block n ps =>
      have q' : Q (.tup (Tree.ds ps)) M := by rw [ds_map]; exact q
      exact rt_done q'
theorem fn_none {x : Str} {ps : List Str} {sp : SpD} {st : Stmt} (T : Stands K mg x st ps) (no : ∀ ds M Q, ¬ sp ds M Q) : FnD P w K mg base 0 x ps sp := by
  obtain ⟨f, fd, F, hb, hm⟩ := T
  have no' : ∀ vs H Q E, ¬ lowSp K sp vs H Q E := fun vs H Q E ⟨ds, M, Q', _, _, h, _⟩ => no ds M Q' h
  exact ⟨f, fd, ⟨fun vs H Q E h => absurd h (no' vs H Q E), fun A outer s H args us vs Q E _ _ _ _ h => absurd h (no' vs H Q E)⟩, hm, F.kp, hb⟩
theorem depth_pos (t : Tree) : 0 < t.depth := by rw [depth_parts]; (first | lia | omega)
mutual
theorem depth_le_knots : ∀ t : Tree, t.depth ≤ t.knots
  | .block n ps => by rw [Tree.depth, Tree.knots]; have := depths_le_knotss ps; (first | lia | omega)
  | .blank k => Nat.le_refl _
theorem depths_le_knotss : ∀ ts : List Tree, Tree.depths ts ≤ Tree.knotss ts
  | [] => Nat.le_refl _
  | t :: ts => by rw [Tree.depths, Tree.knotss]; have := depth_le_knots t; have := depths_le_knotss ts; (first | lia | omega)
end
theorem length_knotss : ∀ ts : List Tree, ts.length ≤ Tree.knotss ts
  | [] => Nat.le_refl _
  | t :: ts => by have h1 := length_knotss ts; have h2 := depth_le_knots t; have h3 := depth_pos t; rw [List.length_cons, Tree.knotss]; (first | lia | omega)
/-! ### the law's own defs -/
theorem at_some {α : Type} {xs : List α} {i : Int} (h0 : 0 ≤ i) (h1 : i < xs.length) : ∃ k, atI xs i = some k := by
  have e : i = ((i.toNat : Nat) : Int) := by (first | lia | omega)
  have hl : i.toNat < xs.length := by (first | lia | omega)
  have h := atI_nat (xs := xs) (j := i.toNat) (v := xs[i.toNat]) (by rw [List.getElem?_eq_getElem hl])
  rw [← e] at h
  exact ⟨_, h⟩
theorem str_app (a b : Str) : (a ++ b).length = a.length + b.length := by
  show (a.cps ++ b.cps).size = _
  rw [Array.size_append]
  rfl
theorem some_len : (Str.ofString "abcdefghijklmnopqrstuvwxyz0123456789").cps.toList.length = 36 := by decide +kernel
noncomputable def spCell : SpD := fun ds M Q => ∃ (ns : List Int) (k : Int), ds = [.rol (ns.map .int), .int k] ∧ 0 ≤ k ∧ ∀ c : Int, Q (.int c) M
theorem ok_cell (T : Txt K mg) : FnD P w K mg base 1 "_law_cell_at" ["script", "k"] spCell := by
  have m_len := T.m_len
  refine def_ok T.f__law_cell_at sc__law_cell_at (fun ds M Q h => ?_) fun f cdv A outer s H E hr => ⟨_, (ss_cons (s_if (dt_cmp od_lt (d_var 1) (d_callB cd_len rfl m_len bt_len (a_cons (d_var 0) a_nil)) (nomark _)) (ss_one (s_ret (d_ix (d_var 0) (d_var 1)))) ss_nil)
 (ss_one (s_ret d_int))), fun ds M Q h => ?_⟩
  · obtain ⟨ns, k, rfl, _⟩ := h; rfl
  · obtain ⟨ns, k, rfl, hk, q⟩ := h
    show if decide (k < ((ns.map D.int).length : Int)) = true then _ else _
    by_cases h1 : k < ((ns.map D.int).length : Int)
    · rw [decide_eq_true h1, if_pos rfl]
      obtain ⟨v, hv⟩ := at_some (xs := ns.map D.int) hk h1
      obtain ⟨j, _, hj, _⟩ := atI_get hv
      obtain ⟨c, _, rfl⟩ := List.mem_map.mp (List.mem_of_getElem? hj)
      show onSome (atI (ns.map D.int) k) _
      rw [hv]
      exact rt_done (q c)
    · rw [decide_eq_false h1, if_neg Bool.false_ne_true]
      exact rt_done (q 0)
theorem upd_none {M : DH} {a b : Addr} {o : MO} (h : updM M a o b = none) : b ≠ a ∧ M b = none := by
  have hne : b ≠ a := by intro z; subst z; rw [updM_same] at h; cases h
  exact ⟨hne, by rw [updM_ne hne] at h; exact h⟩
theorem sub_upd {M0 M : DH} {a : Addr} {o : MO} (s : Sub M0 M) (h : M0 a = none) : Sub M0 (updM M a o) := fun b u e => by
  rw [updM_ne (by intro z; subst z; rw [h] at e; cases e)]; exact s b u e
theorem knots_pos (t : Tree) : 0 < t.knots := by rw [knots_parts]; (first | lia | omega)
theorem knots_get : ∀ {ts : List Tree} {i : Nat} {t : Tree}, ts[i]? = some t → t.knots ≤ Tree.knotss ts
  | [], _, _, e => by simp at e
  | t :: ts, 0, _, e => by simp at e; subst e; simp only [Tree.knotss]; (first | lia | omega)
  | t :: ts, i + 1, _, e => by
    have := knots_get (ts := ts) (i := i) (by simpa using e)
    simp only [Tree.knotss]; (first | lia | omega)
noncomputable abbrev PT' := List Int × Tree
noncomputable def pd (x : PT') : D := .tup [.tup (x.1.map .int), x.2.d]
mutual
noncomputable def pre (p : List Int) : Tree → List PT'
  | .block n ps => (p, .block n ps) :: pres p 0 ps
  | .blank k => [(p, .blank k)]
noncomputable def pres (p : List Int) (i : Nat) : List Tree → List PT'
  | [] => []
  | t :: ts => pre (p ++ [(i : Int)]) t ++ pres p (i + 1) ts
end
theorem updM_self {M : DH} {a : Addr} {o : MO} (h : M a = some o) : updM M a o = M := by
  funext b
  by_cases z : b = a
  · subst z; rw [updM_same, h]
  · rw [updM_ne z]
/-! ### signs, names -/
noncomputable def isL (k : Nat) : Bool := !decide (k < 97) && !decide (122 < k)
noncomputable def isF (k : Nat) : Bool := !decide (k < 48) && !decide (57 < k)
theorem one_lt (a b : Nat) : decide (([a] : List Nat) < [b]) = decide (a < b) := by
  by_cases h : a < b
  · rw [decide_eq_true h, decide_eq_true]; exact List.Lex.rel h
  · rw [decide_eq_false h, decide_eq_false]
    intro z
    cases z with
    | rel z => exact h z
    | cons z => cases z
noncomputable def spSg (p : Nat → Bool) : SpD := fun ds M Q => ∃ cs : List Nat, ds = [.str (tx cs)] ∧ cs.length ≤ 1 ∧ Q (.bl (cs.any p)) M
theorem ok_letter (T : Txt K mg) : FnD P w K mg base 1 "is_letter" ["sign"] (spSg isL) := by
  refine def_ok T.f_is_letter sc_is_letter (fun ds M Q h => ?_) fun f cdv A outer s H E hr => ⟨_, (ss_one (s_ret (d_chain od_le od_le d_str (d_var 0) d_str))), fun ds M Q h => ?_⟩
  · obtain ⟨k, rfl, _⟩ := h; rfl
  · obtain ⟨cs, rfl, hl, q⟩ := h
    match cs, hl with
    | [], _ => exact rt_done q
    | [k], _ =>
      have e1 : decide (([k] : List Nat) < (Str.ofString "a").cps.toList) = decide (k < 97) := one_lt k 97
      have e2 : decide ((Str.ofString "z").cps.toList < ([k] : List Nat)) = decide (122 < k) := one_lt 122 k
      have q' : Q (.bl (isL k)) M := by simpa using q
      show if (!decide (([k] : List Nat) < (Str.ofString "a").cps.toList)) = true then (endsOf Q).rt (.bl (!decide ((Str.ofString "z").cps.toList < ([k] : List Nat)))) M else (endsOf Q).rt (.bl false) M
      rw [e1, e2]
      unfold isL at q'
      cases h1 : decide (k < 97) with
      | true => rw [h1] at q'; exact rt_done q'
      | false => rw [h1] at q'; exact rt_done q'
theorem ok_figure (T : Txt K mg) : FnD P w K mg base 1 "is_figure" ["sign"] (spSg isF) := by
  refine def_ok T.f_is_figure sc_is_figure (fun ds M Q h => ?_) fun f cdv A outer s H E hr => ⟨_, (ss_one (s_ret (d_chain od_le od_le d_str (d_var 0) d_str))), fun ds M Q h => ?_⟩
  · obtain ⟨k, rfl, _⟩ := h; rfl
  · obtain ⟨cs, rfl, hl, q⟩ := h
    match cs, hl with
    | [], _ => exact rt_done q
    | [k], _ =>
      have e1 : decide (([k] : List Nat) < (Str.ofString "0").cps.toList) = decide (k < 48) := one_lt k 48
      have e2 : decide ((Str.ofString "9").cps.toList < ([k] : List Nat)) = decide (57 < k) := one_lt 57 k
      have q' : Q (.bl (isF k)) M := by simpa using q
      show if (!decide (([k] : List Nat) < (Str.ofString "0").cps.toList)) = true then (endsOf Q).rt (.bl (!decide ((Str.ofString "9").cps.toList < ([k] : List Nat)))) M else (endsOf Q).rt (.bl false) M
      rw [e1, e2]
      unfold isF at q'
      cases h1 : decide (k < 48) with
      | true => rw [h1] at q'; exact rt_done q'
      | false => rw [h1] at q'; exact rt_done q'
/-- a name, by its signs -/
noncomputable def nameL (cs : List Nat) : Bool := match cs with
  | [] => false
  | c :: r => decide (r.length < 12) && isL c && r.all fun k => isL k || isF k
noncomputable def fS : D → Option D
  | .str x => some (.bl (isL (x.cps.getD 0 0) || isF (x.cps.getD 0 0)))
  | _ => none
theorem signs_f (cs : List Nat) : (DL.signs (tx cs)).filterMap fS = (cs.map fun k => isL k || isF k).map D.bl := by
  unfold DL.signs
  rw [tx_cps]
  induction cs with
  | nil => rfl
  | cons c r ih => simp only [List.map_cons, List.filterMap_cons, fS, ih]; rfl
theorem Fgt.set {τ0 : DSt} {i : Nat} {v : Option D} (h : τ0[i]? = some none) : Fgt τ0 (τ0.set i v) := by
  refine ⟨List.length_set, fun j d e => ?_⟩
  rw [List.getElem?_set]
  by_cases hj : i = j
  · subst hj; rw [h] at e; cases e
  · rw [if_neg hj]; exact e
noncomputable def spNm : SpD := fun ds M Q => ∃ cs : List Nat, ds = [.str (tx cs)] ∧ nameL cs = true ∧ Q (.bl true) M
theorem ok_nm (T : Txt K mg) : FnD P w K mg base 2 "is_name" ["text"] spNm := by
  have m_all := T.m_all
  have m_len := T.m_len
  obtain ⟨t_MOST_NAME_SIGNS, g_MOST_NAME_SIGNS⟩ := T.g_MOST_NAME_SIGNS
  have F_is_letter := ok_letter (P := P) (w := w) (base := base) T
  have F_is_figure := ok_figure (P := P) (w := w) (base := base) T
  refine def_ok T.f_is_name sc_is_name (fun ds M Q h => ?_) fun f cdv A outer s H E hr => ⟨_, (ss_cons (s_if (dt_not (dt_chain od_le od_le d_int (d_callB cd_len rfl m_len bt_len (a_cons (d_var 0) a_nil)) (d_glob_int rfl g_MOST_NAME_SIGNS ⟨_, rfl⟩))) (ss_one (s_ret d_bl)) ss_nil)
 (ss_cons (s_if (dt_not (dt_val (d_call F_is_letter (hr.mono (by (first | lia | omega))) (a_cons (d_ix (d_var 0) d_int) a_nil)))) (ss_one (s_ret d_bl)) ss_nil)
 (ss_one (s_ret (d_callB (cd_all rfl) rfl m_all bt_all (a_cons (d_comp (Nc := ["sign"]) (js := [none]) (comp_ok0 (by decide +kernel) (by decide +kernel) (by decide +kernel) rfl rfl) rfl (d_var 0) (fun C s H fp => (g_name (i := 0) (by show List.Nodup (["sign"] : List Str); decide +kernel))) (fun C s H fp => Or.inl ⟨rfl, rfl⟩) (fun C s H fp => (d_or (d_call F_is_letter (hr.mono (by (first | lia | omega))) (a_cons (d_var 0) a_nil)) (d_one (d_call F_is_figure (hr.mono (by (first | lia | omega))) (a_cons (d_var 0) a_nil)))))) a_nil)))))), fun ds M Q h => ?_⟩
  · obtain ⟨k, rfl, _⟩ := h; rfl
  · obtain ⟨cs, rfl, hn, q⟩ := h
    cases cs with
    | nil => cases hn
    | cons c r =>
      have hn' : (decide (r.length < 12) && isL c && r.all fun k => isL k || isF k) = true := hn
      simp only [Bool.and_eq_true, decide_eq_true_eq] at hn'
      obtain ⟨⟨h12, hc⟩, hr'⟩ := hn'
      have hz : (tx (c :: r)).length ≤ 1000 := by rw [tx_len, List.length_cons]; (first | lia | omega)
      have hlen := tx_len (c :: r)
      refine ⟨line1000 hz, ?_⟩
      have h1 : (1 : Int) ≤ ((tx (c :: r)).length : Int) := by rw [hlen, List.length_cons]; (first | lia | omega)
      show if decide ((1 : Int) ≤ ((tx (c :: r)).length : Int)) = true then _ else _
      rw [decide_eq_true h1, if_pos rfl]
      have h2 : (((tx (c :: r)).length : Int) ≤ 12) := by rw [hlen, List.length_cons]; (first | lia | omega)
      show if (!decide (((tx (c :: r)).length : Int) ≤ 12)) = true then _ else _
      rw [decide_eq_true h2]
      refine ⟨line1000 hz, c, atI_nat (j := 0) rfl, [c], rfl, Nat.le_refl 1, ?_⟩
      have ec : [c].any isL = true := by simpa using hc
      rw [ec]
      refine ⟨?_, fS, ?_, fun p hp => ?_⟩
      · rw [DL.signs_length]; show (tx (c :: r)).length ≤ _; (first | lia | omega)
      · intro d hd p acc hp
        obtain ⟨k, hk, rfl⟩ := List.mem_map.mp hd
        refine ⟨Fgt.set rfl, ?_⟩
        refine ⟨[k], rfl, Nat.le_refl 1, ?_⟩
        cases hL : isL k with
        | true =>
          have e : [k].any isL = true := by simpa using hL
          rw [e]
          exact ⟨rfl, by simp [fS, hL]⟩
        | false =>
          have e : [k].any isL = false := by simpa using hL
          rw [e]
          refine ⟨[k], rfl, Nat.le_refl 1, rfl, ?_⟩
          simp [fS, hL]
      · refine ⟨(c :: r).map fun k => isL k || isF k, ?_, ?_⟩
        · rw [updM_same, signs_f]
        · have e : ((c :: r).map fun k => isL k || isF k).all id = true := by
            rw [List.all_map]
            simp only [List.all_cons, Function.comp, id, hc, Bool.true_or, Bool.true_and]
            exact hr'
          refine ⟨M, Sub.new hp, ?_⟩
          rw [e]
          exact q
/-! ### numbers by their figures -/
noncomputable def figs (n : Int) : List Nat := (numT n).cps.toList
theorem figs_tx (n : Int) : tx (figs n) = numT n := tx_eta _
theorem figs_nat (m : Nat) : figs (m : Int) = (Nat.toDigits 10 m).map Char.toNat := PySem.W.KIN.signs_num m
theorem figs_all (n : Int) (h : 0 ≤ n) : ∀ k ∈ figs n, isF k = true := by
  obtain ⟨m, rfl⟩ := Int.eq_ofNat_of_zero_le h
  intro k hk
  rw [figs_nat] at hk
  obtain ⟨ch, hch, e⟩ := List.mem_map.mp hk
  have r := digit_range (Nat.isDigit_of_mem_toDigits (by decide) (by decide) hch)
  rw [e] at r
  unfold isF
  rw [decide_eq_false (show ¬ k < 48 by (first | lia | omega)), decide_eq_false (show ¬ 57 < k by (first | lia | omega))]; rfl
theorem figs_len (n : Int) (h0 : 0 ≤ n) (h1 : n ≤ 10 ^ 9) : 1 ≤ (figs n).length ∧ (figs n).length ≤ 10 := by
  obtain ⟨m, rfl⟩ := Int.eq_ofNat_of_zero_le h0
  rw [figs_nat, List.length_map]
  refine ⟨PySem.toDigits_len_ge 10 m, ?_⟩
  have h2 := PySem.W.KT.len_num (n := (m : Int)) h0 (by (first | lia | omega))
  have h3 : (numT (m : Int)).length = (figs (m : Int)).length := by show (numT (m : Int)).cps.size = (numT (m : Int)).cps.toList.length; simp
  rw [figs_nat, List.length_map] at h3
  rw [← h3]; exact h2
theorem dig_base : ∀ m : Nat, m < 10 → 1 ≤ m → ((Nat.toDigits 10 m).map Char.toNat).head? ≠ some 48 := by decide
theorem dig_head (m : Nat) (h1 : 1 ≤ m) : ((Nat.toDigits 10 m).map Char.toNat).head? ≠ some 48 := by
  induction m using Nat.strongRecOn with
  | _ m ih =>
    by_cases h : m < 10
    · exact dig_base m h h1
    · have hm : m % 10 < 10 := Nat.mod_lt m (by decide)
      have t : Nat.toDigits 10 (m / 10) ++ Nat.toDigits 10 (m % 10) = Nat.toDigits 10 (10 * (m / 10) + m % 10) := Nat.toDigits_append_toDigits (by decide) (by (first | lia | omega)) hm
      rw [Nat.div_add_mod] at t
      have ih' := ih (m / 10) (by (first | lia | omega)) (by (first | lia | omega))
      rw [← t, List.map_append]
      have hl := PySem.toDigits_len_ge 10 (m / 10)
      cases e : (Nat.toDigits 10 (m / 10)).map Char.toNat with
      | nil =>
        have := congrArg List.length e
        rw [List.length_map] at this
        simp at this
      | cons c r => rw [e] at ih'; exact ih'
theorem figs_head (n : Int) (h0 : 1 ≤ n) : (figs n).head? ≠ some 48 := by
  obtain ⟨m, rfl⟩ := Int.eq_ofNat_of_zero_le (show 0 ≤ n by (first | lia | omega))
  rw [figs_nat]
  exact dig_head m (by (first | lia | omega))
/-! ### the reader -/
noncomputable def rf (cs : List Nat) (i n : Nat) : List (Str × D) := [("text", .str (tx cs)), ("at", .int (i : Nat)), ("knots", .int (n : Nat))]
theorem nta : ¬ (("text" : Str) = "at") := by decide +kernel
theorem ntk : ¬ (("text" : Str) = "knots") := by decide +kernel
theorem nak : ¬ (("at" : Str) = "knots") := by decide +kernel
theorem rf_at (cs : List Nat) (i n j : Nat) : putFD "at" (.int (j : Nat)) (rf cs i n) = rf cs j n := by
  show (if ("text" : Str) = "at" then _ else (("text" : Str), D.str (tx cs)) :: (if ("at" : Str) = "at" then [(("at" : Str), D.int (j : Nat)), ("knots", .int (n : Nat))] else _)) = _
  rw [if_neg nta, if_pos rfl]; rfl
theorem rf_knots (cs : List Nat) (i n j : Nat) : putFD "knots" (.int (j : Nat)) (rf cs i n) = rf cs i j := by
  show (if ("text" : Str) = "knots" then _ else (("text" : Str), D.str (tx cs)) :: (if ("at" : Str) = "knots" then _ else (("at" : Str), D.int (i : Nat)) :: (if ("knots" : Str) = "knots" then [(("knots" : Str), D.int (j : Nat))] else _))) = _
  rw [if_neg ntk, if_neg nak, if_pos rfl]; rfl
theorem bt_t : (("text" : Str) == "text") = true := by decide +kernel
theorem ba_t : (("at" : Str) == "text") = false := by decide +kernel
theorem ba_a : (("at" : Str) == "at") = true := by decide +kernel
theorem bk_t : (("knots" : Str) == "text") = false := by decide +kernel
theorem bk_a : (("knots" : Str) == "at") = false := by decide +kernel
theorem bk_k : (("knots" : Str) == "knots") = true := by decide +kernel
theorem rf_text (cs : List Nat) (i n : Nat) : (rf cs i n).lookup ("text" : Str) = some (D.str (tx cs)) := by simp only [rf, List.lookup, bt_t]
theorem rf_lat (cs : List Nat) (i n : Nat) : (rf cs i n).lookup ("at" : Str) = some (D.int (i : Nat)) := by simp only [rf, List.lookup, ba_t, ba_a]
theorem rf_lkn (cs : List Nat) (i n : Nat) : (rf cs i n).lookup ("knots" : Str) = some (D.int (n : Nat)) := by simp only [rf, List.lookup, bk_t, bk_a, bk_k]
theorem rf_no (cs : List Nat) (i n : Nat) {m : Str} (h1 : (m == "text") = false) (h2 : (m == "at") = false) (h3 : (m == "knots") = false) : (rf cs i n).lookup m = none := by simp only [rf, List.lookup, h1, h2, h3]
theorem putFD_len (f : Str) (d : D) : ∀ fs : List (Str × D), (putFD f d fs).length ≤ fs.length + 1
  | [] => Nat.le_refl _
  | (g, x) :: r => by
    show (if g = f then (g, d) :: r else (g, x) :: putFD f d r).length ≤ _
    have := putFD_len f d r
    split <;> simp only [List.length_cons] <;> (first | lia | omega)
theorem rf_init (cs : List Nat) : putFD "knots" (.int 0) (putFD "at" (.int 0) (putFD "text" (.str (tx cs)) [])) = rf cs 0 0 := by
  have e : putFD "at" (.int 0) (putFD "text" (.str (tx cs)) []) = [(("text" : Str), D.str (tx cs)), (("at" : Str), D.int 0)] := by
    show (if ("text" : Str) = "at" then _ else (("text" : Str), D.str (tx cs)) :: [(("at" : Str), D.int 0)]) = _
    rw [if_neg nta]
  rw [e]
  show (if ("text" : Str) = "knots" then _ else (("text" : Str), D.str (tx cs)) :: (if ("at" : Str) = "knots" then _ else (("at" : Str), D.int 0) :: [(("knots" : Str), D.int 0)])) = _
  rw [if_neg ntk, if_neg nak]; rfl
noncomputable def RD (mg : Str → Option Value) (M : DH) (a dx : Addr) (cs : List Nat) (i n : Nat) : Prop := M a = some (.ins (cl mg "Reader") dx (rf cs i n))
noncomputable def spInit (mg : Str → Option Value) : SpD := fun ds M Q => ∃ (a dx : Addr) (cs : List Nat), ds = [.ref a, .str (tx cs)] ∧ M a = some (.ins (cl mg "Reader") dx []) ∧ Q .non (updM M a (.ins (cl mg "Reader") dx (rf cs 0 0)))
theorem ok_init (T : Txt K mg) : FnI P w K mg base (cl mg "Reader") 1 ["self", "text"] (spInit mg) := by
  refine def_okI T.f_Reader___init__ sc_Reader___init__ (fun ds M Q h => ?_) fun f cdv A outer s H E hr => ⟨_, (ss_cons (s_fld T.c_Reader T.a_Reader_text (d_var 0) (d_var 1))
 (ss_cons (s_fld T.c_Reader T.a_Reader_at (d_var 0) d_int)
 (ss_one (s_fld T.c_Reader T.a_Reader_knots (d_var 0) d_int)))), fun ds M Q h => ?_⟩
  · obtain ⟨a, dx, cs, rfl, _⟩ := h; rfl
  · obtain ⟨a, dx, cs, rfl, ha, q⟩ := h
    refine ⟨a, dx, _, rfl, ha, by decide, ?_⟩
    refine ⟨a, dx, _, rfl, updM_same, by show 1 < 1000; decide, ?_⟩
    refine ⟨a, dx, _, rfl, updM_same, ?_, ?_⟩
    · have h1 := putFD_len "at" (.int 0) (putFD "text" (.str (tx cs)) [])
      have h2 := putFD_len "text" (.str (tx cs)) []
      simp only [List.length_nil] at h2
      show (putFD "at" (.int 0) (putFD "text" (.str (tx cs)) [])).length < 1000
      (first | lia | omega)
    · refine ⟨_, Sub.refl _, ?_⟩
      rw [updM_upd, updM_upd]
      have := rf_init cs
      show Q .non (updM M a (.ins (cl mg "Reader") dx (putFD "knots" (.int 0) (putFD "at" (.int 0) (putFD "text" (.str (tx cs)) [])))))
      rw [this]; exact q
noncomputable def spHere (mg : Str → Option Value) : SpD := fun ds M Q => ∃ (a dx : Addr) (cs : List Nat) (i n : Nat), ds = [.ref a] ∧ RD mg M a dx cs i n ∧ i ≤ cs.length ∧ cs.length ≤ 100000 ∧ Q (.str (tx ((cs.drop i).take 1))) M
theorem here_slice {cs : List Nat} {i : Nat} (h : i ≤ cs.length) : Txt.slice (tx cs) (some (i : Int)) (some ((i : Int) + 1)) = tx ((cs.drop i).take 1) := by
  rcases Nat.lt_or_ge i cs.length with h1 | h1
  · have := slice_tx cs (a := i) (b := i + 1) (by (first | lia | omega)) (by (first | lia | omega))
    rw [show i + 1 - i = 1 by (first | lia | omega)] at this
    exact this
  · have : i = cs.length := by (first | lia | omega)
    subst this
    rw [slice_end, List.drop_length]; rfl
theorem ok_here (T : Txt K mg) : FnM P w K mg base (cl mg "Reader") 1 "sign_here" ["self"] (spHere mg) := by
  refine def_okM T.f_Reader_sign_here sc_Reader_sign_here (fun ds M Q h => ?_) fun f cdv A outer s H E hr => ⟨_, (ss_one (s_ret (d_sl sd_sl (d_fld T.c_Reader T.a_Reader_text (d_var 0)) (o_some (d_fld T.c_Reader T.a_Reader_at (d_var 0))) (o_some (d_op od_add (d_fld T.c_Reader T.a_Reader_at (d_var 0)) d_int))))), fun ds M Q h => ?_⟩
  · obtain ⟨a, dx, cs, i, n, rfl, _⟩ := h; rfl
  · obtain ⟨a, dx, cs, i, n, rfl, ha, hi, hl, q⟩ := h
    refine ⟨a, dx, _, _, rfl, ha, rf_text cs i n, a, dx, _, _, rfl, ha, rf_lat cs i n, a, dx, _, _, rfl, ha, rf_lat cs i n, ?_⟩
    show (tx cs).length ≤ sizeLine ∧ (endsOf Q).rt (.str (Txt.slice (tx cs) (some (i : Int)) (some ((i : Int) + 1)))) M
    rw [here_slice hi]
    exact ⟨by rw [tx_len]; have h3 : sizeLine = 16777216 := sizeLine_eq; (first | lia | omega), rt_done q⟩
noncomputable def spBegin (mg : Str → Option Value) : SpD := fun ds M Q => ∃ (a dx : Addr) (cs : List Nat) (i n dep : Nat), ds = [.ref a, .int (dep : Nat)] ∧ RD mg M a dx cs i n ∧ n < 200 ∧ dep ≤ 30 ∧ Q .non (updM M a (.ins (cl mg "Reader") dx (rf cs i (n + 1))))
theorem ok_begin (T : Txt K mg) : FnM P w K mg base (cl mg "Reader") 1 "begin_knot" ["self", "depth"] (spBegin mg) := by
  obtain ⟨t_MOST_DEPTH, g_MOST_DEPTH⟩ := T.g_MOST_DEPTH
  obtain ⟨t_MOST_KNOTS, g_MOST_KNOTS⟩ := T.g_MOST_KNOTS
  refine def_okM T.f_Reader_begin_knot sc_Reader_begin_knot (fun ds M Q h => ?_) fun f cdv A outer s H E hr => ⟨_, (ss_cons (s_fldAug T.c_Reader T.a_Reader_knots (d_var 0) d_int)
 (ss_cons (s_if (dt_cmp od_gt (d_fld T.c_Reader T.a_Reader_knots (d_var 0)) (d_glob_int rfl g_MOST_KNOTS ⟨_, rfl⟩) (nomark _)) (ss_one s_never) ss_nil)
 (ss_one (s_if (dt_cmp od_gt (d_var 1) (d_glob_int rfl g_MOST_DEPTH ⟨_, rfl⟩) (nomark _)) (ss_one s_never) ss_nil)))), fun ds M Q h => ?_⟩
  · obtain ⟨a, dx, cs, i, n, dep, rfl, _⟩ := h; rfl
  · obtain ⟨a, dx, cs, i, n, dep, rfl, ha, hn, hd, q⟩ := h
    refine ⟨a, dx, _, (n : Int), rfl, ha, rf_lkn cs i n, 1, dx, _, rfl, ha, by show 3 < 1000; decide, ?_⟩
    have e : putFD "knots" (.int ((n : Int) + 1)) (rf cs i n) = rf cs i (n + 1) := rf_knots cs i n (n + 1)
    rw [e]
    refine ⟨a, dx, _, _, rfl, updM_same, rf_lkn cs i (n + 1), ?_⟩
    show if decide ((200 : Int) < ((n + 1 : Nat) : Int)) = true then _ else _
    rw [decide_eq_false (show ¬ (200 : Int) < ((n + 1 : Nat) : Int) by (first | lia | omega)), if_neg Bool.false_ne_true]
    show if decide ((30 : Int) < (dep : Int)) = true then _ else _
    rw [decide_eq_false (show ¬ (30 : Int) < (dep : Int) by (first | lia | omega)), if_neg Bool.false_ne_true]
    exact ⟨_, Sub.refl _, q⟩
noncomputable def spBN : SpD := fun ds M Q => ∃ n : Int, ds = [.str (numT n)] ∧ (1 ≤ n ∧ n ≤ 10 ^ 9) ∧ Q (.int n) M
theorem num_len (n : Int) : (numT n).length = (figs n).length := by show (numT n).cps.size = (numT n).cps.toList.length; simp
theorem num_starts (n : Int) (h : 1 ≤ n) : (decide (0 + (Str.ofString "0").length ≤ (numT n).length) && Builtin.Str.subAt (numT n) "0" 0) = false := by
  rw [PySem.StrLaws.subAt_eq]
  have h1 := figs_head n h
  have e : ((numT n).cps.toList.drop 0).take (Str.ofString "0").length = (figs n).take 1 := rfl
  have e2 : (Str.ofString "0").cps.toList = [48] := rfl
  rw [show (("0" : Str)) = Str.ofString "0" from rfl, e, e2]
  cases q : figs n with
  | nil => simp
  | cons c r =>
    rw [q] at h1
    have hc : c ≠ 48 := fun z => h1 (by rw [z]; rfl)
    have : ((c :: r).take 1 == [48]) = false := by simpa using hc
    rw [this, Bool.and_false]
theorem num_ne (n : Int) (h0 : 0 ≤ n) (h1 : n ≤ 10 ^ 9) : ¬ numT n = Str.ofString "" := fun z => by
  have h2 := (figs_len n h0 h1).1
  rw [← num_len, z] at h2
  exact absurd h2 (by decide)
theorem ok_bn (T : Txt K mg) : FnD P w K mg base 1 "blank_number" ["figures"] spBN := by
  have m_int := T.m_int
  have m_len := T.m_len
  obtain ⟨t_MOST_BLANK, g_MOST_BLANK⟩ := T.g_MOST_BLANK
  obtain ⟨t_MOST_BLANK_FIGURES, g_MOST_BLANK_FIGURES⟩ := T.g_MOST_BLANK_FIGURES
  refine def_ok T.f_blank_number sc_blank_number (fun ds M Q h => ?_) fun f cdv A outer s H E hr => ⟨_, (ss_cons (s_if (PW.pt (dw_or (dt_cmp (od_eq hr) (d_var 0) d_str (nomark _)) (dw_or1 (dt_val (d_bm PySem.F.plainAttrs_str PySem.F.slot_str_startswith PySem.F.type_str_startswith md_startswith (d_var 0) (a_cons d_str a_nil)))))) (ss_one s_never) ss_nil)
 (ss_cons (s_if (PW.pt (dw_or (dt_cmp od_gt (d_callB cd_len rfl m_len bt_len (a_cons (d_var 0) a_nil)) (d_glob_int rfl g_MOST_BLANK_FIGURES ⟨_, rfl⟩) (nomark _)) (dw_or1 (dt_cmp od_gt (d_callTy cd_intT rfl m_int bt_int (a_cons (d_var 0) a_nil)) (d_glob_int rfl g_MOST_BLANK ⟨_, rfl⟩) (nomark _))))) (ss_one s_never) ss_nil)
 (ss_one (s_ret (d_callTy cd_intT rfl m_int bt_int (a_cons (d_var 0) a_nil)))))), fun ds M Q h => ?_⟩
  · obtain ⟨n, rfl, _⟩ := h; rfl
  · obtain ⟨n, rfl, ⟨h1, h2⟩, q⟩ := h
    have hs := num_starts n h1
    have hne := num_ne n (by (first | lia | omega)) h2
    have hl := (figs_len n (by (first | lia | omega)) h2).2
    rw [← num_len] at hl
    show if decide (numT n = Str.ofString "") = true then _ else _
    rw [decide_eq_false hne]
    refine ⟨rfl, ?_⟩
    show if (decide (0 + (Str.ofString "0").length ≤ (numT n).length) && Builtin.Str.subAt (numT n) "0" 0) = true then _ else _
    rw [hs]
    refine ⟨line1000 (by (first | lia | omega)), ?_⟩
    show if decide ((10 : Int) < ((numT n).length : Int)) = true then _ else _
    rw [decide_eq_false (show ¬ (10 : Int) < ((numT n).length : Int) by (first | lia | omega))]
    refine ⟨n, rfl, ⟨by (first | lia | omega), by (first | lia | omega)⟩, ?_⟩
    show if decide ((1000000000 : Int) < n) = true then _ else _
    rw [decide_eq_false (show ¬ (1000000000 : Int) < n by (first | lia | omega))]
    exact ⟨n, rfl, ⟨by (first | lia | omega), by (first | lia | omega)⟩, M, Sub.refl _, q⟩
/-! ### along a run of signs -/
theorem scan {cs u rest : List Nat} {s j : Nat} {p : Nat → Bool} (e : cs.drop s = u ++ rest) (hu : ∀ c ∈ u, p c = true) (hr : ∀ c r, rest = c :: r → p c = false) (h1 : s ≤ j) (h2 : j ≤ s + u.length) : ((cs.drop j).take 1).any p = decide (j < s + u.length) := by
  have e2 : cs.drop j = u.drop (j - s) ++ rest := by
    have : cs.drop j = (cs.drop s).drop (j - s) := by rw [List.drop_drop]; congr 1; (first | lia | omega)
    rw [this, e, List.drop_append_of_le_length (by (first | lia | omega))]
  rw [e2]
  rcases Nat.lt_or_ge j (s + u.length) with h | h
  · rw [decide_eq_true h]
    have hl : j - s < u.length := by (first | lia | omega)
    rw [List.drop_eq_getElem_cons hl, List.cons_append, List.take_succ_cons, List.take_zero]
    have := hu _ (List.getElem_mem hl)
    simp [this]
  · rw [decide_eq_false (by (first | lia | omega))]
    have : u.drop (j - s) = [] := List.drop_eq_nil_of_le (by (first | lia | omega))
    rw [this, List.nil_append]
    cases rest with
    | nil => rfl
    | cons c r => simp [hr c r rfl]
theorem run_slice {cs u rest : List Nat} {s : Nat} (hs : s ≤ cs.length) (e : cs.drop s = u ++ rest) : Txt.slice (tx cs) (some (s : Int)) (some ((s + u.length : Nat) : Int)) = tx u ∧ s + u.length ≤ cs.length := by
  have hl : u.length + rest.length = cs.length - s := by
    have := congrArg List.length e
    rw [List.length_drop, List.length_append] at this
    (first | lia | omega)
  refine ⟨?_, by (first | lia | omega)⟩
  rw [slice_tx cs (by (first | lia | omega)) (by (first | lia | omega)), e, show s + u.length - s = u.length by (first | lia | omega), List.take_left]
theorem len_ok {cs : List Nat} (h : cs.length ≤ 100000) : (tx cs).length ≤ sizeLine := by
  rw [tx_len]; have h3 : sizeLine = 16777216 := sizeLine_eq; (first | lia | omega)
/-- not a figure ahead -/
noncomputable def stopF (rest : List Nat) : Prop := ∀ c r, rest = c :: r → isF c = false
noncomputable def spBl (mg : Str → Option Value) : SpD := fun ds M Q => ∃ (a dx : Addr) (cs : List Nat) (i n : Nat) (k : Int) (rest : List Nat), ds = [.ref a] ∧ RD mg M a dx cs i n ∧ i < cs.length ∧ cs.length ≤ 100000 ∧ (1 ≤ k ∧ k ≤ 10 ^ 9) ∧ cs.drop (i + 1) = figs k ++ rest ∧ stopF rest ∧
  Q (.tup [.str "blank", .int k]) (updM M a (.ins (cl mg "Reader") dx (rf cs (i + 1 + (figs k).length) n)))
theorem ok_bl (T : Txt K mg) : FnM P w K mg base (cl mg "Reader") 3 "read_blank" ["self"] (spBl mg) := by
  have F_Reader_sign_here := ok_here (P := P) (w := w) (base := base) T
  have F_is_figure := ok_figure (P := P) (w := w) (base := base) T
  have F_blank_number := ok_bn (P := P) (w := w) (base := base) T
  refine def_okM T.f_Reader_read_blank sc_Reader_read_blank (fun ds M Q h => ?_) fun f cdv A outer s H E hr => ⟨_, (ss_cons (s_fldAug T.c_Reader T.a_Reader_at (d_var 0) d_int)
 (ss_cons (s_set (i := 1) sc_Reader_read_blank.nd (d_fld T.c_Reader T.a_Reader_at (d_var 0)))
 (ss_cons (s_while PassesOwn.never (dt_val (d_call F_is_figure (hr.mono (by (first | lia | omega))) (a_cons (d_meth0 T.c_Reader F_Reader_sign_here (hr.mono (by (first | lia | omega))) (d_var 0)) a_nil))) (ss_one (s_fldAug T.c_Reader T.a_Reader_at (d_var 0) d_int)))
 (ss_one (s_ret (d_tup (a_cons d_str (a_cons (d_call F_blank_number (hr.mono (by (first | lia | omega))) (a_cons (d_sl sd_sl (d_fld T.c_Reader T.a_Reader_text (d_var 0)) (o_some (d_var 1)) (o_some (d_fld T.c_Reader T.a_Reader_at (d_var 0)))) a_nil)) a_nil)))))))), fun ds M Q h => ?_⟩
  · obtain ⟨a, dx, cs, i, n, k, rest, rfl, _⟩ := h; rfl
  · obtain ⟨a, dx, cs, i, n, k, rest, rfl, ha, hi, hl, hk, he, hst, q⟩ := h
    obtain ⟨r1, r2⟩ := run_slice (s := i + 1) (by (first | lia | omega)) he
    refine ⟨a, dx, _, (i : Int), rfl, ha, rf_lat cs i n, 1, dx, _, rfl, ha, by show 3 < 1000; decide, ?_⟩
    have e : putFD "at" (.int ((i : Int) + 1)) (rf cs i n) = rf cs (i + 1) n := rf_at cs i n (i + 1)
    rw [e]
    refine ⟨a, dx, _, _, rfl, updM_same, rf_lat cs (i + 1) n, ?_⟩
    refine ⟨fun m τ M' => ∃ j : Nat, m = i + 1 + (figs k).length - j ∧ i + 1 ≤ j ∧ j ≤ i + 1 + (figs k).length ∧ M' = updM M a (.ins (cl mg "Reader") dx (rf cs j n)) ∧ τ = [some (.ref a), some (.int ((i + 1 : Nat) : Int))], ⟨_, i + 1, rfl, Nat.le_refl _, by (first | lia | omega), rfl, rfl⟩, ?_⟩
    rintro m τ M' ⟨j, rfl, h1, h2, rfl, rfl⟩
    refine ⟨a, dx, _, rfl, updM_same, rf_no cs j n (by decide +kernel) (by decide +kernel) (by decide +kernel), a, dx, cs, j, n, rfl, updM_same, by (first | lia | omega), hl, ?_⟩
    refine ⟨_, rfl, by rw [List.length_take]; (first | lia | omega), ?_⟩
    rw [scan he (figs_all k (by (first | lia | omega))) hst h1 h2]
    show if decide (j < i + 1 + (figs k).length) = true then _ else _
    by_cases hj : j < i + 1 + (figs k).length
    · rw [decide_eq_true hj, if_pos rfl]
      refine ⟨a, dx, _, (j : Int), rfl, updM_same, rf_lat cs j n, 1, dx, _, rfl, updM_same, by show 3 < 1000; decide, ?_⟩
      have e : putFD "at" (.int ((j : Int) + 1)) (rf cs j n) = rf cs (j + 1) n := rf_at cs j n (j + 1)
      rw [e, updM_upd]
      exact ⟨i + 1 + (figs k).length - (j + 1), by (first | lia | omega), j + 1, rfl, by (first | lia | omega), by (first | lia | omega), rfl, rfl⟩
    · rw [decide_eq_false hj, if_neg Bool.false_ne_true]
      have ej : j = i + 1 + (figs k).length := by (first | lia | omega)
      subst ej
      refine ⟨a, dx, _, _, rfl, updM_same, rf_text cs _ n, a, dx, _, _, rfl, updM_same, rf_lat cs _ n, ?_⟩
      show (tx cs).length ≤ sizeLine ∧ _
      refine ⟨len_ok hl, k, ?_, hk, _, Sub.refl _, q⟩
      show [D.str (Txt.slice (tx cs) (some ((i + 1 : Nat) : Int)) (some ((i + 1 + (figs k).length : Nat) : Int)))] = _
      rw [r1, figs_tx]
noncomputable def isN (c : Nat) : Bool := isL c || isF c
theorem any_or (l : List Nat) : l.any isN = (l.any isL || l.any isF) := by
  induction l with
  | nil => rfl
  | cons c l ih => rw [List.any_cons, List.any_cons, List.any_cons, ih]; show (isL c || isF c || _) = _; cases isL c <;> cases isF c <;> simp
theorem name_all {cs : List Nat} (h : nameL cs = true) : ∀ c ∈ cs, isN c = true := by
  cases cs with
  | nil => cases h
  | cons c r =>
    have h' : (decide (r.length < 12) && isL c && r.all fun k => isL k || isF k) = true := h
    simp only [Bool.and_eq_true, decide_eq_true_eq, List.all_eq_true] at h'
    intro k hk
    rcases List.mem_cons.mp hk with rfl | hk
    · show (isL k || isF k) = true; rw [h'.1.2]; rfl
    · exact h'.2 k hk
theorem name_head {cs : List Nat} (h : nameL cs = true) : ∃ c r, cs = c :: r ∧ isL c = true := by
  cases cs with
  | nil => cases h
  | cons c r =>
    have h' : (decide (r.length < 12) && isL c && r.all fun k => isL k || isF k) = true := h
    simp only [Bool.and_eq_true] at h'
    exact ⟨c, r, rfl, h'.1.2⟩
noncomputable def stopN (rest : List Nat) : Prop := ∀ c r, rest = c :: r → isN c = false
noncomputable def spRN (mg : Str → Option Value) : SpD := fun ds M Q => ∃ (a dx : Addr) (cs : List Nat) (i n : Nat) (nm rest : List Nat), ds = [.ref a] ∧ RD mg M a dx cs i n ∧ i ≤ cs.length ∧ cs.length ≤ 100000 ∧ nameL nm = true ∧ cs.drop i = nm ++ rest ∧ stopN rest ∧
  Q (.str (tx nm)) (updM M a (.ins (cl mg "Reader") dx (rf cs (i + nm.length) n)))
theorem ok_rn (T : Txt K mg) : FnM P w K mg base (cl mg "Reader") 4 "read_name" ["self"] (spRN mg) := by
  have F_Reader_sign_here := ok_here (P := P) (w := w) (base := base) T
  have F_is_figure := ok_figure (P := P) (w := w) (base := base) T
  have F_is_letter := ok_letter (P := P) (w := w) (base := base) T
  have F_is_name := ok_nm (P := P) (w := w) (base := base) T
  refine def_okM T.f_Reader_read_name sc_Reader_read_name (fun ds M Q h => ?_) fun f cdv A outer s H E hr => ⟨_, (ss_cons (s_set (i := 1) sc_Reader_read_name.nd (d_fld T.c_Reader T.a_Reader_at (d_var 0)))
 (ss_cons (s_while PassesOwn.never (PW.pt (dw_or (dt_val (d_call F_is_letter (hr.mono (by (first | lia | omega))) (a_cons (d_meth0 T.c_Reader F_Reader_sign_here (hr.mono (by (first | lia | omega))) (d_var 0)) a_nil))) (dw_or1 (dt_val (d_call F_is_figure (hr.mono (by (first | lia | omega))) (a_cons (d_meth0 T.c_Reader F_Reader_sign_here (hr.mono (by (first | lia | omega))) (d_var 0)) a_nil)))))) (ss_one (s_fldAug T.c_Reader T.a_Reader_at (d_var 0) d_int)))
 (ss_cons (s_set (i := 2) sc_Reader_read_name.nd (d_sl sd_sl (d_fld T.c_Reader T.a_Reader_text (d_var 0)) (o_some (d_var 1)) (o_some (d_fld T.c_Reader T.a_Reader_at (d_var 0)))))
 (ss_cons (s_if (dt_not (dt_val (d_call F_is_name (hr.mono (by (first | lia | omega))) (a_cons (d_var 2) a_nil)))) (ss_one s_never) ss_nil)
 (ss_one (s_ret (d_var 2))))))), fun ds M Q h => ?_⟩
  · obtain ⟨a, dx, cs, i, n, nm, rest, rfl, _⟩ := h; rfl
  · obtain ⟨a, dx, cs, i, n, nm, rest, rfl, ha, hi, hl, hnm, he, hst, q⟩ := h
    obtain ⟨r1, r2⟩ := run_slice hi he
    refine ⟨a, dx, _, _, rfl, ha, rf_lat cs i n, ?_⟩
    refine ⟨fun m τ M' => ∃ j : Nat, m = i + nm.length - j ∧ i ≤ j ∧ j ≤ i + nm.length ∧ M' = updM M a (.ins (cl mg "Reader") dx (rf cs j n)) ∧ τ = [some (.ref a), some (.int (i : Nat)), none], ⟨_, i, rfl, Nat.le_refl _, by (first | lia | omega), (updM_self ha).symm, rfl⟩, ?_⟩
    rintro m τ M' ⟨j, rfl, h1, h2, rfl, rfl⟩
    have hno : (rf cs j n).lookup ("sign_here" : Str) = none := rf_no cs j n (by decide +kernel) (by decide +kernel) (by decide +kernel)
    have hsc := scan he (name_all hnm) hst h1 h2
    rw [any_or] at hsc
    have hgo : j < i + nm.length → ∃ m', m' < i + nm.length - j ∧ ∃ j2 : Nat, m' = i + nm.length - j2 ∧ i ≤ j2 ∧ j2 ≤ i + nm.length ∧ updM (updM M a (.ins (cl mg "Reader") dx (rf cs j n))) a (.ins (cl mg "Reader") dx (putFD "at" (.int ((j : Int) + 1)) (rf cs j n))) = updM M a (.ins (cl mg "Reader") dx (rf cs j2 n)) ∧ [some (D.ref a), some (.int (i : Nat)), none] = [some (D.ref a), some (.int (i : Nat)), none] := fun hj => by
      have e : putFD "at" (.int ((j : Int) + 1)) (rf cs j n) = rf cs (j + 1) n := rf_at cs j n (j + 1)
      exact ⟨i + nm.length - (j + 1), by (first | lia | omega), j + 1, rfl, by (first | lia | omega), by (first | lia | omega), by rw [e, updM_upd], rfl⟩
    refine ⟨a, dx, _, rfl, updM_same, hno, a, dx, cs, j, n, rfl, updM_same, by (first | lia | omega), hl, ?_⟩
    refine ⟨_, rfl, by rw [List.length_take]; (first | lia | omega), ?_⟩
    cases b1 : ((cs.drop j).take 1).any isL with
    | true =>
      rw [b1, Bool.true_or] at hsc
      have hj : j < i + nm.length := by simpa using hsc.symm
      exact ⟨a, dx, _, (j : Int), rfl, updM_same, rf_lat cs j n, 1, dx, _, rfl, updM_same, by show 3 < 1000; decide, hgo hj⟩
    | false =>
      rw [b1, Bool.false_or] at hsc
      refine ⟨a, dx, _, rfl, updM_same, hno, a, dx, cs, j, n, rfl, updM_same, by (first | lia | omega), hl, ?_⟩
      refine ⟨_, rfl, by rw [List.length_take]; (first | lia | omega), ?_⟩
      rw [hsc]
      show if decide (j < i + nm.length) = true then _ else _
      by_cases hj : j < i + nm.length
      · rw [decide_eq_true hj, if_pos rfl]
        exact ⟨a, dx, _, (j : Int), rfl, updM_same, rf_lat cs j n, 1, dx, _, rfl, updM_same, by show 3 < 1000; decide, hgo hj⟩
      · rw [decide_eq_false hj, if_neg Bool.false_ne_true]
        have ej : j = i + nm.length := by (first | lia | omega)
        subst ej
        refine ⟨a, dx, _, _, rfl, updM_same, rf_text cs _ n, a, dx, _, _, rfl, updM_same, rf_lat cs _ n, ?_⟩
        show (tx cs).length ≤ sizeLine ∧ _
        refine ⟨len_ok hl, ?_⟩
        rw [r1]
        exact ⟨nm, rfl, hnm, _, Sub.refl _, q⟩
/-! ### trees as they are written -/
mutual
noncomputable def enc : Tree → List Nat
  | .block n ps => n.cps.toList ++ encP ps
  | .blank k => 63 :: figs k
noncomputable def encP : List Tree → List Nat
  | [] => []
  | p :: ps => 40 :: (enc p ++ encT ps)
noncomputable def encT : List Tree → List Nat
  | [] => [41]
  | p :: ps => 44 :: (enc p ++ encT ps)
end
mutual
noncomputable def Tree.wf : Tree → Prop
  | .block n ps => nameL n.cps.toList = true ∧ ps.length ≤ 9 ∧ Tree.wfs ps
  | .blank k => 1 ≤ k ∧ k ≤ 10 ^ 9
noncomputable def Tree.wfs : List Tree → Prop
  | [] => True
  | t :: ts => t.wf ∧ Tree.wfs ts
end
noncomputable def stopR (rest : List Nat) : Prop := ∀ c r, rest = c :: r → c = 44 ∨ c = 41
theorem stopR.n {rest : List Nat} (h : stopR rest) : stopN rest := fun c r e => by
  rcases h c r e with rfl | rfl <;> rfl
theorem stopR.f {rest : List Nat} (h : stopR rest) : stopF rest := fun c r e => by
  rcases h c r e with rfl | rfl <;> rfl
theorem encT_stop (ps : List Tree) (rest : List Nat) : stopR (encT ps ++ rest) := fun c r e => by
  cases ps with
  | nil => rw [encT] at e; exact .inr (List.cons.inj e).1.symm
  | cons p ps => rw [encT] at e; exact .inl (List.cons.inj e).1.symm
theorem encP_stop (ps : List Tree) {rest : List Nat} (h : stopR rest) : stopN (encP ps ++ rest) := by
  cases ps with
  | nil => rw [encP, List.nil_append]; exact h.n
  | cons p ps => rw [encP]; intro c r e; have := (List.cons.inj e).1; subst this; rfl
theorem drop_step {cs a b : List Nat} {i : Nat} (hi : i ≤ cs.length) (h : cs.drop i = a ++ b) : cs.drop (i + a.length) = b ∧ i + a.length ≤ cs.length := by
  have hl : a.length + b.length = cs.length - i := by
    have := congrArg List.length h
    rw [List.length_drop, List.length_append] at this
    (first | lia | omega)
  refine ⟨?_, by (first | lia | omega)⟩
  rw [← List.drop_drop, h, List.drop_left]
theorem take1 {cs a : List Nat} {c : Nat} {i : Nat} (h : cs.drop i = c :: a) : (cs.drop i).take 1 = [c] := by rw [h]; rfl
noncomputable def spRT (mg : Str → Option Value) (n : Nat) : SpD := fun ds M Q => ∃ (a dx : Addr) (cs : List Nat) (i kn dep : Nat) (t : Tree) (rest : List Nat), ds = [.ref a, .int (dep : Nat)] ∧ t.depth ≤ n ∧ RD mg M a dx cs i kn ∧ i ≤ cs.length ∧ cs.length ≤ 100000 ∧ cs.drop i = enc t ++ rest ∧ stopR rest ∧ t.wf ∧ kn + t.knots ≤ 200 ∧ dep + t.depth ≤ 31 ∧
  Q t.d (updM M a (.ins (cl mg "Reader") dx (rf cs (i + (enc t).length) (kn + t.knots))))
noncomputable def spRP (mg : Str → Option Value) (n : Nat) : SpD := fun ds M Q => ∃ (a dx : Addr) (cs : List Nat) (i kn dep : Nat) (p : Tree) (ps : List Tree) (rest : List Nat), ds = [.ref a, .int (dep : Nat)] ∧ Tree.depths (p :: ps) ≤ n ∧ RD mg M a dx cs i kn ∧ i ≤ cs.length ∧ cs.length ≤ 100000 ∧ cs.drop i = enc p ++ (encT ps ++ rest) ∧ (p :: ps).length ≤ 9 ∧ Tree.wfs (p :: ps) ∧ kn + Tree.knotss (p :: ps) ≤ 200 ∧ dep + Tree.depths (p :: ps) ≤ 31 ∧
  Q (.tup ((p :: ps).map Tree.d)) (updM M a (.ins (cl mg "Reader") dx (rf cs (i + (enc p ++ encT ps).length) (kn + Tree.knotss (p :: ps)))))
theorem ok_rp (T : Txt K mg) {k n : Nat} (hk : 1 ≤ k) (F_Reader_read_tree : FnM P w K mg base (cl mg "Reader") k "read_tree" ["self", "depth"] (spRT mg n)) : FnM P w K mg base (cl mg "Reader") (k + 1) "read_parts" ["self", "depth"] (spRP mg n) := by
  have m_len := T.m_len
  have m_tuple := T.m_tuple
  obtain ⟨t_MOST_PARTS, g_MOST_PARTS⟩ := T.g_MOST_PARTS
  have F_Reader_sign_here := ok_here (P := P) (w := w) (base := base) T
  refine def_okM T.f_Reader_read_parts sc_Reader_read_parts (fun ds M Q h => ?_) fun f cdv A outer s H E hr => ⟨_, (ss_cons (s_set (i := 2) sc_Reader_read_parts.nd (d_lst (a_cons (d_meth T.c_Reader F_Reader_read_tree (hr.mono (by (first | lia | omega))) (d_var 0) (a_cons (d_var 1) a_nil)) a_nil)))
 (ss_cons (s_while PassesOwn.never (PW.pt (dw_and (dt_cmp (od_eq hr) (d_meth0 T.c_Reader F_Reader_sign_here (hr.mono (by (first | lia | omega))) (d_var 0)) d_str (nomark _)) (dw_and1 (dt_cmp od_lt (d_callB cd_len rfl m_len bt_len (a_cons (d_var 2) a_nil)) (d_glob_int rfl g_MOST_PARTS ⟨_, rfl⟩) (nomark _))))) (ss_cons (s_fldAug T.c_Reader T.a_Reader_at (d_var 0) d_int)
 (ss_one (s_expr (d_bm PySem.F.plainAttrs_list PySem.F.slot_list_append PySem.F.type_list_append md_append (d_var 2) (a_cons (d_meth T.c_Reader F_Reader_read_tree (hr.mono (by (first | lia | omega))) (d_var 0) (a_cons (d_var 1) a_nil)) a_nil))))))
 (ss_cons (s_if (dt_cmp (od_ne hr) (d_meth0 T.c_Reader F_Reader_sign_here (hr.mono (by (first | lia | omega))) (d_var 0)) d_str (nomark _)) (ss_one s_never) ss_nil)
 (ss_cons (s_fldAug T.c_Reader T.a_Reader_at (d_var 0) d_int)
 (ss_one (s_ret (d_callTy cd_tuple rfl m_tuple bt_tuple (a_cons (d_var 2) a_nil)))))))), fun ds M Q h => ?_⟩
  · obtain ⟨a, dx, cs, i, kn, dep, p, ps, rest, rfl, _⟩ := h; rfl
  · obtain ⟨a, dx, cs, i, kn, dep, p, ps, rest, rfl, hd, ha, hi, hl, he, h9, hw, hkn, hdp, q⟩ := h
    rw [Tree.depths] at hd hdp
    rw [Tree.knotss] at hkn q
    rw [Tree.wfs] at hw
    have hrt : ∀ j m : Nat, (rf cs j m).lookup ("read_tree" : Str) = none := fun j m => rf_no cs j m (by decide +kernel) (by decide +kernel) (by decide +kernel)
    have hsh : ∀ j m : Nat, (rf cs j m).lookup ("sign_here" : Str) = none := fun j m => rf_no cs j m (by decide +kernel) (by decide +kernel) (by decide +kernel)
    refine ⟨a, dx, _, rfl, ha, hrt i kn, a, dx, cs, i, kn, dep, p, encT ps ++ rest, rfl, by (first | lia | omega), ha, hi, hl, he, encT_stop ps rest, hw.1, by (first | lia | omega), by (first | lia | omega), ?_⟩
    obtain ⟨s1, s2⟩ := drop_step hi he
    show ∀ lp, _ → _
    intro lp hlp
    obtain ⟨lpa, hlp0⟩ := upd_none hlp
    have q' : Q (.tup ((p :: ps).map Tree.d)) (updM M a (.ins (cl mg "Reader") dx (rf cs (i + (enc p).length + (encT ps).length) (kn + p.knots + Tree.knotss ps)))) := by
      rw [List.length_append, ← Nat.add_assoc, ← Nat.add_assoc] at q; exact q
    dsimp only [DL.hName]
    refine ⟨fun m τ M' => ∃ (done todo : List Tree) (j k2 : Nat), m = todo.length ∧ p :: ps = done ++ todo ∧ M' lp = some (.lst (done.map Tree.d)) ∧ RD mg M' a dx cs j k2 ∧ (∀ c o, c ≠ a → M c = some o → M' c = some o) ∧ cs.drop j = encT todo ++ rest ∧ j ≤ cs.length ∧ j + (encT todo).length = i + (enc p).length + (encT ps).length ∧ k2 + Tree.knotss todo = kn + p.knots + Tree.knotss ps ∧ Tree.wfs todo ∧ Tree.depths todo ≤ Tree.depths ps ∧
      τ = [some (.ref a), some (.int (dep : Nat)), some (.ref lp)],
      ⟨_, [p], ps, i + (enc p).length, kn + p.knots, rfl, rfl, updM_same, by show updM _ lp _ a = _; rw [updM_ne (Ne.symm lpa), updM_same], fun c o hc e => by rw [updM_ne (by intro z; subst z; rw [hlp0] at e; cases e), updM_ne hc]; exact e, s1, s2, rfl, rfl, hw.2, Nat.le_refl _, rfl⟩, ?_⟩
    rintro m τ M' ⟨done, todo, j, k2, rfl, hsp, hl', ha', hk', hdr, hj, hjl, hkk, hwt, hdt, rfl⟩
    have hne : lp ≠ a := lpa
    have hlU : ∀ o, updM M' a o lp = some (.lst (done.map Tree.d)) := fun o => by rw [updM_ne hne]; exact hl'
    refine ⟨a, dx, _, rfl, ha', hsh j k2, a, dx, cs, j, k2, rfl, ha', hj, hl, ?_⟩
    have hlen : done.length + todo.length ≤ 9 := by
      have := congrArg List.length hsp
      rw [List.length_append] at this
      (first | lia | omega)
    cases todo with
    | nil =>
      have hd2 : cs.drop j = 41 :: rest := by rw [hdr, encT]; rfl
      rw [take1 hd2]
      refine ⟨a, dx, _, rfl, ha', hsh j k2, a, dx, cs, j, k2, rfl, ha', hj, hl, ?_⟩
      rw [take1 hd2]
      refine ⟨a, dx, _, (j : Int), rfl, ha', rf_lat cs j k2, 1, dx, _, rfl, ha', by show 3 < 1000; decide, ?_⟩
      have e : putFD "at" (.int ((j : Int) + 1)) (rf cs j k2) = rf cs (j + 1) k2 := rf_at cs j k2 (j + 1)
      rw [e]
      rw [List.append_nil] at hsp
      refine ⟨_, hlU _, ?_⟩
      rw [← hsp]
      rw [encT] at hjl
      rw [Tree.knotss] at hkk
      refine ⟨_, fun c o ec => ?_, q'⟩
      by_cases z : c = a
      · subst z
        rw [updM_same] at ec ⊢
        rw [← ec]
        have h1 : j + 1 = i + (enc p).length + (encT ps).length := hjl
        have h2 : k2 = kn + p.knots + Tree.knotss ps := by (first | lia | omega)
        rw [h1, h2]
      · rw [updM_ne z] at ec ⊢
        exact hk' c o z ec
    | cons u todo =>
      have hd2 : cs.drop j = 44 :: (enc u ++ (encT todo ++ rest)) := by rw [hdr, encT]; simp
      rw [take1 hd2]
      refine ⟨_, hl', ?_⟩
      show if decide ((((done.map Tree.d).length : Nat) : Int) < 9) = true then _ else _
      rw [List.length_map, decide_eq_true (show ((done.length : Nat) : Int) < 9 by rw [List.length_cons] at hlen; (first | lia | omega)), if_pos rfl]
      refine ⟨a, dx, _, (j : Int), rfl, ha', rf_lat cs j k2, 1, dx, _, rfl, ha', by show 3 < 1000; decide, ?_⟩
      have e : putFD "at" (.int ((j : Int) + 1)) (rf cs j k2) = rf cs (j + 1) k2 := rf_at cs j k2 (j + 1)
      rw [e]
      have hj1 := drop_step (a := [44]) (b := enc u ++ (encT todo ++ rest)) hj hd2
      obtain ⟨g1, g2⟩ := hj1
      have g1' : cs.drop (j + 1) = enc u ++ (encT todo ++ rest) := g1
      have g2' : j + 1 ≤ cs.length := g2
      obtain ⟨g3, g4⟩ := drop_step g2' g1'
      rw [encT, List.length_cons, List.length_append] at hjl
      rw [Tree.knotss] at hkk
      rw [Tree.wfs] at hwt
      rw [Tree.depths] at hdt
      refine ⟨⟨rfl, _, hlU _⟩, a, dx, _, rfl, updM_same, hrt (j + 1) k2, a, dx, cs, j + 1, k2, dep, u, encT todo ++ rest, rfl, by (first | lia | omega), updM_same, g2', hl, g1', encT_stop todo rest, hwt.1, by (first | lia | omega), by (first | lia | omega), ?_⟩
      rw [updM_upd]
      refine ⟨_, hlU _, by rw [List.length_map]; exact small1000 (by (first | lia | omega)), todo.length, by rw [List.length_cons]; (first | lia | omega), done ++ [u], todo, j + 1 + (enc u).length, k2 + u.knots, rfl, by rw [hsp]; simp, by rw [updM_same, List.map_append]; rfl, ?_, fun c o hc ec => ?_, g3, g4, by (first | lia | omega), by (first | lia | omega), hwt.2, by (first | lia | omega), rfl⟩
      · show updM _ lp _ a = _
        rw [updM_ne (Ne.symm hne), updM_same]
      · rw [updM_ne (by intro z; subst z; rw [hlp0] at ec; cases ec), updM_ne hc]; exact hk' c o hc ec
noncomputable def spRB (mg : Str → Option Value) (n : Nat) : SpD := fun ds M Q => ∃ (a dx : Addr) (cs : List Nat) (i kn dep : Nat) (nm : Str) (ps : List Tree) (rest : List Nat), ds = [.ref a, .int (dep : Nat)] ∧ Tree.depths ps ≤ n ∧ RD mg M a dx cs i kn ∧ i ≤ cs.length ∧ cs.length ≤ 100000 ∧ cs.drop i = enc (.block nm ps) ++ rest ∧ stopR rest ∧ (Tree.block nm ps).wf ∧ kn + Tree.knotss ps ≤ 200 ∧ dep + 1 + Tree.depths ps ≤ 31 ∧
  Q (Tree.block nm ps).d (updM M a (.ins (cl mg "Reader") dx (rf cs (i + (enc (.block nm ps)).length) (kn + Tree.knotss ps))))
theorem ok_rb (T : Txt K mg) {k n : Nat} (hk : 5 ≤ k) (F_Reader_read_parts : FnM P w K mg base (cl mg "Reader") k "read_parts" ["self", "depth"] (spRP mg n)) : FnM P w K mg base (cl mg "Reader") (k + 1) "read_block" ["self", "depth"] (spRB mg n) := by
  have F_Reader_sign_here := ok_here (P := P) (w := w) (base := base) T
  have F_Reader_read_name := ok_rn (P := P) (w := w) (base := base) T
  refine def_okM T.f_Reader_read_block sc_Reader_read_block (fun ds M Q h => ?_) fun f cdv A outer s H E hr => ⟨_, (ss_cons (s_set (i := 2) sc_Reader_read_block.nd (d_meth0 T.c_Reader F_Reader_read_name (hr.mono (by (first | lia | omega))) (d_var 0)))
 (ss_cons (s_if (dt_cmp (od_ne hr) (d_meth0 T.c_Reader F_Reader_sign_here (hr.mono (by (first | lia | omega))) (d_var 0)) d_str (nomark _)) (ss_one (s_ret (d_tup (a_cons d_str (a_cons (d_var 2) (a_cons (d_tup a_nil) a_nil)))))) ss_nil)
 (ss_cons (s_fldAug T.c_Reader T.a_Reader_at (d_var 0) d_int)
 (ss_one (s_ret (d_tup (a_cons d_str (a_cons (d_var 2) (a_cons (d_meth T.c_Reader F_Reader_read_parts (hr.mono (by (first | lia | omega))) (d_var 0) (a_cons (d_op od_add (d_var 1) d_int) a_nil)) a_nil))))))))), fun ds M Q h => ?_⟩
  · obtain ⟨a, dx, cs, i, kn, dep, nm, ps, rest, rfl, _⟩ := h; rfl
  · obtain ⟨a, dx, cs, i, kn, dep, nm, ps, rest, rfl, hd, ha, hi, hl, he, hst, hw, hkn, hdp, q⟩ := h
    rw [Tree.wf] at hw
    rw [enc, List.append_assoc] at he
    rw [enc, List.length_append, ← Nat.add_assoc] at q
    obtain ⟨s1, s2⟩ := drop_step hi he
    have hno : ∀ (j m : Nat), (rf cs j m).lookup ("sign_here" : Str) = none := fun j m => rf_no cs j m (by decide +kernel) (by decide +kernel) (by decide +kernel)
    have hrn : (rf cs i kn).lookup ("read_name" : Str) = none := rf_no cs i kn (by decide +kernel) (by decide +kernel) (by decide +kernel)
    have hrp : ∀ (j m : Nat), (rf cs j m).lookup ("read_parts" : Str) = none := fun j m => rf_no cs j m (by decide +kernel) (by decide +kernel) (by decide +kernel)
    refine ⟨a, dx, _, rfl, ha, hrn, a, dx, cs, i, kn, nm.cps.toList, encP ps ++ rest, rfl, ha, hi, hl, hw.1, he, encP_stop ps hst, ?_⟩
    rw [tx_eta]
    refine ⟨a, dx, _, rfl, updM_same, hno _ _, a, dx, cs, i + nm.cps.toList.length, kn, rfl, updM_same, s2, hl, ?_⟩
    cases ps with
    | nil =>
      rw [encP, List.nil_append] at s1
      have hsig : ¬ tx ((cs.drop (i + nm.cps.toList.length)).take 1) = Str.ofString "(" := by
        rw [s1]
        cases rest with
        | nil => show ¬ tx [] = Str.ofString "("; decide +kernel
        | cons c r =>
          show ¬ tx [c] = Str.ofString "("
          rcases hst c r rfl with rfl | rfl <;> decide +kernel
      show if (!decide (tx ((cs.drop (i + nm.cps.toList.length)).take 1) = Str.ofString "(")) = true then _ else _
      rw [decide_eq_false hsig]
      rw [encP, Tree.knotss] at q
      exact ⟨_, Sub.refl _, q⟩
    | cons p ps =>
      rw [encP] at s1 q
      have hd2 : cs.drop (i + nm.cps.toList.length) = 40 :: (enc p ++ (encT ps ++ rest)) := by rw [s1]; simp
      rw [take1 hd2]
      refine ⟨a, dx, _, ((i + nm.cps.toList.length : Nat) : Int), rfl, updM_same, rf_lat cs _ kn, 1, dx, _, rfl, updM_same, by show 3 < 1000; decide, ?_⟩
      have e : putFD "at" (.int (((i + nm.cps.toList.length : Nat) : Int) + 1)) (rf cs (i + nm.cps.toList.length) kn) = rf cs (i + nm.cps.toList.length + 1) kn := rf_at cs _ kn (i + nm.cps.toList.length + 1)
      rw [e, updM_upd]
      obtain ⟨g1, g2⟩ := drop_step (a := [40]) (b := enc p ++ (encT ps ++ rest)) s2 hd2
      have g1' : cs.drop (i + nm.cps.toList.length + 1) = enc p ++ (encT ps ++ rest) := g1
      have g2' : i + nm.cps.toList.length + 1 ≤ cs.length := g2
      refine ⟨a, dx, _, rfl, updM_same, hrp _ _, a, dx, cs, i + nm.cps.toList.length + 1, kn, dep + 1, p, ps, rest, rfl, hd, updM_same, g2', hl, g1', hw.2.1, hw.2.2, hkn, hdp, ?_⟩
      rw [updM_upd]
      rw [Tree.d, ds_map] at q
      refine ⟨_, Sub.refl _, ?_⟩
      have el : i + nm.cps.toList.length + (40 :: (enc p ++ encT ps)).length = i + nm.cps.toList.length + 1 + (enc p ++ encT ps).length := by rw [List.length_cons]; (first | lia | omega)
      rw [el] at q
      exact q
theorem ok_rt (T : Txt K mg) : ∀ n : Nat, FnM P w K mg base (cl mg "Reader") (3 * n + 5) "read_tree" ["self", "depth"] (spRT mg n)
  | 0 => (fnM_none T.f_Reader_read_tree fun ds M Q ⟨a, dx, cs, i, kn, dep, t, rest, _, h, _⟩ => by have := depth_pos t; (first | lia | omega)).mono (by (first | lia | omega))
  | n + 1 => by
    have F_Reader_sign_here := ok_here (P := P) (w := w) (base := base) T
    have F_Reader_read_blank := ok_bl (P := P) (w := w) (base := base) T
    have F_Reader_begin_knot := ok_begin (P := P) (w := w) (base := base) T
    have F_is_letter := ok_letter (P := P) (w := w) (base := base) T
    have F_Reader_read_block := ok_rb T (by (first | lia | omega)) (ok_rp T (by (first | lia | omega)) (ok_rt T n))
    refine (def_okM (k := 3 * n + 7) T.f_Reader_read_tree sc_Reader_read_tree (fun ds M Q h => ?_) fun f cdv A outer s H E hr => ⟨_, (ss_cons (s_set (i := 2) sc_Reader_read_tree.nd (d_meth0 T.c_Reader F_Reader_sign_here (hr.mono (by (first | lia | omega))) (d_var 0)))
 (ss_cons (s_if (PW.pt (dw_and (dt_cmp (od_ne hr) (d_var 2) d_str (nomark _)) (dw_and1 (dt_not (dt_val (d_call F_is_letter (hr.mono (by (first | lia | omega))) (a_cons (d_var 2) a_nil))))))) (ss_one s_never) ss_nil)
 (ss_cons (s_expr (d_meth T.c_Reader F_Reader_begin_knot (hr.mono (by (first | lia | omega))) (d_var 0) (a_cons (d_var 1) a_nil)))
 (ss_cons (s_if (dt_cmp (od_eq hr) (d_var 2) d_str (nomark _)) (ss_one (s_ret (d_meth0 T.c_Reader F_Reader_read_blank (hr.mono (by (first | lia | omega))) (d_var 0)))) ss_nil)
 (ss_one (s_ret (d_meth T.c_Reader F_Reader_read_block (hr.mono (by (first | lia | omega))) (d_var 0) (a_cons (d_var 1) a_nil)))))))), fun ds M Q h => ?_⟩).mono (by (first | lia | omega))
    · obtain ⟨a, dx, cs, i, kn, dep, t, rest, rfl, _⟩ := h; rfl
    · obtain ⟨a, dx, cs, i, kn, dep, t, rest, rfl, hd, ha, hi, hl, he, hst, hw, hkn, hdp, q⟩ := h
      have hno : (rf cs i kn).lookup ("sign_here" : Str) = none := rf_no cs i kn (by decide +kernel) (by decide +kernel) (by decide +kernel)
      have hnb : (rf cs i kn).lookup ("begin_knot" : Str) = none := rf_no cs i kn (by decide +kernel) (by decide +kernel) (by decide +kernel)
      have hrl : (rf cs i (kn + 1)).lookup ("read_blank" : Str) = none := rf_no cs i (kn + 1) (by decide +kernel) (by decide +kernel) (by decide +kernel)
      have hrk : (rf cs i (kn + 1)).lookup ("read_block" : Str) = none := rf_no cs i (kn + 1) (by decide +kernel) (by decide +kernel) (by decide +kernel)
      have hdpos := depth_pos t
      have hkpos := knots_pos t
      refine ⟨a, dx, _, rfl, ha, hno, a, dx, cs, i, kn, rfl, ha, hi, hl, ?_⟩
      cases t with
      | blank k =>
        rw [enc] at he q
        have hd2 : cs.drop i = 63 :: (figs k ++ rest) := by rw [he]; rfl
        rw [take1 hd2]
        have hil : i < cs.length := by
          have := congrArg List.length hd2
          rw [List.length_drop, List.length_cons] at this
          (first | lia | omega)
        refine ⟨a, dx, _, rfl, ha, hnb, a, dx, cs, i, kn, dep, rfl, ha, by show kn < 200; (first | lia | omega), by (first | lia | omega), ?_⟩
        obtain ⟨g1, _⟩ := drop_step (a := [63]) (b := figs k ++ rest) hi hd2
        refine ⟨a, dx, _, rfl, updM_same, hrl, a, dx, cs, i, kn + 1, k, rest, rfl, updM_same, hil, hl, hw, g1, hst.f, ?_⟩
        rw [updM_upd]
        refine ⟨_, Sub.refl _, ?_⟩
        rw [List.length_cons, Nat.add_comm (figs k).length 1, ← Nat.add_assoc] at q
        exact q
      | block nm ps =>
        have hw' : nameL nm.cps.toList = true ∧ ps.length ≤ 9 ∧ Tree.wfs ps := by rw [Tree.wf] at hw; exact hw
        obtain ⟨c, r, hcr, hLc⟩ := name_head hw'.1
        have hd2 : cs.drop i = c :: (r ++ encP ps ++ rest) := by rw [he, enc, hcr]; rfl
        rw [take1 hd2]
        have hq : ¬ tx [c] = Str.ofString "?" := fun z => by
          have : [c] = [63] := tx_inj z
          cases this
          cases hLc
        show if (!decide (tx [c] = Str.ofString "?")) = true then _ else _
        rw [decide_eq_false hq]
        refine ⟨[c], rfl, Nat.le_refl 1, ?_⟩
        have ec : [c].any isL = true := by simpa using hLc
        rw [ec]
        refine ⟨a, dx, _, rfl, ha, hnb, a, dx, cs, i, kn, dep, rfl, ha, by (first | lia | omega), by (first | lia | omega), ?_⟩
        show if decide (tx [c] = Str.ofString "?") = true then _ else _
        rw [decide_eq_false hq, if_neg Bool.false_ne_true]
        rw [Tree.depth] at hd hdp
        rw [Tree.knots] at hkn q
        refine ⟨a, dx, _, rfl, updM_same, hrk, a, dx, cs, i, kn + 1, dep, nm, ps, rest, rfl, by (first | lia | omega), updM_same, hi, hl, he, hst, hw, by (first | lia | omega), by (first | lia | omega), ?_⟩
        rw [updM_upd]
        refine ⟨_, Sub.refl _, ?_⟩
        rw [show kn + (Tree.knotss ps + 1) = kn + 1 + Tree.knotss ps by (first | lia | omega)] at q
        exact q
noncomputable def spRead : SpD := fun ds M Q => ∃ t : Tree, ds = [.str (tx (enc t))] ∧ (enc t).length ≤ 100000 ∧ t.wf ∧ t.knots ≤ 200 ∧ t.depth ≤ 30 ∧ Q t.d M
theorem ok_read (T : Txt K mg) : FnD P w K mg base 97 "read" ["text"] spRead := by
  have F_Reader___init__ := ok_init (P := P) (w := w) (base := base) T
  have F_Reader_sign_here := ok_here (P := P) (w := w) (base := base) T
  have F_Reader_read_tree := ok_rt (P := P) (w := w) (base := base) T 30
  refine def_ok T.f_read sc_read (fun ds M Q h => ?_) fun f cdv A outer s H E hr => ⟨_, (ss_cons (s_set (i := 1) sc_read.nd (d_make F_Reader___init__ (hr.mono (by (first | lia | omega))) T.n_Reader (a_cons (d_var 0) a_nil)))
 (ss_cons (s_set (i := 2) sc_read.nd (d_meth T.c_Reader F_Reader_read_tree (hr.mono (by (first | lia | omega))) (d_var 1) (a_cons d_int a_nil)))
 (ss_cons (s_if (dt_cmp (od_ne hr) (d_meth0 T.c_Reader F_Reader_sign_here (hr.mono (by (first | lia | omega))) (d_var 1)) d_str (nomark _)) (ss_one s_never) ss_nil)
 (ss_one (s_ret (d_var 2)))))), fun ds M Q h => ?_⟩
  · obtain ⟨t, rfl, _⟩ := h; rfl
  · obtain ⟨t, rfl, hl, hw, hk, hd, q⟩ := h
    show ∀ x dx, M x = none → _
    intro x dx hx
    refine ⟨x, dx, enc t, rfl, updM_same, rfl, ?_⟩
    have h1 : (rf (enc t) 0 0).lookup ("read_tree" : Str) = none := rf_no _ 0 0 (by decide +kernel) (by decide +kernel) (by decide +kernel)
    have h2 : (rf (enc t) (0 + (enc t).length) (0 + t.knots)).lookup ("sign_here" : Str) = none := rf_no _ _ _ (by decide +kernel) (by decide +kernel) (by decide +kernel)
    rw [updM_upd]
    refine ⟨x, dx, _, rfl, updM_same, h1, x, dx, enc t, 0, 0, 1, t, [], rfl, by (first | lia | omega), updM_same, Nat.zero_le _, hl, by rw [List.drop_zero, List.append_nil], (fun c r e => nomatch e), hw, by (first | lia | omega), by (first | lia | omega), ?_⟩
    rw [updM_upd]
    refine ⟨x, dx, _, rfl, updM_same, h2, x, dx, enc t, 0 + (enc t).length, 0 + t.knots, rfl, updM_same, by (first | lia | omega), hl, ?_⟩
    rw [Nat.zero_add, List.drop_length]
    exact ⟨M, Sub.new hx, q⟩
noncomputable def spDraw : SpD := fun ds M Q => ∃ c k m : Int, ds = [.int c, .int k, .int m] ∧ (0 ≤ k ∧ k ≤ 1000) ∧ 0 < m ∧ ∀ r : Int, 0 ≤ r → r < m → Q (.int r) M
theorem ok_draw (T : Txt K mg) : FnD P w K mg base 1 "_law_draw" ["cell", "k", "many"] spDraw := by
  refine def_ok T.f__law_draw sc__law_draw (fun ds M Q h => ?_) fun f cdv A outer s H E hr => ⟨_, (ss_cons (s_set (i := 3) sc__law_draw.nd (d_op od_mod (d_op od_mulS (d_op od_add (d_var 0) d_int) (d_op od_add d_int (d_op od_mulS (d_op od_mulS d_int (d_var 1)) (d_var 1)))) d_int))
 (ss_one (s_ret (d_op od_mod (d_op od_fdiv (d_op od_mod (d_op od_mulS (d_var 3) (d_var 3)) d_int) d_int) (d_var 2))))), fun ds M Q h => ?_⟩
  · obtain ⟨c, k, m, rfl, _⟩ := h; rfl
  · obtain ⟨c, k, m, rfl, hk, hm, q⟩ := h
    have hk2 : 0 ≤ k * k := Int.mul_nonneg hk.1 hk.1
    have hk3 : k * k ≤ 1000 * 1000 := Int.mul_le_mul hk.2 hk.2 hk.1 (by decide)
    have hk4 : 7919 * k * k = 7919 * (k * k) := Int.mul_assoc _ _ _
    have n0 : 0 ≤ (c + 1) * (48271 + 7919 * k * k) % 2147483647 := Int.emod_nonneg _ (by decide)
    have n1 : (c + 1) * (48271 + 7919 * k * k) % 2147483647 < 2147483647 := Int.emod_lt_of_pos _ (by decide)
    refine ⟨.inl ⟨by decide, by decide⟩, .inr ⟨by (first | lia | omega), by (first | lia | omega)⟩, .inr ⟨by (first | lia | omega), by (first | lia | omega)⟩, by show (0 : Int) < 2147483647; decide, .inl ⟨Int.lt_of_lt_of_le (by decide) n0, Int.lt_trans n1 (by decide)⟩, by show (0 : Int) < 2147483629; decide, ⟨by decide, by decide⟩, hm, ?_⟩
    exact rt_done (q _ (Int.emod_nonneg _ (by (first | lia | omega))) (Int.emod_lt_of_pos _ hm))
/-- four texts of n signs, names but for their length -/
noncomputable def pv (cs : List Nat) : Bool := match cs with
  | [] => true
  | c :: r => isL c && r.all isN
theorem pv_snoc {cs : List Nat} {c : Nat} (h : pv cs = true) (hc : isN c = true) (h0 : cs = [] → isL c = true) : pv (cs ++ [c]) = true := by
  cases cs with
  | nil => show (isL c && ([] : List Nat).all isN) = true; rw [h0 rfl]; rfl
  | cons a r =>
    have h' : (isL a && r.all isN) = true := h
    show (isL a && (r ++ [c]).all isN) = true
    rw [Bool.and_eq_true] at h' ⊢
    refine ⟨h'.1, ?_⟩
    rw [List.all_append, h'.2]
    simp [hc]
theorem pv_name {cs : List Nat} (h : pv cs = true) (h1 : 1 ≤ cs.length) (h2 : cs.length ≤ 12) : nameL cs = true := by
  cases cs with
  | nil => simp at h1
  | cons c r =>
    have h' : (isL c && r.all isN) = true := h
    rw [Bool.and_eq_true] at h'
    show (decide (r.length < 12) && isL c && r.all fun k => isL k || isF k) = true
    rw [List.length_cons] at h2
    rw [decide_eq_true (show r.length < 12 by (first | lia | omega)), h'.1]
    exact h'.2
theorem some_26 : ((Str.ofString "abcdefghijklmnopqrstuvwxyz0123456789").cps.toList.take 26).all isL = true := by decide +kernel
theorem some_36 : (Str.ofString "abcdefghijklmnopqrstuvwxyz0123456789").cps.toList.all isN = true := by decide +kernel
noncomputable def NamesL (n : Nat) (xs : List D) : Prop := xs.length = 4 ∧ ∀ d ∈ xs, ∃ z : Str, d = .str z ∧ z.length = n ∧ pv z.cps.toList = true
noncomputable def NamesK (n k : Nat) (xs : List D) : Prop := xs.length = 4 ∧ ∀ (i : Nat) (d : D), xs[i]? = some d → ∃ z : Str, d = .str z ∧ z.length = n + (if i < k then 1 else 0) ∧ pv z.cps.toList = true
theorem NamesL.k0 {n : Nat} {xs : List D} (h : NamesL n xs) : NamesK n 0 xs := ⟨h.1, fun i d e => let ⟨z, e1, e2, e3⟩ := h.2 d (List.mem_of_getElem? e); ⟨z, e1, by rw [if_neg (Nat.not_lt_zero i)]; (first | lia | omega), e3⟩⟩
theorem NamesK.k4 {n : Nat} {xs : List D} (h : NamesK n 4 xs) : NamesL (n + 1) xs := ⟨h.1, fun d hd => by
  obtain ⟨i, hi, e⟩ := List.getElem_of_mem hd
  obtain ⟨z, e1, e2, e3⟩ := h.2 i d (by rw [List.getElem?_eq_getElem hi, e])
  rw [if_pos (by have := h.1; (first | lia | omega))] at e2
  exact ⟨z, e1, e2, e3⟩⟩
noncomputable def NamesV (xs : List D) : Prop := xs.length = 4 ∧ ∀ d ∈ xs, ∃ z : Str, d = .str z ∧ nameL z.cps.toList = true
theorem app_cps (z : Str) (c : Nat) : (z ++ (⟨#[c]⟩ : Str)).cps.toList = z.cps.toList ++ [c] := by
  show (z.cps ++ #[c]).toList = _
  simp
noncomputable def spNames : SpD := fun ds M Q => ∃ c : Int, ds = [.int c] ∧ ∀ l xs, M l = none → NamesV xs → Q (.ref l) (updM M l (.lst xs))
theorem ok_names (T : Txt K mg) (F__law_draw : FnD P w K mg base 1 "_law_draw" ["cell", "k", "many"] spDraw) : FnD P w K mg base 2 "_law_names" ["cell"] spNames := by
  have m_int := T.m_int
  have m_range := T.m_range
  refine def_ok T.f__law_names sc__law_names (fun ds M Q h => ?_) fun f cdv A outer s H E hr => ⟨_, (ss_cons (s_set (i := 1) sc__law_names.nd d_str)
 (ss_cons (s_set (i := 2) sc__law_names.nd (d_op od_add d_int (d_call F__law_draw (hr.mono (by (first | lia | omega))) (a_cons (d_var 0) (a_cons d_int (a_cons d_int a_nil))))))
 (ss_cons (s_set (i := 3) sc__law_names.nd (d_call F__law_draw (hr.mono (by (first | lia | omega))) (a_cons (d_var 0) (a_cons d_int (a_cons (d_var 2) a_nil)))))
 (ss_cons (s_set (i := 4) sc__law_names.nd (d_lst (a_cons d_str (a_cons d_str (a_cons d_str (a_cons d_str a_nil))))))
 (ss_cons (s_for1 PassesOwn.never rfl m_range (a_cons (d_var 2) a_nil) (g_name (i := 5) sc__law_names.nd) (ss_cons (s_set (i := 6) sc__law_names.nd (d_op od_add d_int (d_op od_mulS d_int (d_callTy cd_int rfl m_int bt_int (a_cons (d_cmp od_gt (d_var 5) d_int (nomark _)) a_nil)))))
 (ss_cons (s_set (i := 7) sc__law_names.nd (d_call F__law_draw (hr.mono (by (first | lia | omega))) (a_cons (d_var 0) (a_cons (d_op od_add d_int (d_var 5)) (a_cons (d_var 6) a_nil)))))
 (ss_cons (s_set (i := 8) sc__law_names.nd (d_callTy cd_int rfl m_int bt_int (a_cons (d_cmp (od_eq hr) (d_var 5) (d_var 3) (nomark _)) a_nil)))
 (ss_one (s_for1 PassesOwn.never rfl m_range (a_cons d_int a_nil) (g_name (i := 9) sc__law_names.nd) (ss_cons (s_set (i := 10) sc__law_names.nd (d_ix (d_var 1) (d_op od_mod (d_op od_add (d_var 7) (d_op od_mulS (d_var 9) (d_var 8))) (d_var 6))))
 (ss_one (s_asg (d_op od_add (d_ix (d_var 4) (d_var 9)) (d_var 10)) (g_sub (d_var 4) (d_var 9)))))))))))
 (ss_one (s_ret (d_var 4)))))))), fun ds M Q h => ?_⟩
  · obtain ⟨c, rfl, _⟩ := h; rfl
  · obtain ⟨c, rfl, q⟩ := h
    have hs36 := some_len
    have hs26 := some_26
    have hsN := some_36
    have hs37 : (Str.ofString "abcdefghijklmnopqrstuvwxyz0123456789").length ≤ sizeLine := by decide +kernel
    generalize Str.ofString "abcdefghijklmnopqrstuvwxyz0123456789" = SM at *
    refine ⟨c, 57, 12, rfl, ⟨by decide, by decide⟩, by decide, fun r0 h0 h1 => ?_⟩
    refine ⟨c, 58, _, rfl, ⟨by decide, by decide⟩, by (first | lia | omega), fun r1 h2 h3 => ?_⟩
    show ∀ l, M l = none → _
    intro l hl
    refine ⟨⟨by (first | lia | omega), by (first | lia | omega)⟩, ?_⟩
    refine ⟨fun j τ M' => ∃ (xs : List D) (v5 v6 v7 v8 v9 v10 : Option D), NamesL j xs ∧ τ = [some (.int c), some (.str SM), some (.int (1 + r0)), some (.int r1), some (.ref l), v5, v6, v7, v8, v9, v10] ∧ M' = updM M l (.lst xs), ⟨_, none, none, none, none, none, none, ⟨rfl, ?_⟩, rfl, rfl⟩, ?_, ?_⟩
    · intro d hd
      simp only [List.mem_cons, List.not_mem_nil, or_false] at hd
      rcases hd with rfl | rfl | rfl | rfl <;> exact ⟨_, rfl, rfl, rfl⟩
    · rintro j τ M' hj ⟨xs, v5, v6, v7, v8, v9, v10, hx, rfl, rfl⟩
      obtain ⟨many, hmany⟩ : ∃ m : Int, (26 + 10 * (if decide ((0 : Int) < (j : Int)) = true then 1 else 0) : Int) = m := ⟨_, rfl⟩
      have hm : 26 ≤ many ∧ many ≤ 36 := by rw [← hmany]; split <;> decide
      obtain ⟨st, hst⟩ : ∃ m : Int, (if decide ((j : Int) = r1) = true then 1 else 0 : Int) = m := ⟨_, rfl⟩
      have hs01 : 0 ≤ st ∧ st ≤ 1 := by rw [← hst]; split <;> decide
      refine ⟨.inl ⟨by decide, by decide⟩, c, 60 + (j : Int), (26 + 10 * (if decide ((0 : Int) < (j : Int)) = true then 1 else 0) : Int), rfl, ⟨by (first | lia | omega), by (first | lia | omega)⟩, by (first | lia | omega), fun r2 h4 h5 => ?_⟩
      rw [hmany] at h5
      refine ⟨⟨by (first | lia | omega), by (first | lia | omega)⟩, ?_⟩
      refine ⟨fun k τ M' => ∃ (ys : List D) (v9 v10 : Option D), NamesK j k ys ∧ τ = [some (.int c), some (.str SM), some (.int (1 + r0)), some (.int r1), some (.ref l), some (.int j), some (.int many), some (.int r2), some (.int st), v9, v10] ∧ M' = updM M l (.lst ys), ⟨xs, v9, v10, hx.k0, by rw [← hmany, ← hst]; rfl, rfl⟩, ?_, ?_⟩
      · rintro k τ M' hk ⟨ys, w9, w10, hy, rfl, rfl⟩
        have hk4 : k < 4 := hk
        have hks : (0 : Int) ≤ (k : Int) * st ∧ (k : Int) * st ≤ 4 := by
          have : st = 0 ∨ st = 1 := by (first | lia | omega)
          rcases this with rfl | rfl
          · simp
          · simp; (first | lia | omega)
        refine ⟨.inr ⟨by (first | lia | omega), by (first | lia | omega)⟩, by (first | lia | omega), hs37, ?_⟩
        obtain ⟨cc, hcc⟩ := at_some (xs := SM.cps.toList) (i := (r2 + (k : Int) * st) % many) (Int.emod_nonneg _ (by (first | lia | omega))) (by have := Int.emod_lt_of_pos (r2 + (k : Int) * st) (b := many) (by (first | lia | omega)); rw [hs36]; (first | lia | omega))
        have hkl : k < ys.length := by rw [hy.1]; exact hk4
        obtain ⟨z, ez, lz, pz⟩ := hy.2 k ys[k] (List.getElem?_eq_getElem hkl)
        rw [if_neg (Nat.lt_irrefl k)] at lz
        obtain ⟨ji, hji1, hji, hji2⟩ := atI_get hcc
        have hccN : isN cc = true := by rw [List.all_eq_true] at hsN; exact hsN cc (List.mem_of_getElem? hji)
        refine ⟨cc, hcc, _, _, updM_same, atI_nat (List.getElem?_eq_getElem hkl), ?_⟩
        rw [ez]
        have hj13 : j < 13 := by (first | lia | omega)
        refine ⟨by show z.length + 1 ≤ sizeLine; exact line1000 (by (first | lia | omega)), ys, k, updM_same, ?_, ?_⟩
        · show ixN ys.length (k : Int) = some k
          unfold ixN
          rw [if_pos (by (first | lia | omega)), if_pos (by (first | lia | omega))]
          simp
        · refine ⟨ys.set k (.str (z ++ ⟨#[cc]⟩)), _, _, ⟨by rw [List.length_set]; exact hy.1, fun i d e => ?_⟩, rfl, updM_upd⟩
          rw [List.getElem?_set] at e
          by_cases hik : k = i
          · subst hik
            rw [if_pos rfl, if_pos hkl] at e
            cases e
            refine ⟨_, rfl, by rw [str_app, if_pos (Nat.lt_succ_self k)]; show z.length + 1 = _; (first | lia | omega), ?_⟩
            rw [app_cps]
            refine pv_snoc pz hccN fun z0 => ?_
            have hj0 : j = 0 := by
              have : z.length = z.cps.toList.length := by show z.cps.size = _; simp
              rw [z0] at this
              simp at this
              (first | lia | omega)
            have hm26 : many = 26 := by rw [← hmany, decide_eq_false (show ¬ (0 : Int) < (j : Int) by (first | lia | omega)), if_neg Bool.false_ne_true]; rfl
            have hb1 := Int.emod_nonneg (r2 + (k : Int) * st) (b := many) (by (first | lia | omega))
            have hb2 := Int.emod_lt_of_pos (r2 + (k : Int) * st) (b := many) (by (first | lia | omega))
            have hlt : ((r2 + (k : Int) * st) % many).toNat < 26 := by (first | lia | omega)
            have hcc2 : SM.cps.toList[((r2 + (k : Int) * st) % many).toNat]? = some cc := by
              have h1 := hcc
              unfold atI ixN at h1
              rw [if_pos hb1, if_pos (by rw [hs36]; (first | lia | omega))] at h1
              exact h1
            rw [List.all_eq_true] at hs26
            exact hs26 cc (List.mem_of_getElem? (by rw [List.getElem?_take_of_lt hlt]; exact hcc2))
          · rw [if_neg hik] at e
            obtain ⟨z', e1, e2, e3⟩ := hy.2 i d e
            refine ⟨z', e1, ?_, e3⟩
            have : (if i < k then 1 else 0) = (if i < k + 1 then 1 else 0) := by split <;> split <;> (first | lia | omega)
            (first | lia | omega)
      · rintro τ M' ⟨ys, w9, w10, hy, rfl, rfl⟩
        exact ⟨ys, _, _, _, _, _, _, hy.k4, rfl, rfl⟩
    · rintro τ M' ⟨xs, v5, v6, v7, v8, v9, v10, hx, rfl, rfl⟩
      refine rt_done (q l xs hl ⟨hx.1, fun d hd => ?_⟩)
      obtain ⟨z, e1, e2, e3⟩ := hx.2 d hd
      have e4 : z.length = z.cps.toList.length := by show z.cps.size = _; simp
      exact ⟨z, e1, pv_name e3 (by (first | lia | omega)) (by (first | lia | omega))⟩
noncomputable def spLeaf : SpD := fun ds M Q => ∃ (c first : Int) (l : Addr) (sh : Int) (xs : List D), ds = [.int c, .int first, .ref l, .int sh] ∧ M l = some (.lst xs) ∧ NamesV xs ∧ ∀ t : Tree, t.knots = 1 → t.wf → Q t.d M
theorem ok_leaf (T : Txt K mg) (F__law_draw : FnD P w K mg base 1 "_law_draw" ["cell", "k", "many"] spDraw) : FnD P w K mg base 2 "_law_leaf" ["cell", "first", "names", "shares"] spLeaf := by
  refine def_ok T.f__law_leaf sc__law_leaf (fun ds M Q h => ?_) fun f cdv A outer s H E hr => ⟨_, (ss_cons (s_if (dt_cmp od_lt (d_call F__law_draw (hr.mono (by (first | lia | omega))) (a_cons (d_var 0) (a_cons d_int (a_cons d_int a_nil)))) (d_var 3) (nomark _)) (ss_cons (s_set (i := 4) sc__law_leaf.nd (d_lst (a_cons d_int (a_cons d_int (a_cons d_int (a_cons (d_op od_pow d_int d_int) (a_cons (d_op od_add d_int (d_op od_mod (d_var 1) (d_op od_pow d_int d_int))) a_nil)))))))
 (ss_one (s_ret (d_tup (a_cons d_str (a_cons (d_ix (d_var 4) (d_call F__law_draw (hr.mono (by (first | lia | omega))) (a_cons (d_var 0) (a_cons d_int (a_cons d_int a_nil))))) a_nil)))))) ss_nil)
 (ss_one (s_ret (d_tup (a_cons d_str (a_cons (d_ix (d_var 2) (d_call F__law_draw (hr.mono (by (first | lia | omega))) (a_cons (d_var 0) (a_cons d_int (a_cons d_int a_nil))))) (a_cons (d_tup a_nil) a_nil))))))), fun ds M Q h => ?_⟩
  · obtain ⟨c, first, l, sh, xs, rfl, _⟩ := h; rfl
  · obtain ⟨c, first, l, sh, xs, rfl, hl, hx, q⟩ := h
    refine ⟨c, 3, 4, rfl, ⟨by decide, by decide⟩, by decide, fun r0 h0 h1 => ?_⟩
    show if decide (r0 < sh) = true then _ else _
    by_cases hr0 : r0 < sh
    · rw [decide_eq_true hr0, if_pos rfl]
      have hp : CPow 10 9 := ⟨by decide, by decide, by decide⟩
      refine ⟨hp, hp, by show (0 : Int) < (10 : Int) ^ (9 : Int).toNat; decide, ?_⟩
      show ∀ p, M p = none → _
      intro p hpn
      refine ⟨c, 4, 5, rfl, ⟨by decide, by decide⟩, by decide, fun r1 h2 h3 => ?_⟩
      obtain ⟨k, hk, hkb⟩ : ∃ k : Int, atI [D.int 1, D.int 2, D.int 7, D.int ((10 : Int) ^ (9 : Int).toNat), D.int (1 + first % (10 : Int) ^ (9 : Int).toNat)] r1 = some (.int k) ∧ 1 ≤ k ∧ k ≤ 1000000000 := by
        have hbig : (10 : Int) ^ (9 : Int).toNat = 1000000000 := by decide
        generalize ((10 : Int) ^ (9 : Int).toNat) = big at *
        have hla : 1 ≤ 1 + first % big ∧ 1 + first % big ≤ 1000000000 := by
          have a1 := Int.emod_nonneg first (b := big) (by (first | lia | omega))
          have a2 := Int.emod_lt_of_pos first (b := big) (by (first | lia | omega))
          (first | lia | omega)
        have hr : r1 = 0 ∨ r1 = 1 ∨ r1 = 2 ∨ r1 = 3 ∨ r1 = 4 := by (first | lia | omega)
        rcases hr with rfl | rfl | rfl | rfl | rfl
        · exact ⟨1, rfl, by decide, by decide⟩
        · exact ⟨2, rfl, by decide, by decide⟩
        · exact ⟨7, rfl, by decide, by decide⟩
        · exact ⟨big, rfl, by (first | lia | omega), by (first | lia | omega)⟩
        · exact ⟨_, rfl, hla.1, hla.2⟩
      refine ⟨_, _, updM_same, hk, ?_⟩
      exact ⟨M, Sub.new hpn, q (.blank k) rfl (by rw [Tree.wf]; exact ⟨hkb.1, by show k ≤ 1000000000; exact hkb.2⟩)⟩
    · rw [decide_eq_false hr0, if_neg Bool.false_ne_true]
      refine ⟨c, 2, 4, rfl, ⟨by decide, by decide⟩, by decide, fun r1 h2 h3 => ?_⟩
      obtain ⟨d, hd⟩ := at_some (xs := xs) h2 (by rw [hx.1]; (first | lia | omega))
      obtain ⟨j, _, hj, _⟩ := atI_get hd
      obtain ⟨z, rfl, hz⟩ := hx.2 d (List.mem_of_getElem? hj)
      refine ⟨xs, _, hl, hd, ?_⟩
      exact ⟨M, Sub.refl M, q (.block z []) rfl (by rw [Tree.wf]; exact ⟨hz, by decide, trivial⟩)⟩
/-! ### _law_tree -/
/-- a frame: its name, its list, its parts -/
structure Frm where
  n : Str
  l : Addr
  ps : List Tree
noncomputable def Frm.d (f : Frm) : D := .tup [.str f.n, .ref f.l]
theorem wfs_app : ∀ (a b : List Tree), Tree.wfs (a ++ b) ↔ Tree.wfs a ∧ Tree.wfs b
  | [], b => by simp [Tree.wfs]
  | t :: a, b => by rw [List.cons_append, Tree.wfs, Tree.wfs, wfs_app a b, and_assoc]
/-- the frames stand: lf is their list, ln that of the names -/
structure Frs (M0 M : DH) (lf ln : Addr) (xs : List D) (F : List Frm) : Prop where
  fr : M lf = some (.lst (F.map Frm.d))
  nm : M ln = some (.lst xs)
  ne : lf ≠ ln
  nd : (F.map Frm.l).Nodup
  at' : ∀ f ∈ F, M f.l = some (.lst (f.ps.map Tree.d)) ∧ f.l ≠ lf ∧ f.l ≠ ln ∧ M0 f.l = none ∧ f.ps.length ≤ 9
  lf0 : M0 lf = none
  ln0 : M0 ln = none
  sub : Sub M0 M
  wf : ∀ f ∈ F, nameL f.n.cps.toList = true ∧ Tree.wfs f.ps
noncomputable def total : List Frm → Nat
  | [] => 0
  | f :: r => Tree.knotss f.ps + 1 + total r
theorem total_app : ∀ (F G : List Frm), total (F ++ G) = total F + total G
  | [], G => by simp [total]
  | f :: r, G => by rw [List.cons_append, total, total, total_app r G]; (first | lia | omega)
theorem knotss_app : ∀ (a b : List Tree), Tree.knotss (a ++ b) = Tree.knotss a + Tree.knotss b
  | [], b => by simp [Tree.knotss]
  | t :: ts, b => by rw [List.cons_append, Tree.knotss, Tree.knotss, knotss_app ts b]; (first | lia | omega)
/-- how many parts the first frame has -/
noncomputable def rootN : List Frm → Nat
  | [] => 0
  | f :: _ => f.ps.length
theorem root_last {f f' : Frm} {c : Nat} (h : f'.ps.length ≤ f.ps.length + c) : ∀ F : List Frm, rootN (F ++ [f']) ≤ rootN (F ++ [f]) + c
  | [] => h
  | g :: r => by show g.ps.length ≤ g.ps.length + c; (first | lia | omega)
theorem root_more (F : List Frm) (f g : Frm) : rootN ((F ++ [f]) ++ [g]) = rootN (F ++ [f]) := by cases F <;> rfl
/-- the depth of the tree that all frames give when they are closed -/
noncomputable def high : List Frm → Nat
  | [] => 0
  | f :: r => max (Tree.depths f.ps) (high r) + 1
theorem high_le {G G' : List Frm} {c : Nat} (h : high G ≤ high G' + c) : ∀ F : List Frm, high (F ++ G) ≤ high (F ++ G') + c
  | [] => h
  | f :: r => by
    have := high_le h r
    simp only [List.cons_append, high]
    (first | lia | omega)
theorem high_open (f g : Frm) (hg : g.ps = []) : ∀ F : List Frm, high ((F ++ [f]) ++ [g]) ≤ max (high (F ++ [f])) (F.length + 2)
  | [] => by
    show max (Tree.depths f.ps) (max (Tree.depths g.ps) 0 + 1) + 1 ≤ max (max (Tree.depths f.ps) 0 + 1) 2
    rw [hg]
    show max (Tree.depths f.ps) (max 0 0 + 1) + 1 ≤ _
    grind
  | a :: r => by
    have := high_open f g hg r
    simp only [List.cons_append, high, List.length_cons]
    grind
theorem high_leaf {f f' : Frm} (h : Tree.depths f'.ps ≤ max (Tree.depths f.ps) 1) : ∀ F : List Frm, high (F ++ [f']) ≤ max (high (F ++ [f])) (F.length + 2)
  | [] => by
    show max (Tree.depths f'.ps) 0 + 1 ≤ max (max (Tree.depths f.ps) 0 + 1) 2
    grind
  | a :: r => by
    have := high_leaf h r
    simp only [List.cons_append, high, List.length_cons]
    grind
theorem depths_app : ∀ (a b : List Tree), Tree.depths (a ++ b) = max (Tree.depths a) (Tree.depths b)
  | [], b => by simp [Tree.depths]
  | t :: ts, b => by rw [List.cons_append, Tree.depths, Tree.depths, depths_app ts b, Nat.max_assoc]
section
variable {M0 M : DH} {lf ln : Addr} {xs : List D} {F : List Frm} {f : Frm}
/-- a tree is put into the last frame -/
theorem Frs.push (h : Frs M0 M lf ln xs (F ++ [f])) (t : Tree) (h9 : f.ps.length < 9) (hwt : t.wf) : Frs M0 (updM M f.l (.lst (f.ps.map Tree.d ++ [t.d]))) lf ln xs (F ++ [{ f with ps := f.ps ++ [t] }]) := by
  have hf := h.at' f (by simp)
  have hn : ∀ g ∈ F, g.l ≠ f.l := fun g hg e => by
    have nd := h.nd
    rw [List.map_append, List.map_cons, List.map_nil] at nd
    exact (List.nodup_append.mp nd).2.2 g.l (List.mem_map_of_mem hg) f.l (by simp) e
  refine ⟨?_, ?_, h.ne, ?_, ?_, h.lf0, h.ln0, ?_, ?_⟩
  · rw [updM_ne (Ne.symm hf.2.1), h.fr]; simp [Frm.d]
  · rw [updM_ne (Ne.symm hf.2.2.1)]; exact h.nm
  · have nd := h.nd
    rw [List.map_append] at nd ⊢
    exact nd
  · intro g hg
    rcases List.mem_append.mp hg with hg | hg
    · have := h.at' g (List.mem_append_left _ hg)
      exact ⟨by rw [updM_ne (hn g hg)]; exact this.1, this.2⟩
    · cases List.mem_singleton.mp hg
      exact ⟨by rw [updM_same]; simp, hf.2.1, hf.2.2.1, hf.2.2.2.1, by simp; (first | lia | omega)⟩
  · intro a o e
    have ha : a ≠ f.l := by intro z; subst z; rw [hf.2.2.2.1] at e; cases e
    rw [updM_ne ha]
    exact h.sub a o e
  · intro g hg
    rcases List.mem_append.mp hg with hg | hg
    · exact h.wf g (List.mem_append_left _ hg)
    · cases List.mem_singleton.mp hg
      have := h.wf f (by simp)
      exact ⟨this.1, (wfs_app _ _).mpr ⟨this.2, hwt, trivial⟩⟩
/-- a new frame -/
theorem Frs.opened (h : Frs M0 M lf ln xs F) {n : Str} {l : Addr} (hl : M l = none) (h0 : M0 l = none) (hn : nameL n.cps.toList = true) : Frs M0 (updM (updM M l (.lst [])) lf (.lst (F.map Frm.d ++ [.tup [.str n, .ref l]]))) lf ln xs (F ++ [⟨n, l, []⟩]) := by
  have hlf : l ≠ lf := by intro z; subst z; rw [h.fr] at hl; cases hl
  have hln : l ≠ ln := by intro z; subst z; rw [h.nm] at hl; cases hl
  have hg : ∀ g ∈ F, g.l ≠ l := fun g hg z => by have := (h.at' g hg).1; rw [z, hl] at this; cases this
  refine ⟨?_, ?_, h.ne, ?_, ?_, h.lf0, h.ln0, ?_, ?_⟩
  · rw [updM_same]; simp [Frm.d]
  · rw [updM_ne (Ne.symm h.ne), updM_ne (Ne.symm hln)]; exact h.nm
  · rw [List.map_append, List.map_cons, List.map_nil]
    refine List.nodup_append.mpr ⟨h.nd, by simp, ?_⟩
    intro a ha b hb e
    simp at hb
    subst hb
    subst e
    obtain ⟨g, hgm, hge⟩ := List.mem_map.mp ha
    exact hg g hgm hge
  · intro g hgm
    rcases List.mem_append.mp hgm with hgm | hgm
    · have := h.at' g hgm
      exact ⟨by rw [updM_ne this.2.1, updM_ne (hg g hgm)]; exact this.1, this.2⟩
    · cases List.mem_singleton.mp hgm
      exact ⟨by rw [updM_ne hlf, updM_same]; rfl, hlf, hln, h0, by simp⟩
  · intro a o e
    have h1 : a ≠ lf := by intro z; subst z; rw [h.lf0] at e; cases e
    have h2 : a ≠ l := by intro z; subst z; rw [h0] at e; cases e
    rw [updM_ne h1, updM_ne h2]
    exact h.sub a o e
  · intro g hg
    rcases List.mem_append.mp hg with hg | hg
    · exact h.wf g hg
    · cases List.mem_singleton.mp hg
      exact ⟨hn, trivial⟩
/-- the last frame is taken off -/
theorem Frs.popped (h : Frs M0 M lf ln xs (F ++ [f])) : Frs M0 (updM M lf (.lst (F.map Frm.d))) lf ln xs F ∧ updM M lf (.lst (F.map Frm.d)) f.l = some (.lst (f.ps.map Tree.d)) := by
  have hf := h.at' f (by simp)
  refine ⟨⟨updM_same, by rw [updM_ne (Ne.symm h.ne)]; exact h.nm, h.ne, ?_, fun g hg => ?_, h.lf0, h.ln0, fun a o e => ?_, fun g hg => h.wf g (List.mem_append_left _ hg)⟩, by rw [updM_ne hf.2.1]; exact hf.1⟩
  · have nd := h.nd
    rw [List.map_append] at nd
    exact (List.nodup_append.mp nd).1
  · have := h.at' g (List.mem_append_left _ hg)
    exact ⟨by rw [updM_ne this.2.1]; exact this.1, this.2⟩
  · have h1 : a ≠ lf := by intro z; subst z; rw [h.lf0] at e; cases e
    rw [updM_ne h1]
    exact h.sub a o e
end
/-- the branch that opens a block -/
theorem tree_open {B M' : DH} {lf ln lc : Addr} {xs : List D} {F : List Frm} {f : Frm} {first sh c r0 : Int} {v7 v8 v9 v10 : Option D} {E : EndsD} {N : Nat} (hx : NamesV xs) (hF : Frs B M' lf ln xs (F ++ [f])) (ht : total (F ++ [f]) ≤ N) (hlong : F.length < 1000)
    (hE : ∀ M'' g, Frs B M'' lf ln xs ((F ++ [f]) ++ [g]) → total ((F ++ [f]) ++ [g]) ≤ N + 1 → high ((F ++ [f]) ++ [g]) ≤ max (high (F ++ [f])) (F.length + 2) → rootN ((F ++ [f]) ++ [g]) ≤ rootN (F ++ [f]) + 3 → E.nx [some (.ref lc), some (.int first), some (.int sh), some (.ref ln), some (.ref lf), some (.int c), some (.int r0), v7, v8, v9, v10] M'') :
    sDrop (eBM "list" appendD (eVar 4) (eCons (eTup (eCons (eOp ixD (eVar 3) (eCall spDraw (eCons (eVar 5) (eCons (eC (D.int 2)) (eCons (eC (D.int 4)) eNil))))) (eCons (eLst eNil) eNil))) eNil)) E
      [some (.ref lc), some (.int first), some (.int sh), some (.ref ln), some (.ref lf), some (.int c), some (.int r0), v7, v8, v9, v10] M' := by
  refine ⟨⟨rfl, _, hF.fr⟩, c, 2, 4, rfl, ⟨by decide, by decide⟩, by decide, fun r1 h2 h3 => ?_⟩
  obtain ⟨d, hd⟩ := at_some (xs := xs) h2 (by rw [hx.1]; (first | lia | omega))
  obtain ⟨j, _, hj, _⟩ := atI_get hd
  obtain ⟨z, rfl, hz⟩ := hx.2 d (List.mem_of_getElem? hj)
  refine ⟨xs, _, hF.nm, hd, ?_⟩
  show ∀ l, M' l = none → _
  intro l hl
  have hlf : lf ≠ l := by intro z; subst z; rw [hF.fr] at hl; cases hl
  have hB : B l = none := by
    cases q : B l with
    | none => rfl
    | some o => rw [hF.sub l o q] at hl; cases hl
  refine ⟨(F ++ [f]).map Frm.d, by rw [updM_ne hlf]; exact hF.fr, by rw [List.length_map, List.length_append]; exact small1000 (by simp; (first | lia | omega)), ?_⟩
  refine hE _ ⟨z, l, []⟩ (hF.opened hl hB hz) ?_ ?_ (by rw [root_more]; (first | lia | omega))
  · rw [total_app]
    show _ + (0 + 1 + 0) ≤ _
    (first | lia | omega)
  · exact high_open f ⟨z, l, []⟩ rfl F
section
variable {M0 M : DH} {lf ln : Addr} {xs : List D} {F : List Frm}
theorem Frs.fresh (h : Frs M0 M lf ln xs F) {p : Addr} {o : MO} (hp : M p = none) : Frs M0 (updM M p o) lf ln xs F := by
  have s : Sub M (updM M p o) := Sub.new hp
  exact ⟨s _ _ h.fr, s _ _ h.nm, h.ne, h.nd, fun f hf => ⟨s _ _ (h.at' f hf).1, (h.at' f hf).2⟩, h.lf0, h.ln0, h.sub.trans s, h.wf⟩
theorem Frs.none0 (h : Frs M0 M lf ln xs F) {p : Addr} (hp : M p = none) : M0 p = none := by
  cases q : M0 p with
  | none => rfl
  | some o => rw [h.sub p o q] at hp; cases hp
/-- one frame alone, with one tree -/
theorem Frs.wrapped (h : Frs M0 M lf ln xs []) {n : Str} {l : Addr} {t : Tree} (hl : M l = none) (hn : nameL n.cps.toList = true) (hwt : t.wf) : Frs M0 (updM (updM M l (.lst [t.d])) lf (.lst [.tup [.str n, .ref l]])) lf ln xs ([] ++ [⟨n, l, [t]⟩]) := by
  have hlf : l ≠ lf := by intro z; subst z; rw [h.fr] at hl; cases hl
  have hln : l ≠ ln := by intro z; subst z; rw [h.nm] at hl; cases hl
  refine ⟨?_, ?_, h.ne, by simp, ?_, h.lf0, h.ln0, ?_, ?_⟩
  · rw [updM_same]; rfl
  · rw [updM_ne (Ne.symm h.ne), updM_ne (Ne.symm hln)]; exact h.nm
  · intro g hg
    cases List.mem_singleton.mp hg
    exact ⟨by show updM _ lf _ l = _; rw [updM_ne hlf, updM_same]; rfl, hlf, hln, h.none0 hl, by simp⟩
  · intro a o e
    have h1 : a ≠ lf := by intro z; subst z; rw [h.lf0] at e; cases e
    have h2 : a ≠ l := by intro z; subst z; rw [h.none0 hl] at e; cases e
    rw [updM_ne h1, updM_ne h2]
    exact h.sub a o e
  · intro g hg
    cases List.mem_singleton.mp hg
    exact ⟨hn, hwt, trivial⟩
end
theorem high_closed (g f : Frm) : high [{ g with ps := g.ps ++ [Tree.block f.n f.ps] }] ≤ high ([g] ++ [f]) + 0 := by
  show max (Tree.depths (g.ps ++ [Tree.block f.n f.ps])) 0 + 1 ≤ max (Tree.depths g.ps) (max (Tree.depths f.ps) 0 + 1) + 1 + 0
  rw [depths_app]
  show max (max (Tree.depths g.ps) (max (Tree.depths f.ps + 1) 0)) 0 + 1 ≤ _
  grind
/-- the branch that closes a block -/
theorem tree_pop {B M' : DH} {lf ln lc : Addr} {xs : List D} {F : List Frm} {f : Frm} {first sh c r0 : Int} {v7 v8 v9 v10 : Option D} {E : EndsD} {N : Nat} (hx : NamesV xs) (hF : Frs B M' lf ln xs (F ++ [f])) (h8 : ∀ g ∈ F, g.ps.length ≤ 8) (ht : total (F ++ [f]) ≤ N) (hN : N ≤ 300)
    (hE : ∀ M'' F' f' w7 w8 w9, Frs B M'' lf ln xs (F' ++ [f']) → (∀ g ∈ F', g.ps.length ≤ 8) → total (F' ++ [f']) ≤ N + 1 → (high (F' ++ [f']) ≤ high (F ++ [f]) ∧ F.length = F'.length + 1 ∧ rootN (F' ++ [f']) ≤ rootN (F ++ [f]) + 1) ∨ (F = [] ∧ F' = [] ∧ f'.ps.length = 1 ∧ high (F' ++ [f']) ≤ high (F ++ [f]) + 1) → E.nx [some (.ref lc), some (.int first), some (.int sh), some (.ref ln), some (.ref lf), some (.int c), some (.int r0), w7, w8, w9, v10] M'') :
    sSeq (sAsg (eBM0 "list" popD (eVar 4)) (hTup (hCons (hName 7) (hCons (hName 8) hNil)))) (sSeq (sAsg (eTup (eCons (eC (D.str (Str.ofString "block"))) (eCons (eVar 7) (eCons (eCB tupleD (eCons (eVar 8) eNil)) eNil)))) (hName 9))
      (sIf (eTest (eOp eqD (eVar 4) (eLst eNil)))
        (sDrop (eBM "list" appendD (eVar 4) (eCons (eTup (eCons (eOp ixD (eVar 3) (eCall spDraw (eCons (eVar 5) (eCons (eC (D.int 2)) (eCons (eC (D.int 4)) eNil))))) (eCons (eLst (eCons (eVar 9) eNil)) eNil))) eNil)))
        (sDrop (eBM "list" appendD (eOp ixD (eOp ixD (eVar 4) (eNeg (eC (D.int 1)))) (eC (D.int 1))) (eCons (eVar 9) eNil))))) E
      [some (.ref lc), some (.int first), some (.int sh), some (.ref ln), some (.ref lf), some (.int c), some (.int r0), v7, v8, v9, v10] M' := by
  have hwf : (Tree.block f.n f.ps).wf := by
    have h1 := hF.wf f (by simp)
    have h2 := (hF.at' f (by simp)).2.2.2.2
    rw [Tree.wf]; exact ⟨h1.1, h2, h1.2⟩
  obtain ⟨hP, hPl⟩ := hF.popped
  refine ⟨⟨rfl, _, hF.fr⟩, F.map Frm.d, f.d, by rw [hF.fr]; simp, ?_⟩
  refine ⟨_, hPl, ?_⟩
  have ew : D.tup [.str "block", .str f.n, .tup (f.ps.map Tree.d)] = (Tree.block f.n f.ps).d := by rw [← ds_map]; rfl
  generalize updM M' lf (.lst (F.map Frm.d)) = M1 at *
  show ∀ p, M1 p = none → _
  intro p hp
  have hP2 := hP.fresh (o := .lst []) hp
  refine ⟨_, [], hP2.fr, updM_same, .inr rfl, ?_⟩
  generalize updM M1 p (.lst []) = M2 at *
  rcases List.eq_nil_or_concat F with rfl | ⟨F', g, rfl⟩
  · refine ⟨⟨rfl, _, hP2.fr⟩, c, 2, 4, rfl, ⟨by decide, by decide⟩, by decide, fun r1 h2 h3 => ?_⟩
    obtain ⟨d, hd⟩ := at_some (xs := xs) h2 (by rw [hx.1]; (first | lia | omega))
    obtain ⟨j, _, hj, _⟩ := atI_get hd
    obtain ⟨z, rfl, hz⟩ := hx.2 d (List.mem_of_getElem? hj)
    refine ⟨xs, _, hP2.nm, hd, ?_⟩
    show ∀ l, M2 l = none → _
    intro l hl
    have hlf : lf ≠ l := by intro z; subst z; rw [hP2.fr] at hl; cases hl
    refine ⟨[], by rw [updM_ne hlf]; exact hP2.fr, by decide, ?_⟩
    have hW := hP2.wrapped (n := z) (l := l) (t := .block f.n f.ps) hl hz hwf
    rw [← ew] at hW
    refine hE _ [] ⟨z, l, [.block f.n f.ps]⟩ _ _ _ hW (fun g hg => (nomatch hg)) ?_ ?_
    · have ht' : Tree.knotss f.ps + 1 + 0 ≤ N := ht
      show (Tree.knotss f.ps + 1 + 0) + 1 + 0 ≤ _
      (first | lia | omega)
    · refine .inr ⟨rfl, rfl, rfl, ?_⟩
      show max (max (Tree.depths f.ps + 1) 0) 0 + 1 ≤ max (Tree.depths f.ps) 0 + 1 + 1
      (first | lia | omega)
  · rw [List.concat_eq_append] at *
    have hg := hP2.at' g (by simp)
    have hlast : atI ((F' ++ [g]).map Frm.d) (-1) = some g.d := by rw [List.map_append]; exact atI_last _ _
    have hne : ((F' ++ [g]).map Frm.d).isEmpty = false := by simp
    show if ((F' ++ [g]).map Frm.d).isEmpty && ([] : List D).isEmpty then _ else _
    rw [hne]
    refine ⟨_, _, hP2.fr, hlast, ⟨rfl, _, hg.1⟩, _, hg.1, ?_, ?_⟩
    · rw [List.length_map]; exact small1000 (by (first | lia | omega))
    · have hW := hP2.push (.block f.n f.ps) (by have := h8 g (by simp); (first | lia | omega)) hwf
      rw [← ew] at hW
      refine hE _ F' { g with ps := g.ps ++ [.block f.n f.ps] } _ _ _ hW (fun k hk => h8 k (by simp [hk])) ?_ ?_
      · rw [total_app, total_app] at ht
        rw [total_app]
        have e1 : total [f] = Tree.knotss f.ps + 1 + 0 := rfl
        have e2 : total [g] = Tree.knotss g.ps + 1 + 0 := rfl
        show total F' + (Tree.knotss (g.ps ++ [.block f.n f.ps]) + 1 + 0) ≤ _
        rw [knotss_app]
        show total F' + (Tree.knotss g.ps + ((Tree.knotss f.ps + 1) + 0) + 1 + 0) ≤ _
        (first | lia | omega)
      · have h1 := high_closed g f
        have h2 := high_le h1 F'
        rw [← List.append_assoc] at h2
        refine .inl ⟨h2, by simp, ?_⟩
        rw [root_more]
        exact root_last (by show (g.ps ++ [Tree.block f.n f.ps]).length ≤ _; rw [List.length_append]; exact Nat.le_refl _) F'
/-- the branch that sets leaves -/
theorem tree_leaves {B M' : DH} {lf ln lc : Addr} {xs : List D} {F : List Frm} {f : Frm} {first sh c r0 : Int} {v7 v8 v9 v10 : Option D} {E : EndsD} {N : Nat} (hx : NamesV xs) (hF : Frs B M' lf ln xs (F ++ [f])) (ht : total (F ++ [f]) ≤ N)
    (hE : ∀ M'' f' w10, Frs B M'' lf ln xs (F ++ [f']) → total (F ++ [f']) ≤ N + 3 → high (F ++ [f']) ≤ max (high (F ++ [f])) (F.length + 2) → rootN (F ++ [f']) ≤ rootN (F ++ [f]) + 3 → E.nx [some (.ref lc), some (.int first), some (.int sh), some (.ref ln), some (.ref lf), some (.int c), some (.int r0), v7, v8, v9, w10] M'') :
    sFor1 (eCons (eCB min2D (eCons (eOp addD (eC (D.int 1)) (eCall spDraw (eCons (eVar 5) (eCons (eC (D.int 5)) (eCons (eC (D.int 3)) eNil)))))
        (eCons (eOp (dI fun i j => D.int (i - j)) (eC (D.int 9)) (eCB lenD (eCons (eOp ixD (eOp ixD (eVar 4) (eNeg (eC (D.int 1)))) (eC (D.int 1))) eNil))) eNil))) eNil) (hName 10)
      (sDrop (eBM "list" appendD (eOp ixD (eOp ixD (eVar 4) (eNeg (eC (D.int 1)))) (eC (D.int 1))) (eCons (eCall spLeaf (eCons (eOp addD (eVar 5) (eVar 10)) (eCons (eVar 1) (eCons (eVar 3) (eCons (eVar 2) eNil))))) eNil))) E
      [some (.ref lc), some (.int first), some (.int sh), some (.ref ln), some (.ref lf), some (.int c), some (.int r0), v7, v8, v9, v10] M' := by
  have hlast : ∀ g : Frm, atI ((F ++ [g]).map Frm.d) (-1) = some g.d := fun g => by rw [List.map_append]; exact atI_last _ _
  have hfl := hF.at' f (by simp)
  refine ⟨c, 5, 3, rfl, ⟨by decide, by decide⟩, by decide, fun r1 h2 h3 => ?_⟩
  refine ⟨_, _, hF.fr, hlast f, _, hfl.1, ?_⟩
  show (-(2 ^ 62) ≤ (if 9 - (((f.ps.map Tree.d).length : Nat) : Int) < 1 + r1 then 9 - (((f.ps.map Tree.d).length : Nat) : Int) else 1 + r1) ∧ (if 9 - (((f.ps.map Tree.d).length : Nat) : Int) < 1 + r1 then 9 - (((f.ps.map Tree.d).length : Nat) : Int) else 1 + r1) < 2 ^ 62) ∧ walkR (fun i => (i : Int)) (if 9 - (((f.ps.map Tree.d).length : Nat) : Int) < 1 + r1 then 9 - (((f.ps.map Tree.d).length : Nat) : Int) else 1 + r1).toNat _ _ _ _ _
  rw [List.length_map]
  generalize hn : (if 9 - ((f.ps.length : Nat) : Int) < 1 + r1 then 9 - ((f.ps.length : Nat) : Int) else 1 + r1) = n
  have hn1 : n ≤ 3 ∧ n ≤ 9 - (f.ps.length : Int) ∧ 0 ≤ n := by
    have := hfl.2.2.2.2
    rw [← hn]; split <;> (first | lia | omega)
  refine ⟨⟨by (first | lia | omega), by (first | lia | omega)⟩, fun k τ M'' => ∃ (f' : Frm) (w10 : Option D), Frs B M'' lf ln xs (F ++ [f']) ∧ f'.ps.length = f.ps.length + k ∧ total (F ++ [f']) ≤ N + k ∧ Tree.depths f'.ps ≤ max (Tree.depths f.ps) 1 ∧ τ = [some (.ref lc), some (.int first), some (.int sh), some (.ref ln), some (.ref lf), some (.int c), some (.int r0), v7, v8, v9, w10], ⟨f, v10, hF, rfl, ht, by (first | lia | omega), rfl⟩, ?_, ?_⟩
  · rintro k τ M'' hk ⟨f', w10, hF', hl', ht', hd', rfl⟩
    have hfl' := hF'.at' f' (by simp)
    refine ⟨_, _, hF'.fr, hlast f', ⟨rfl, _, hfl'.1⟩, _, first, ln, sh, xs, rfl, hF'.nm, hx, fun t ht1 hwt => ?_⟩
    refine ⟨_, hfl'.1, by rw [List.length_map]; exact small1000 (by (first | lia | omega)), ?_⟩
    refine ⟨{ f' with ps := f'.ps ++ [t] }, _, hF'.push t (by (first | lia | omega)) hwt, ?_, ?_, ?_, rfl⟩
    · show (f'.ps ++ [t]).length = _
      rw [List.length_append, hl']
      simp
      (first | lia | omega)
    · rw [total_app] at ht' ⊢
      have e1 : total [f'] = Tree.knotss f'.ps + 1 + 0 := rfl
      show total F + (Tree.knotss (f'.ps ++ [t]) + 1 + 0) ≤ _
      rw [knotss_app]
      have e2 : Tree.knotss [t] = t.knots + 0 := rfl
      (first | lia | omega)
    · show Tree.depths (f'.ps ++ [t]) ≤ _
      rw [depths_app]
      have e2 : Tree.depths [t] = max t.depth 0 := rfl
      have e3 := depth_le_knots t
      (first | lia | omega)
  · rintro τ M'' ⟨f', w10, hF', hl', ht', hd', rfl⟩
    exact hE _ f' w10 hF' (by (first | lia | omega)) (high_leaf hd' F) (root_last (by (first | lia | omega)) F)
theorem tree_else {B M' : DH} {lf ln lc : Addr} {xs : List D} {F : List Frm} {f : Frm} {first sh c r0 : Int} {v7 v8 v9 v10 : Option D} {E : EndsD} {N : Nat} (hx : NamesV xs) (hF : Frs B M' lf ln xs (F ++ [f])) (h8 : ∀ g ∈ F, g.ps.length ≤ 8) (hf8 : f.ps.length ≤ 8) (ht : total (F ++ [f]) ≤ N) (h9' : F.length ≤ 9)
    (hE : ∀ M'' F' f' w10, Frs B M'' lf ln xs (F' ++ [f']) → (∀ g ∈ F', g.ps.length ≤ 8) → total (F' ++ [f']) ≤ N + 3 → high (F' ++ [f']) ≤ max (high (F ++ [f])) 11 → F'.length ≤ 9 → rootN (F' ++ [f']) ≤ rootN (F ++ [f]) + 3 → E.nx [some (.ref lc), some (.int first), some (.int sh), some (.ref ln), some (.ref lf), some (.int c), some (.int r0), v7, v8, v9, w10] M'') :
    sIf (bAnd (eTest (eOp (dI fun i j => D.bl (decide (i < j))) (eVar 6) (eC (D.int 4)))) (eTest (eOp (dI fun i j => D.bl (decide (i < j))) (eCB lenD (eCons (eVar 4) eNil)) (eC (D.int 10)))))
      (sDrop (eBM "list" appendD (eVar 4) (eCons (eTup (eCons (eOp ixD (eVar 3) (eCall spDraw (eCons (eVar 5) (eCons (eC (D.int 2)) (eCons (eC (D.int 4)) eNil))))) (eCons (eLst eNil) eNil))) eNil)))
      (sFor1 (eCons (eCB min2D (eCons (eOp addD (eC (D.int 1)) (eCall spDraw (eCons (eVar 5) (eCons (eC (D.int 5)) (eCons (eC (D.int 3)) eNil)))))
        (eCons (eOp (dI fun i j => D.int (i - j)) (eC (D.int 9)) (eCB lenD (eCons (eOp ixD (eOp ixD (eVar 4) (eNeg (eC (D.int 1)))) (eC (D.int 1))) eNil))) eNil))) eNil) (hName 10)
        (sDrop (eBM "list" appendD (eOp ixD (eOp ixD (eVar 4) (eNeg (eC (D.int 1)))) (eC (D.int 1))) (eCons (eCall spLeaf (eCons (eOp addD (eVar 5) (eVar 10)) (eCons (eVar 1) (eCons (eVar 3) (eCons (eVar 2) eNil))))) eNil)))) E
      [some (.ref lc), some (.int first), some (.int sh), some (.ref ln), some (.ref lf), some (.int c), some (.int r0), v7, v8, v9, v10] M' := by
  have leaves := tree_leaves (lc := lc) (first := first) (sh := sh) (c := c) (r0 := r0) (v7 := v7) (v8 := v8) (v9 := v9) (v10 := v10) (E := E) hx hF ht (fun M'' f' w10 h1 h2 h3 h5 => hE M'' F f' w10 h1 h8 h2 (by (first | lia | omega)) h9' h5)
  show if decide (r0 < 4) = true then _ else _
  by_cases h4 : r0 < 4
  · rw [decide_eq_true h4, if_pos rfl]
    refine ⟨_, hF.fr, ?_⟩
    show if decide ((((F ++ [f]).map Frm.d).length : Int) < 10) = true then _ else _
    by_cases h10 : (((F ++ [f]).map Frm.d).length : Int) < 10
    · rw [decide_eq_true h10, if_pos rfl]
      have h10' : F.length + 1 < 10 := by rw [List.length_map, List.length_append] at h10; simp at h10; (first | lia | omega)
      refine tree_open hx hF ht (by (first | lia | omega)) fun M'' g h1 h2 h3 h5 => hE M'' (F ++ [f]) g _ h1 (fun k hk => ?_) (by (first | lia | omega)) (by (first | lia | omega)) (by simp; (first | lia | omega)) h5
      rcases List.mem_append.mp hk with hk | hk
      · exact h8 k hk
      · cases List.mem_singleton.mp hk; exact hf8
    · rw [decide_eq_false h10, if_neg Bool.false_ne_true]
      exact leaves
  · rw [decide_eq_false h4, if_neg Bool.false_ne_true]
    exact leaves
noncomputable def spTree : SpD := fun ds M Q => ∃ (lc : Addr) (cs : List Int) (first sh : Int), ds = [.ref lc, .int first, .int sh] ∧ M lc = some (.lst (cs.map .int)) ∧ ∀ (n : Str) (ps : List Tree), Tree.knotss ps ≤ 186 → Tree.depths ps ≤ 25 → (Tree.block n ps).wf → Q (Tree.block n ps).d M
theorem ok_tree (T : Txt K mg) (F__law_draw : FnD P w K mg base 1 "_law_draw" ["cell", "k", "many"] spDraw) (F__law_names : FnD P w K mg base 2 "_law_names" ["cell"] spNames) (F__law_leaf : FnD P w K mg base 2 "_law_leaf" ["cell", "first", "names", "shares"] spLeaf) : FnD P w K mg base 3 "_law_tree" ["cells", "first", "shares"] spTree := by
  have m_len := T.m_len
  have m_min := T.m_min
  have m_range := T.m_range
  have m_tuple := T.m_tuple
  refine def_ok T.f__law_tree sc__law_tree (fun ds M Q h => ?_) fun f cdv A outer s H E hr => ⟨_, (ss_cons (s_set (i := 3) sc__law_tree.nd (d_call F__law_names (hr.mono (by (first | lia | omega))) (a_cons (d_var 1) a_nil)))
 (ss_cons (s_set (i := 4) sc__law_tree.nd (d_lst (a_cons (d_tup (a_cons (d_ix (d_var 3) d_int) (a_cons (d_lst a_nil) a_nil))) a_nil)))
 (ss_cons (s_for PassesOwn.never rfl (d_sl sd_sl (d_var 0) o_none (o_some d_int)) (g_name (i := 5) sc__law_tree.nd) (ss_cons (s_set (i := 6) sc__law_tree.nd (d_call F__law_draw (hr.mono (by (first | lia | omega))) (a_cons (d_var 5) (a_cons d_int (a_cons d_int a_nil)))))
 (ss_one (s_if (PW.pt (dw_or (dt_cmp (od_eq hr) (d_callB cd_len rfl m_len bt_len (a_cons (d_ix (d_ix (d_var 4) (d_neg d_int)) d_int) a_nil)) d_int (nomark _)) (dw_or1 (PW.pt (dw_and (dt_cmp (od_eq hr) (d_var 6) d_int (nomark _)) (dw_and1 (dt_cmp od_gt (d_callB cd_len rfl m_len bt_len (a_cons (d_var 4) a_nil)) d_int (nomark _)))))))) (ss_cons (s_asg (d_bm0 PySem.F.plainAttrs_list PySem.F.slot_list_pop PySem.F.type_list_pop md_pop (d_var 4)) (g_tup rfl (gs_cons (g_name (i := 7) sc__law_tree.nd) (gs_cons (g_name (i := 8) sc__law_tree.nd) gs_nil)) len_2))
 (ss_cons (s_set (i := 9) sc__law_tree.nd (d_tup (a_cons d_str (a_cons (d_var 7) (a_cons (d_callTy cd_tuple rfl m_tuple bt_tuple (a_cons (d_var 8) a_nil)) a_nil)))))
 (ss_one (s_if (dt_cmp (od_eq hr) (d_var 4) (d_lst a_nil) (nomark _)) (ss_one (s_expr (d_bm PySem.F.plainAttrs_list PySem.F.slot_list_append PySem.F.type_list_append md_append (d_var 4) (a_cons (d_tup (a_cons (d_ix (d_var 3) (d_call F__law_draw (hr.mono (by (first | lia | omega))) (a_cons (d_var 5) (a_cons d_int (a_cons d_int a_nil))))) (a_cons (d_lst (a_cons (d_var 9) a_nil)) a_nil))) a_nil)))) (ss_one (s_expr (d_bm PySem.F.plainAttrs_list PySem.F.slot_list_append PySem.F.type_list_append md_append (d_ix (d_ix (d_var 4) (d_neg d_int)) d_int) (a_cons (d_var 9) a_nil)))))))) (ss_one (s_if (PW.pt (dw_and (dt_cmp od_lt (d_var 6) d_int (nomark _)) (dw_and1 (dt_cmp od_lt (d_callB cd_len rfl m_len bt_len (a_cons (d_var 4) a_nil)) d_int (nomark _))))) (ss_one (s_expr (d_bm PySem.F.plainAttrs_list PySem.F.slot_list_append PySem.F.type_list_append md_append (d_var 4) (a_cons (d_tup (a_cons (d_ix (d_var 3) (d_call F__law_draw (hr.mono (by (first | lia | omega))) (a_cons (d_var 5) (a_cons d_int (a_cons d_int a_nil))))) (a_cons (d_lst a_nil) a_nil))) a_nil)))) (ss_one (s_for1 PassesOwn.never rfl m_range (a_cons (d_callB (cd_min2 rfl) rfl m_min bt_min (a_cons (d_op od_add d_int (d_call F__law_draw (hr.mono (by (first | lia | omega))) (a_cons (d_var 5) (a_cons d_int (a_cons d_int a_nil))))) (a_cons (d_op od_sub d_int (d_callB cd_len rfl m_len bt_len (a_cons (d_ix (d_ix (d_var 4) (d_neg d_int)) d_int) a_nil))) a_nil))) a_nil) (g_name (i := 10) sc__law_tree.nd) (ss_one (s_expr (d_bm PySem.F.plainAttrs_list PySem.F.slot_list_append PySem.F.type_list_append md_append (d_ix (d_ix (d_var 4) (d_neg d_int)) d_int) (a_cons (d_call F__law_leaf (hr.mono (by (first | lia | omega))) (a_cons (d_op od_add (d_var 5) (d_var 10)) (a_cons (d_var 1) (a_cons (d_var 3) (a_cons (d_var 2) a_nil))))) a_nil))))))))))))
 (ss_cons (s_while PassesOwn.never (dt_cmp od_gt (d_callB cd_len rfl m_len bt_len (a_cons (d_var 4) a_nil)) d_int (nomark _)) (ss_cons (s_asg (d_bm0 PySem.F.plainAttrs_list PySem.F.slot_list_pop PySem.F.type_list_pop md_pop (d_var 4)) (g_tup rfl (gs_cons (g_name (i := 7) sc__law_tree.nd) (gs_cons (g_name (i := 8) sc__law_tree.nd) gs_nil)) len_2))
 (ss_one (s_expr (d_bm PySem.F.plainAttrs_list PySem.F.slot_list_append PySem.F.type_list_append md_append (d_ix (d_ix (d_var 4) (d_neg d_int)) d_int) (a_cons (d_tup (a_cons d_str (a_cons (d_var 7) (a_cons (d_callTy cd_tuple rfl m_tuple bt_tuple (a_cons (d_var 8) a_nil)) a_nil)))) a_nil))))))
 (ss_one (s_ret (d_tup (a_cons d_str (a_cons (d_ix (d_ix (d_var 4) d_int) d_int) (a_cons (d_callTy cd_tuple rfl m_tuple bt_tuple (a_cons (d_ix (d_ix (d_var 4) d_int) d_int) a_nil)) a_nil)))))))))), fun ds M Q h => ?_⟩
  · obtain ⟨lc, cs, first, sh, rfl, _⟩ := h; rfl
  · obtain ⟨lc, cs, first, sh, rfl, hc, q⟩ := h
    refine ⟨first, rfl, fun ln xs hln hx => ?_⟩
    have hcl : lc ≠ ln := by intro z; subst z; rw [hc] at hln; cases hln
    obtain ⟨d0, hd0⟩ := at_some (xs := xs) (i := 0) (by decide) (by rw [hx.1]; decide)
    obtain ⟨j0, _, hj0, _⟩ := atI_get hd0
    obtain ⟨n0, rfl, hn0⟩ := hx.2 d0 (List.mem_of_getElem? hj0)
    refine ⟨xs, _, updM_same, hd0, ?_⟩
    show ∀ l, updM M ln (.lst xs) l = none → _
    intro l hl
    show ∀ lf, updM (updM M ln (.lst xs)) l (.lst []) lf = none → _
    intro lf hlf
    obtain ⟨l1, l2⟩ := upd_none hl
    obtain ⟨f1, f2⟩ := upd_none hlf
    obtain ⟨f3, f4⟩ := upd_none f2
    have c1 : lc ≠ l := by intro z; subst z; rw [hc] at l2; cases l2
    have c2 : lc ≠ lf := by intro z; subst z; rw [hc] at f4; cases f4
    refine ⟨cs.map .int, by show updM _ _ _ _ = _; rw [updM_ne c2, updM_ne c1, updM_ne hcl]; exact hc, fun p hp => ⟨_, updM_same, ?_⟩⟩
    obtain ⟨p1, p2⟩ := upd_none hp
    obtain ⟨p3, p4⟩ := upd_none p2
    obtain ⟨p5, p6⟩ := upd_none p4
    have hcut : ∀ d ∈ DL.cutD (cs.map D.int) none (some 62), ∃ c : Int, d = .int c := by
      intro d hd
      have := List.mem_of_mem_drop (List.mem_of_mem_take hd)
      obtain ⟨c, _, rfl⟩ := List.mem_map.mp this
      exact ⟨c, rfl⟩
    have hlen : (DL.cutD (cs.map D.int) none (some 62)).length ≤ 62 := by
      unfold DL.cutD
      rw [List.length_take]
      have : HT.sIx (cs.map D.int).length (cs.map D.int).length (some 62) ≤ 62 := by
        rw [show (some (62 : Int)) = some ((62 : Nat) : Int) from rfl, HT.sIx_nat]; exact Nat.min_le_left _ _
      (first | lia | omega)
    generalize DL.cutD (cs.map D.int) none (some 62) = cut at *
    have F0 : Frs (updM M p (.lst cut)) (updM (updM (updM (updM M ln (MO.lst xs)) l (MO.lst [])) lf (MO.lst [D.tup [D.str n0, D.ref l]])) p (MO.lst cut)) lf ln xs ([] ++ [⟨n0, l, []⟩]) := by
      refine ⟨by rw [updM_ne (Ne.symm p1), updM_same]; rfl, by rw [updM_ne (Ne.symm p5), updM_ne (Ne.symm f3), updM_ne (Ne.symm l1), updM_same], f3, by simp, ?_, by rw [updM_ne (Ne.symm p1)]; exact f4, by rw [updM_ne (Ne.symm p5)]; exact hln, ?_, ?_⟩
      · intro g hg
        cases List.mem_singleton.mp hg
        exact ⟨by show updM _ p _ l = _; rw [updM_ne (Ne.symm p3), updM_ne (Ne.symm f1), updM_same]; rfl, Ne.symm f1, l1, by show updM M p _ l = _; rw [updM_ne (Ne.symm p3)]; exact l2, by simp⟩
      · intro a o e
        by_cases hap : a = p
        · subst hap; rw [updM_same] at e ⊢; exact e
        · rw [updM_ne hap] at e
          have h1 : a ≠ lf := by intro z; subst z; rw [f4] at e; cases e
          have h2 : a ≠ l := by intro z; subst z; rw [l2] at e; cases e
          have h3 : a ≠ ln := by intro z; subst z; rw [hln] at e; cases e
          rw [updM_ne hap, updM_ne h1, updM_ne h2, updM_ne h3]; exact e
      · intro g hg
        cases List.mem_singleton.mp hg
        exact ⟨hn0, trivial⟩
    have hB : Sub M (updM M p (.lst cut)) := Sub.new p6
    have hBp : updM M p (.lst cut) p = some (.lst cut) := updM_same
    generalize updM (updM (updM (updM M ln (MO.lst xs)) l (MO.lst [])) lf (MO.lst [D.tup [D.str n0, D.ref l]])) p (MO.lst cut) = M5 at *
    generalize updM M p (.lst cut) = B at *
    refine ⟨fun i τ M' => ∃ (F : List Frm) (f : Frm) (v5 v6 v7 v8 v9 v10 : Option D), Frs B M' lf ln xs (F ++ [f]) ∧ (∀ g ∈ F, g.ps.length ≤ 8) ∧ total (F ++ [f]) ≤ 1 + 3 * i ∧ (F.length ≤ 9 ∧ 4 * high (F ++ [f]) + (rootN (F ++ [f]) + 1) / 3 ≤ 44 + i ∧ (rootN (F ++ [f]) + 1) / 3 ≤ i) ∧ τ = [some (.ref lc), some (.int first), some (.int sh), some (.ref ln), some (.ref lf), v5, v6, v7, v8, v9, v10], ⟨[], _, none, none, none, none, none, none, F0, (fun g hg => (nomatch hg)), by simp [total, Tree.knotss], ⟨by simp, by simp [high, Tree.depths, rootN], by simp [rootN]⟩, rfl⟩, ?_, ?_, ?_⟩
    · rintro i τ M' _ ⟨F, f, v5, v6, v7, v8, v9, v10, hF, _, _, _, rfl⟩
      exact hF.sub _ _ hBp
    · rintro i d τ M' hd ⟨F, f, v5, v6, v7, v8, v9, v10, hF, h8, ht, ⟨hF9, hh, hfull⟩, rfl⟩
      have hi : i < cut.length := by
        rcases Nat.lt_or_ge i cut.length with h | h
        · exact h
        · rw [List.getElem?_eq_none h] at hd; cases hd
      obtain ⟨c, rfl⟩ := hcut d (List.mem_of_getElem? hd)
      have hfl := hF.at' f (by simp)
      have hlast : atI ((F ++ [f]).map Frm.d) (-1) = some f.d := by rw [List.map_append]; exact atI_last _ _
      refine ⟨c, 1, 8, rfl, ⟨by decide, by decide⟩, by decide, fun r0 h0 h1 => ?_⟩
      refine ⟨_, _, hF.fr, hlast, _, hfl.1, ?_⟩
      show if decide ((((f.ps.map Tree.d).length : Nat) : Int) = 9) = true then _ else _
      by_cases h9 : (((f.ps.map Tree.d).length : Nat) : Int) = 9
      · rw [decide_eq_true h9, if_pos rfl]
        refine tree_pop hx hF h8 ht (by (first | lia | omega)) fun M'' F' f' w7 w8 w9 h1 h2 h3 h4 => ⟨F', f', _, _, _, _, _, _, h1, h2, by (first | lia | omega), ?_, rfl⟩
        rcases h4 with ⟨h4, h5, h6⟩ | ⟨h4, h5, h6, h7⟩
        · exact ⟨by (first | lia | omega), by (first | lia | omega), by (first | lia | omega)⟩
        · have h9'' : f.ps.length = 9 := by rw [List.length_map] at h9; (first | lia | omega)
          have h10 : rootN (F ++ [f]) = 9 := by rw [h4]; exact h9''
          have h11 : rootN (F' ++ [f']) = 1 := by rw [h5]; exact h6
          rw [h10] at hh
          exact ⟨by rw [h5]; simp, by rw [h11]; (first | lia | omega), by rw [h11]; (first | lia | omega)⟩
      · rw [decide_eq_false h9, if_neg Bool.false_ne_true]
        have hf8 : f.ps.length ≤ 8 := by rw [List.length_map] at h9; have := hfl.2.2.2.2; (first | lia | omega)
        show if decide (r0 = 0) = true then _ else _
        by_cases hr0 : r0 = 0
        · rw [decide_eq_true hr0, if_pos rfl]
          refine ⟨_, hF.fr, ?_⟩
          show if decide ((1 : Int) < (((F ++ [f]).map Frm.d).length : Nat)) = true then _ else _
          by_cases hl1 : (1 : Int) < (((F ++ [f]).map Frm.d).length : Nat)
          · rw [decide_eq_true hl1, if_pos rfl]
            refine tree_pop hx hF h8 ht (by (first | lia | omega)) fun M'' F' f' w7 w8 w9 h1 h2 h3 h4 => ⟨F', f', _, _, _, _, _, _, h1, h2, by (first | lia | omega), ?_, rfl⟩
            rcases h4 with ⟨h4, h5, h6⟩ | ⟨h4, h5, h6, h7⟩
            · exact ⟨by (first | lia | omega), by (first | lia | omega), by (first | lia | omega)⟩
            · subst h4
              simp at hl1
          · rw [decide_eq_false hl1, if_neg Bool.false_ne_true]
            exact tree_else hx hF h8 hf8 ht hF9 fun M'' F' f' w10 h1 h2 h3 h4 h5 h6 => ⟨F', f', _, _, _, _, _, _, h1, h2, by (first | lia | omega), ⟨h5, by (first | lia | omega), by (first | lia | omega)⟩, rfl⟩
        · rw [decide_eq_false hr0, if_neg Bool.false_ne_true]
          exact tree_else hx hF h8 hf8 ht hF9 fun M'' F' f' w10 h1 h2 h3 h4 h5 h6 => ⟨F', f', _, _, _, _, _, _, h1, h2, by (first | lia | omega), ⟨h5, by (first | lia | omega), by (first | lia | omega)⟩, rfl⟩
    · rintro τ M' ⟨F, f, v5, v6, v7, v8, v9, v10, hF, h8, ht, ⟨_, hh, _⟩, rfl⟩
      refine ⟨fun m τ M'' => ∃ (F : List Frm) (f : Frm) (v5 v6 v7 v8 v9 v10 : Option D), Frs B M'' lf ln xs (F ++ [f]) ∧ (∀ g ∈ F, g.ps.length ≤ 8) ∧ total (F ++ [f]) ≤ 187 ∧ high (F ++ [f]) ≤ 26 ∧ m = F.length ∧ τ = [some (.ref lc), some (.int first), some (.int sh), some (.ref ln), some (.ref lf), v5, v6, v7, v8, v9, v10], ⟨F.length, F, f, _, _, _, _, _, _, hF, h8, by (first | lia | omega), by (first | lia | omega), rfl, rfl⟩, ?_⟩
      rintro m τ M'' ⟨F, f, v5, v6, v7, v8, v9, v10, hF, h8, ht, hh, rfl, rfl⟩
      refine ⟨_, hF.fr, ?_⟩
      show if decide ((1 : Int) < (((F ++ [f]).map Frm.d).length : Nat)) = true then _ else _
      rcases List.eq_nil_or_concat F with rfl | ⟨F', g, rfl⟩
      · rw [decide_eq_false (by simp), if_neg Bool.false_ne_true]
        have hfl := hF.at' f (by simp)
        have h0 : atI (([] ++ [f] : List Frm).map Frm.d) 0 = some f.d := atI_nat (j := 0) rfl
        refine ⟨_, _, hF.fr, h0, _, _, hF.fr, h0, _, hfl.1, ?_⟩
        refine ⟨M, hB.trans hF.sub, ?_⟩
        have hwf : (Tree.block f.n f.ps).wf := by
          have h1 := hF.wf f (by simp)
          rw [Tree.wf]; exact ⟨h1.1, hfl.2.2.2.2, h1.2⟩
        have hq := q f.n f.ps (by have e1 : total ([] ++ [f]) = Tree.knotss f.ps + 1 + 0 := rfl; (first | lia | omega)) (by have e1 : high ([] ++ [f]) = max (Tree.depths f.ps) 0 + 1 := rfl; (first | lia | omega)) hwf
        have ew : D.tup [.str "block", .str f.n, .tup (f.ps.map Tree.d)] = (Tree.block f.n f.ps).d := by rw [← ds_map]; rfl
        rw [← ew] at hq
        exact hq
      · rw [List.concat_eq_append] at *
        rw [decide_eq_true (by simp; (first | lia | omega)), if_pos rfl]
        obtain ⟨hP, hPl⟩ := hF.popped
        have hg := hP.at' g (by simp)
        have hlast : atI ((F' ++ [g]).map Frm.d) (-1) = some g.d := by rw [List.map_append]; exact atI_last _ _
        have ew : D.tup [.str "block", .str f.n, .tup (f.ps.map Tree.d)] = (Tree.block f.n f.ps).d := by rw [← ds_map]; rfl
        refine ⟨⟨rfl, _, hF.fr⟩, (F' ++ [g]).map Frm.d, f.d, by rw [hF.fr]; simp, ?_⟩
        refine ⟨_, _, hP.fr, hlast, ⟨rfl, _, hg.1⟩, _, hPl, _, hg.1, ?_, ?_⟩
        · rw [List.length_map]; exact small1000 (by have := hg.2.2.2.2; (first | lia | omega))
        · have hwf : (Tree.block f.n f.ps).wf := by
            have h1 := hF.wf f (by simp)
            have h2 := (hF.at' f (by simp)).2.2.2.2
            rw [Tree.wf]; exact ⟨h1.1, h2, h1.2⟩
          have hW := hP.push (.block f.n f.ps) (by have := h8 g (by simp); (first | lia | omega)) hwf
          rw [← ew] at hW
          refine ⟨F'.length, by simp, F', { g with ps := g.ps ++ [.block f.n f.ps] }, _, _, _, _, _, _, hW, fun k hk => h8 k (by simp [hk]), ?_, by have h1 := high_le (high_closed g f) F'; rw [List.append_assoc] at hh; (first | lia | omega), rfl, rfl⟩
          rw [total_app, total_app] at ht
          rw [total_app]
          have e1 : total [f] = Tree.knotss f.ps + 1 + 0 := rfl
          have e2 : total [g] = Tree.knotss g.ps + 1 + 0 := rfl
          show total F' + (Tree.knotss (g.ps ++ [.block f.n f.ps]) + 1 + 0) ≤ _
          rw [knotss_app]
          show total F' + (Tree.knotss g.ps + ((Tree.knotss f.ps + 1) + 0) + 1 + 0) ≤ _
          (first | lia | omega)
/-! ### _law_places -/
noncomputable def kids (p : List Int) (i : Nat) : List Tree → List PT'
  | [] => []
  | t :: ts => (p ++ [(i : Int)], t) :: kids p (i + 1) ts
noncomputable def flat (ws : List PT') : List PT' := ws.flatMap fun x => pre x.1 x.2
theorem flat_kids (p : List Int) : ∀ (ps : List Tree) (i : Nat), flat (kids p i ps) = pres p i ps
  | [], _ => rfl
  | t :: ts, i => by rw [kids, flat, List.flatMap_cons, pres]; congr 1; exact flat_kids p ts (i + 1)
theorem kids_length (p : List Int) : ∀ (ps : List Tree) (i : Nat), (kids p i ps).length = ps.length
  | [], _ => rfl
  | t :: ts, i => by rw [kids, List.length_cons, kids_length p ts (i + 1), List.length_cons]
theorem kids_get (p : List Int) : ∀ (ps : List Tree) (i k : Nat) (t : Tree), ps[k]? = some t → (kids p i ps)[k]? = some (p ++ [((i + k : Nat) : Int)], t)
  | [], _, _, _, e => by simp at e
  | t :: ts, i, 0, _, e => by simp at e; subst e; rfl
  | t :: ts, i, k + 1, _, e => by
    have := kids_get p ts (i + 1) k _ (by simpa using e)
    rw [kids, List.getElem?_cons_succ, this, show i + 1 + k = i + (k + 1) by (first | lia | omega)]
noncomputable def weigh (ws : List PT') : Nat := (ws.map fun x => x.2.knots).sum
theorem weigh_kids (p : List Int) : ∀ (ps : List Tree) (i : Nat), weigh (kids p i ps) = Tree.knotss ps
  | [], _ => rfl
  | t :: ts, i => by rw [kids]; simp only [weigh, List.map_cons, List.sum_cons, Tree.knotss]; rw [← weigh_kids p ts (i + 1)]; rfl
theorem weigh_app (a b : List PT') : weigh (a ++ b) = weigh a + weigh b := by simp [weigh]
theorem weigh_rev (a : List PT') : weigh a.reverse = weigh a := by simp [weigh, List.sum_reverse]
mutual
theorem pre_length (p : List Int) : ∀ t : Tree, (pre p t).length = t.knots
  | .block n ps => by rw [pre, List.length_cons, pres_length p ps 0, Tree.knots]
  | .blank k => rfl
theorem pres_length (p : List Int) : ∀ (ts : List Tree) (i : Nat), (pres p i ts).length = Tree.knotss ts
  | [], _ => rfl
  | t :: ts, i => by rw [pres, List.length_append, pre_length _ t, pres_length p ts (i + 1), Tree.knotss]
end
noncomputable def spPlaces : SpD := fun ds M Q => ∃ t : Tree, ds = [t.d] ∧ t.knots ≤ 450 ∧ ∀ l, M l = none → Q (.ref l) (updM M l (.lst ((pre [] t).map pd)))
/-- the two lists stand: lf what is found, lw what waits -/
structure PlS (M0 M : DH) (lf lw : Addr) (done ws : List PT') : Prop where
  fd : M lf = some (.lst (done.map pd))
  wt : M lw = some (.lst (ws.map pd))
  ne : lf ≠ lw
  f0 : M0 lf = none
  w0 : M0 lw = none
  sub : Sub M0 M
section
variable {M0 M : DH} {lf lw : Addr} {done ws : List PT'}
theorem PlS.fresh (h : PlS M0 M lf lw done ws) {p : Addr} {o : MO} (hp : M p = none) : PlS M0 (updM M p o) lf lw done ws := by
  have s : Sub M (updM M p o) := Sub.new hp
  exact ⟨s _ _ h.fd, s _ _ h.wt, h.ne, h.f0, h.w0, h.sub.trans s⟩
theorem PlS.setF (h : PlS M0 M lf lw done ws) (done' : List PT') : PlS M0 (updM M lf (.lst (done'.map pd))) lf lw done' ws :=
  ⟨updM_same, by rw [updM_ne (Ne.symm h.ne)]; exact h.wt, h.ne, h.f0, h.w0, sub_upd h.sub h.f0⟩
theorem PlS.setW (h : PlS M0 M lf lw done ws) (ws' : List PT') : PlS M0 (updM M lw (.lst (ws'.map pd))) lf lw done ws' :=
  ⟨by rw [updM_ne h.ne]; exact h.fd, updM_same, h.ne, h.f0, h.w0, sub_upd h.sub h.w0⟩
end
theorem length_weigh : ∀ ws : List PT', ws.length ≤ weigh ws
  | [] => Nat.zero_le _
  | x :: ws => by
    have h1 := length_weigh ws
    have h2 := knots_pos x.2
    have e : weigh (x :: ws) = x.2.knots + weigh ws := rfl
    rw [List.length_cons]; (first | lia | omega)
theorem kids_mem (p : List Int) : ∀ (ps : List Tree) (i : Nat) (y : PT'), y ∈ kids p i ps → y.1.length = p.length + 1 ∧ y.2.knots ≤ Tree.knotss ps
  | [], _, _, h => (nomatch h)
  | t :: ts, i, y, h => by
    rw [kids] at h
    rcases List.mem_cons.mp h with rfl | h
    · exact ⟨by simp, by simp only [Tree.knotss]; (first | lia | omega)⟩
    · obtain ⟨h1, h2⟩ := kids_mem p ts (i + 1) y h
      exact ⟨h1, by simp only [Tree.knotss]; (first | lia | omega)⟩
theorem flat_app (a b : List PT') : flat (a ++ b) = flat a ++ flat b := by simp [flat]
theorem ok_places (T : Txt K mg) : FnD P w K mg base 1 "_law_places" ["tree"] spPlaces := by
  have m_len := T.m_len
  have m_range := T.m_range
  refine def_ok T.f__law_places sc__law_places (fun ds M Q h => ?_) fun f cdv A outer s H E hr => ⟨_, (ss_cons (s_set (i := 1) sc__law_places.nd (d_lst a_nil))
 (ss_cons (s_set (i := 2) sc__law_places.nd (d_lst (a_cons (d_tup (a_cons (d_tup a_nil) (a_cons (d_var 0) a_nil))) a_nil)))
 (ss_cons (s_while PassesOwn.never (dt_cmp (od_ne hr) (d_var 2) (d_lst a_nil) (nomark _)) (ss_cons (s_asg (d_bm0 PySem.F.plainAttrs_list PySem.F.slot_list_pop PySem.F.type_list_pop md_pop (d_var 2)) (g_tup rfl (gs_cons (g_name (i := 3) sc__law_places.nd) (gs_cons (g_name (i := 4) sc__law_places.nd) gs_nil)) len_2))
 (ss_cons (s_expr (d_bm PySem.F.plainAttrs_list PySem.F.slot_list_append PySem.F.type_list_append md_append (d_var 1) (a_cons (d_tup (a_cons (d_var 3) (a_cons (d_var 4) a_nil))) a_nil)))
 (ss_one (s_if (dt_cmp (od_eq hr) (d_ix (d_var 4) d_int) d_str (nomark _)) (ss_one (s_for3 PassesOwn.never rfl m_range (a_cons (d_op od_sub (d_callB cd_len rfl m_len bt_len (a_cons (d_ix (d_var 4) d_int) a_nil)) d_int) (a_cons (d_neg d_int) (a_cons (d_neg d_int) a_nil))) (g_name (i := 5) sc__law_places.nd) (ss_one (s_expr (d_bm PySem.F.plainAttrs_list PySem.F.slot_list_append PySem.F.type_list_append md_append (d_var 2) (a_cons (d_tup (a_cons (d_op od_add (d_var 3) (d_tup (a_cons (d_var 5) a_nil))) (a_cons (d_ix (d_ix (d_var 4) d_int) (d_var 5)) a_nil))) a_nil)))))) ss_nil)))))
 (ss_one (s_ret (d_var 1)))))), fun ds M Q h => ?_⟩
  · obtain ⟨t, rfl, _⟩ := h; rfl
  · obtain ⟨t, rfl, hk, q⟩ := h
    show ∀ lf, M lf = none → _
    intro lf hlf
    show ∀ lw, updM M lf (.lst []) lw = none → _
    intro lw hlw
    obtain ⟨w1, w2⟩ := upd_none hlw
    have F0 : PlS M (updM (updM M lf (.lst [])) lw (.lst [.tup [.tup [], t.d]])) lf lw [] [([], t)] :=
      ⟨by rw [updM_ne (Ne.symm w1), updM_same]; rfl, by rw [updM_same]; rfl, Ne.symm w1, hlf, w2, sub_upd (sub_upd (Sub.refl M) hlf) w2⟩
    refine ⟨fun m τ M' => ∃ (done ws : List PT') (v3 v4 v5 : Option D), PlS M M' lf lw done ws ∧ done ++ flat ws.reverse = pre [] t ∧ (∀ x ∈ ws, x.1.length + x.2.knots ≤ 450) ∧ done.length + weigh ws ≤ 450 ∧ m = weigh ws ∧ τ = [some t.d, some (.ref lf), some (.ref lw), v3, v4, v5], ⟨_, [], [([], t)], none, none, none, F0, by simp [flat], by simp; (first | lia | omega), by simp [weigh]; (first | lia | omega), rfl, rfl⟩, ?_⟩
    rintro m τ M' ⟨done, ws, v3, v4, v5, hS, heq, hb, hlen, rfl, rfl⟩
    show ∀ p, M' p = none → _
    intro p hp
    have hS2 := hS.fresh (o := .lst []) hp
    refine ⟨_, [], hS2.wt, updM_same, .inr rfl, ?_⟩
    generalize updM M' p (.lst []) = M2 at *
    rcases List.eq_nil_or_concat ws with rfl | ⟨ws', x, rfl⟩
    · have e0 : done = pre [] t := by simpa [flat] using heq
      subst e0
      exact ⟨updM M lf (.lst ((pre [] t).map pd)), fun a o e => by
        by_cases ha : a = lf
        · subst ha; rw [updM_same] at e; cases e; exact hS2.fd
        · rw [updM_ne ha] at e; exact hS2.sub a o e, q lf hlf⟩
    · rw [List.concat_eq_append] at *
      obtain ⟨pl, here⟩ := x
      have hne : ((ws' ++ [(pl, here)]).map pd).isEmpty = false := by simp
      show if (!(((ws' ++ [(pl, here)]).map pd).isEmpty && ([] : List D).isEmpty)) = true then _ else _
      rw [hne]
      have hW := hS2.setW ws'
      refine ⟨⟨rfl, _, hS2.wt⟩, ws'.map pd, pd (pl, here), by rw [hS2.wt]; simp, ?_⟩
      generalize updM M2 lw (.lst (ws'.map pd)) = M3 at *
      have hF := hW.setF (done ++ [(pl, here)])
      have hwa : weigh (ws' ++ [(pl, here)]) = weigh ws' + here.knots := by rw [weigh_app]; rfl
      have hkp := knots_pos here
      have hpb := hb (pl, here) (by simp)
      have hpb' : pl.length + here.knots ≤ 450 := hpb
      refine ⟨⟨rfl, _, hW.fd⟩, _, hW.fd, by rw [List.length_map]; exact small1000 (by (first | lia | omega)), ?_⟩
      rw [show done.map pd ++ [.tup [.tup (pl.map .int), here.d]] = (done ++ [(pl, here)]).map pd by simp [pd]]
      generalize updM M3 lf (.lst ((done ++ [(pl, here)]).map pd)) = M4 at *
      have heq' : done ++ ([(pl, here)] ++ flat (kids pl 0 here.parts ++ ws'.reverse)) = pre [] t := by
        rw [← heq, List.reverse_append, flat_app, flat_app, flat_kids]
        congr 1
        rw [← List.append_assoc]
        congr 1
        cases here with
        | block n ps => show _ = pre pl _ ++ []; rw [pre]; simp [Tree.parts]
        | blank k => show _ = pre pl _ ++ []; rw [pre]; simp [Tree.parts, pres]
      cases here with
      | blank k =>
        have heq2 : done ++ ([(pl, Tree.blank k)] ++ flat ws'.reverse) = pre [] t := heq'
        refine ⟨weigh ws', by rw [hwa]; (first | lia | omega), done ++ [(pl, .blank k)], ws', _, _, _, hF, by rw [← heq2]; simp, fun y hy => hb y (by simp [hy]), ?_, rfl, rfl⟩
        rw [List.length_append]; simp; (first | lia | omega)
      | block n ps =>
        have hkn : (Tree.block n ps).knots = Tree.knotss ps + 1 := rfl
        have hpsl : ps.length ≤ Tree.knotss ps := by have h1 := length_weigh (kids pl 0 ps); rw [kids_length, weigh_kids] at h1; exact h1
        have hwl := length_weigh ws'
        show ((-1 : Int) = -1 ∧ _) ∧ walkR (fun i => (((Tree.ds ps).length : Int) - 1) - (i : Int)) ((((Tree.ds ps).length : Int) - 1) - (-1)).toNat _ _ _ _ _
        rw [ds_map, List.length_map]
        have hn : (((ps.length : Int) - 1) - (-1)).toNat = ps.length := by (first | lia | omega)
        rw [hn]
        refine ⟨⟨rfl, by (first | lia | omega), by (first | lia | omega), by decide, by decide⟩, fun j τ M'' => ∃ v5 : Option D, PlS M M'' lf lw (done ++ [(pl, .block n ps)]) (ws' ++ (kids pl 0 ps).reverse.take j) ∧ τ = [some t.d, some (.ref lf), some (.ref lw), some (.tup (pl.map .int)), some (Tree.block n ps).d, v5], ⟨_, by simpa using hF, rfl⟩, ?_, ?_⟩
        · rintro j τ M'' hj ⟨w5, hI, rfl⟩
          have hix : ps.length - 1 - j < ps.length := by (first | lia | omega)
          have hg : ps[ps.length - 1 - j]? = some ps[ps.length - 1 - j] := List.getElem?_eq_getElem hix
          generalize ps[ps.length - 1 - j] = part at hg
          have eI : ((ps.length : Int) - 1) - (j : Int) = ((ps.length - 1 - j : Nat) : Int) := by (first | lia | omega)
          have hat : atI (Tree.ds ps) (((ps.length : Int) - 1) - (j : Int)) = some part.d := by
            rw [eI]; refine atI_nat ?_; rw [ds_map, List.getElem?_map, hg]; rfl
          have hkid : (kids pl 0 ps).reverse[j]? = some (pl ++ [((ps.length - 1 - j : Nat) : Int)], part) := by
            rw [List.getElem?_reverse (by rw [kids_length]; exact hj), kids_length, kids_get pl ps 0 _ part hg, Nat.zero_add]
          refine ⟨⟨rfl, _, hI.wt⟩, ?_⟩
          show _ ∧ onSome (atI (Tree.ds ps) (((ps.length : Int) - 1) - (j : Int))) _
          rw [hat]
          have hl9 : ((kids pl 0 ps).reverse.take j).length ≤ ps.length := by rw [List.length_take]; (first | lia | omega)
          refine ⟨by rw [List.length_map]; exact line1000 (by simp; (first | lia | omega)), _, hI.wt, by rw [List.length_map, List.length_append]; exact small1000 (by (first | lia | omega)), _, ?_, rfl⟩
          have hU := hI.setW (ws' ++ (kids pl 0 ps).reverse.take (j + 1))
          rw [List.take_add_one, hkid] at hU ⊢
          rw [show ((ws' ++ ((kids pl 0 ps).reverse.take j ++ (some (pl ++ [((ps.length - 1 - j : Nat) : Int)], part)).toList)).map pd) = (ws' ++ (kids pl 0 ps).reverse.take j).map pd ++ [.tup [.tup (pl.map .int ++ [.int (((ps.length : Int) - 1) - (j : Int))]), part.d]] by simp [pd, eI]] at hU
          exact hU
        · rintro τ M'' ⟨w5, hI, rfl⟩
          have etk : (kids pl 0 ps).reverse.take ps.length = (kids pl 0 ps).reverse := by rw [List.take_of_length_le]; rw [List.length_reverse, kids_length]; exact Nat.le_refl _
          rw [etk] at hI
          refine ⟨_, ?_, _, _, _, _, _, hI, ?_, ?_, ?_, rfl, rfl⟩
          · rw [weigh_app, weigh_rev, weigh_kids, hwa, hkn]; (first | lia | omega)
          · rw [← heq']; simp [Tree.parts]
          · intro y hy
            rcases List.mem_append.mp hy with hy | hy
            · exact hb y (by simp [hy])
            · obtain ⟨h1, h2⟩ := kids_mem pl ps 0 y (List.mem_reverse.mp hy)
              (first | lia | omega)
          · rw [weigh_app, weigh_rev, weigh_kids, List.length_append]; simp; (first | lia | omega)
noncomputable def spKnots (n : Nat) : SpD := fun ds M Q => ∃ t : Tree, ds = [t.d] ∧ t.depth ≤ n ∧ Q (.int t.knots) M
noncomputable def spDepth (n : Nat) : SpD := fun ds M Q => ∃ t : Tree, ds = [t.d] ∧ t.depth ≤ n ∧ Q (.int t.depth) M
theorem ok_knots_of (T : Txt K mg) : ∀ n : Nat, FnD P w K mg base (n + 1) "knots_of" ["tree"] (spKnots n)
  | 0 => (fn_none T.f_knots_of fun ds M Q ⟨t, _, h, _⟩ => by have := depth_pos t; (first | lia | omega)).mono (by (first | lia | omega))
  | n + 1 => by
    have F_knots_of := ok_knots_of T n
    have F_parts_of := ok_parts_of (P := P) (w := w) (base := base) T
    refine def_ok T.f_knots_of sc_knots_of (fun ds M Q h => ?_) fun f cdv A outer s H E hr => ⟨_, (ss_cons (s_set (i := 1) sc_knots_of.nd d_int)
 (ss_cons (s_for PassesOwn.never rfl (d_call F_parts_of (hr.mono (by (first | lia | omega))) (a_cons (d_var 0) a_nil)) (g_name (i := 2) sc_knots_of.nd) (ss_one (s_aug (i := 1) sc_knots_of.nd (d_call F_knots_of (hr.mono (by (first | lia | omega))) (a_cons (d_var 2) a_nil)))))
 (ss_one (s_ret (d_var 1))))), fun ds M Q h => ?_⟩
    · obtain ⟨t, rfl, _⟩ := h; rfl
    · obtain ⟨t, rfl, hd, q⟩ := h
      rw [depth_parts] at hd
      rw [knots_parts] at q
      refine ⟨t, rfl, ?_⟩
      refine ⟨fun i τ M' => (∃ v : Option D, τ = [some t.d, some (.int ((Tree.knotss (t.parts.take i) + 1 : Nat) : Int)), v]) ∧ M' = M, ⟨⟨none, rfl⟩, rfl⟩, fun _ _ _ _ _ => trivial, ?_, ?_⟩
      · rintro i d τ M' ed ⟨⟨v, rfl⟩, rfl⟩
        rw [List.getElem?_map] at ed
        cases e : t.parts[i]? with
        | none => rw [e] at ed; cases ed
        | some p =>
          rw [e] at ed
          cases ed
          have h1 := depth_get e
          have h2 := knotss_take _ _ _ e
          refine ⟨p, rfl, by (first | lia | omega), ⟨some p.d, ?_⟩, rfl⟩
          rw [h2]
          show [_, some (D.int (((Tree.knotss (t.parts.take i) + 1 : Nat) : Int) + (p.knots : Int))), _] = _
          have e3 : (((Tree.knotss (t.parts.take i) + 1 : Nat) : Int) + (p.knots : Int)) = ((Tree.knotss (t.parts.take i) + p.knots + 1 : Nat) : Int) := by (first | lia | omega)
          rw [e3]
      · rintro τ M' ⟨⟨v, rfl⟩, rfl⟩
        rw [List.length_map, List.take_length]
        exact rt_done q
theorem ok_depth_of (T : Txt K mg) : ∀ n : Nat, FnD P w K mg base (n + 1) "depth_of" ["tree"] (spDepth n)
  | 0 => (fn_none T.f_depth_of fun ds M Q ⟨t, _, h, _⟩ => by have := depth_pos t; (first | lia | omega)).mono (by (first | lia | omega))
  | n + 1 => by
    have m_max := T.m_max
    have F_depth_of := ok_depth_of T n
    have F_parts_of := ok_parts_of (P := P) (w := w) (base := base) T
    refine def_ok T.f_depth_of sc_depth_of (fun ds M Q h => ?_) fun f cdv A outer s H E hr => ⟨_, (ss_cons (s_set (i := 1) sc_depth_of.nd d_int)
 (ss_cons (s_for PassesOwn.never rfl (d_call F_parts_of (hr.mono (by (first | lia | omega))) (a_cons (d_var 0) a_nil)) (g_name (i := 2) sc_depth_of.nd) (ss_one (s_set (i := 1) sc_depth_of.nd (d_callB (cd_max2 rfl) rfl m_max bt_max (a_cons (d_var 1) (a_cons (d_call F_depth_of (hr.mono (by (first | lia | omega))) (a_cons (d_var 2) a_nil)) a_nil))))))
 (ss_one (s_ret (d_op od_add (d_var 1) d_int))))), fun ds M Q h => ?_⟩
    · obtain ⟨t, rfl, _⟩ := h; rfl
    · obtain ⟨t, rfl, hd, q⟩ := h
      rw [depth_parts] at hd q
      refine ⟨t, rfl, ?_⟩
      refine ⟨fun i τ M' => (∃ v : Option D, τ = [some t.d, some (.int ((Tree.depths (t.parts.take i) : Nat) : Int)), v]) ∧ M' = M, ⟨⟨none, rfl⟩, rfl⟩, fun _ _ _ _ _ => trivial, ?_, ?_⟩
      · rintro i d τ M' ed ⟨⟨v, rfl⟩, rfl⟩
        rw [List.getElem?_map] at ed
        cases e : t.parts[i]? with
        | none => rw [e] at ed; cases ed
        | some p =>
          rw [e] at ed
          cases ed
          have h1 := depth_get e
          have h2 := depths_take _ _ _ e
          refine ⟨p, rfl, by (first | lia | omega), ⟨some p.d, ?_⟩, rfl⟩
          rw [h2]
          show [_, some (D.int (if (p.depth : Int) > ((Tree.depths (t.parts.take i) : Nat) : Int) then (p.depth : Int) else ((Tree.depths (t.parts.take i) : Nat) : Int))), _] = _
          have e3 : (if (p.depth : Int) > ((Tree.depths (t.parts.take i) : Nat) : Int) then (p.depth : Int) else ((Tree.depths (t.parts.take i) : Nat) : Int)) = ((max (Tree.depths (t.parts.take i)) p.depth : Nat) : Int) := by split <;> (first | lia | omega)
          rw [e3]
      · rintro τ M' ⟨⟨v, rfl⟩, rfl⟩
        rw [List.length_map, List.take_length]
        refine rt_done ?_
        have e3 : ((Tree.depths t.parts : Nat) : Int) + 1 = ((Tree.depths t.parts + 1 : Nat) : Int) := by (first | lia | omega)
        rw [e3]
        exact q
/-! ### alike, of anything -/
noncomputable def Al (M : DH) : Nat → D → D → Prop
  | 0, _, _ => False
  | n + 1, a, b => (∃ i, a = .int i ∧ b = .int i) ∨ (∃ z, a = .str z ∧ b = .str z) ∨ (∃ k, a = .bl k ∧ b = .bl k) ∨
      (∃ xs ys, a = .tup xs ∧ b = .tup ys ∧ xs.length = ys.length ∧ ys.length ≤ 1000000 ∧ ∀ (j : Nat) x y, xs[j]? = some x → ys[j]? = some y → Al M n x y) ∨
      ∃ l r xs ys, a = .ref l ∧ b = .ref r ∧ M l = some (.lst xs) ∧ M r = some (.lst ys) ∧ xs.length = ys.length ∧ ys.length ≤ 1000000 ∧ ∀ (j : Nat) x y, xs[j]? = some x → ys[j]? = some y → Al M n x y
noncomputable def spAl (n : Nat) : SpD := fun ds M Q => ∃ a b, ds = [a, b] ∧ Al M n a b ∧ Q (.bl true) M
theorem ok_al (T : Txt K mg) : ∀ n : Nat, FnD P w K mg base (n + 1) "_law_alike" ["found", "due"] (spAl n)
  | 0 => (fn_none T.f__law_alike fun ds M Q ⟨a, b, _, h, _⟩ => h).mono (by (first | lia | omega))
  | n + 1 => by
    have m_bool := T.m_bool
    have m_int := T.m_int
    have m_isinstance := T.m_isinstance
    have m_len := T.m_len
    have m_list := T.m_list
    have m_range := T.m_range
    have m_str := T.m_str
    have m_tuple := T.m_tuple
    have F__law_alike := ok_al T n
    refine def_ok T.f__law_alike sc__law_alike (fun ds M Q h => ?_) fun f cdv A outer s H E hr => ⟨_, (ss_cons (s_if (dt_val (d_callB cd_isi rfl m_isinstance bt_isinstance (a_cons (d_var 1) (a_cons (d_ty rfl m_bool bt_bool) a_nil)))) (ss_one (s_ret (d_and (d_callB cd_isi rfl m_isinstance bt_isinstance (a_cons (d_var 0) (a_cons (d_ty rfl m_bool bt_bool) a_nil))) (d_one (d_cmp (od_eq hr) (d_var 0) (d_var 1) (nomark _)))))) ss_nil)
 (ss_cons (s_if (dt_val (d_callB cd_isi rfl m_isinstance bt_isinstance (a_cons (d_var 1) (a_cons (d_ty rfl m_int bt_int) a_nil)))) (ss_one (s_ret (d_and (d_callB cd_isi rfl m_isinstance bt_isinstance (a_cons (d_var 0) (a_cons (d_ty rfl m_int bt_int) a_nil))) (d_and (d_not (d_callB cd_isi rfl m_isinstance bt_isinstance (a_cons (d_var 0) (a_cons (d_ty rfl m_bool bt_bool) a_nil)))) (d_one (d_cmp (od_eq hr) (d_var 0) (d_var 1) (nomark _))))))) ss_nil)
 (ss_cons (s_if (dt_val (d_callB cd_isi rfl m_isinstance bt_isinstance (a_cons (d_var 1) (a_cons (d_ty rfl m_str bt_str) a_nil)))) (ss_one (s_ret (d_and (d_callB cd_isi rfl m_isinstance bt_isinstance (a_cons (d_var 0) (a_cons (d_ty rfl m_str bt_str) a_nil))) (d_one (d_cmp (od_eq hr) (d_var 0) (d_var 1) (nomark _)))))) ss_nil)
 (ss_cons (s_if (dt_val (d_callB cd_isi rfl m_isinstance bt_isinstance (a_cons (d_var 1) (a_cons (d_ty rfl m_tuple bt_tuple) a_nil)))) (ss_one (s_if (dt_not (dt_val (d_callB cd_isi rfl m_isinstance bt_isinstance (a_cons (d_var 0) (a_cons (d_ty rfl m_tuple bt_tuple) a_nil))))) (ss_one (s_ret d_bl)) ss_nil)) (ss_one (s_if (dt_not (dt_val (d_callB cd_isi rfl m_isinstance bt_isinstance (a_cons (d_var 0) (a_cons (d_ty rfl m_list bt_list) a_nil))))) (ss_one (s_ret d_bl)) ss_nil)))
 (ss_cons (s_if (dt_cmp (od_ne hr) (d_callB cd_len rfl m_len bt_len (a_cons (d_var 0) a_nil)) (d_callB cd_len rfl m_len bt_len (a_cons (d_var 1) a_nil)) (nomark _)) (ss_one (s_ret d_bl)) ss_nil)
 (ss_cons (s_for1 PassesOwn.never rfl m_range (a_cons (d_callB cd_len rfl m_len bt_len (a_cons (d_var 1) a_nil)) a_nil) (g_name (i := 2) sc__law_alike.nd) (ss_one (s_if (dt_not (dt_val (d_call F__law_alike (hr.mono (by (first | lia | omega))) (a_cons (d_ix (d_var 0) (d_var 2)) (a_cons (d_ix (d_var 1) (d_var 2)) a_nil))))) (ss_one (s_ret d_bl)) ss_nil)))
 (ss_one (s_ret d_bl)))))))), fun ds M Q h => ?_⟩
    · obtain ⟨a, b, rfl, _⟩ := h; rfl
    · obtain ⟨a, b, rfl, h, q⟩ := h
      rcases h with ⟨i, rfl, rfl⟩ | ⟨z, rfl, rfl⟩ | ⟨k, rfl, rfl⟩ | ⟨xs, ys, rfl, rfl, hl, hz, hx⟩ | ⟨l, r, xs, ys, rfl, rfl, h1, h2, hl, hz, hx⟩
      · have e : (endsOf Q).rt (.bl (decide (i = i))) M := by rw [decide_eq_true rfl]; exact rt_done q
        exact e
      · have e : (endsOf Q).rt (.bl (decide (z = z))) M := by rw [decide_eq_true rfl]; exact rt_done q
        exact e
      · have e : (endsOf Q).rt (.bl (decide (k = k))) M := by rw [decide_eq_true rfl]; exact rt_done q
        exact e
      · show if (!decide ((xs.length : Int) = (ys.length : Int))) = true then _ else _
        rw [decide_eq_true (show (xs.length : Int) = (ys.length : Int) by rw [hl])]
        refine ⟨⟨by (first | lia | omega), by (first | lia | omega)⟩, fun i τ M' => (∃ v : Option D, τ = [some (.tup xs), some (.tup ys), v]) ∧ M' = M, ⟨⟨none, rfl⟩, rfl⟩, ?_, ?_⟩
        · rintro i τ M' hi ⟨⟨v, rfl⟩, rfl⟩
          have hi' : i < ys.length := by (first | lia | omega)
          have e1 := List.getElem?_eq_getElem (l := xs) (i := i) (by (first | lia | omega))
          have e2 := List.getElem?_eq_getElem (l := ys) (i := i) hi'
          show onSome (atI xs ((i : Nat) : Int)) fun d => onSome (atI ys ((i : Nat) : Int)) _
          rw [atI_nat e1]
          show onSome (atI ys ((i : Nat) : Int)) _
          rw [atI_nat e2]
          exact ⟨_, _, rfl, hx i _ _ e1 e2, ⟨_, rfl⟩, rfl⟩
        · rintro τ M' ⟨⟨v, rfl⟩, rfl⟩
          exact rt_done q
      · refine ⟨⟨_, h2⟩, ⟨_, h2⟩, ⟨_, h2⟩, ⟨_, h2⟩, ⟨_, h1⟩, _, h1, _, h2, ?_⟩
        show if (!decide ((xs.length : Int) = (ys.length : Int))) = true then _ else _
        rw [decide_eq_true (show (xs.length : Int) = (ys.length : Int) by rw [hl])]
        refine ⟨_, h2, ⟨by (first | lia | omega), by (first | lia | omega)⟩, fun i τ M' => (∃ v : Option D, τ = [some (.ref l), some (.ref r), v]) ∧ M' = M, ⟨⟨none, rfl⟩, rfl⟩, ?_, ?_⟩
        · rintro i τ M' hi ⟨⟨v, rfl⟩, rfl⟩
          have hi' : i < ys.length := by (first | lia | omega)
          have e1 := List.getElem?_eq_getElem (l := xs) (i := i) (by (first | lia | omega))
          have e2 := List.getElem?_eq_getElem (l := ys) (i := i) hi'
          exact ⟨_, _, h1, atI_nat e1, _, _, h2, atI_nat e2, _, _, rfl, hx i _ _ e1 e2, ⟨_, rfl⟩, rfl⟩
        · rintro τ M' ⟨⟨v, rfl⟩, rfl⟩
          exact rt_done q
theorem al_int {M : DH} {n : Nat} (i : Int) : Al M (n + 1) (.int i) (.int i) := .inl ⟨i, rfl, rfl⟩
theorem al_str {M : DH} {n : Nat} (z : Str) : Al M (n + 1) (.str z) (.str z) := .inr (.inl ⟨z, rfl, rfl⟩)
theorem al_tup {M : DH} {n : Nat} {xs : List D} (hz : xs.length ≤ 1000000) (h : ∀ x ∈ xs, Al M n x x) : Al M (n + 1) (.tup xs) (.tup xs) :=
  .inr (.inr (.inr (.inl ⟨xs, xs, rfl, rfl, rfl, hz, fun j x y e1 e2 => by rw [e1] at e2; cases e2; exact h x (List.mem_of_getElem? e1)⟩)))
mutual
theorem al_tree {M : DH} : ∀ (t : Tree) (n : Nat), t.knots ≤ 1000000 → 2 * t.depth ≤ n → Al M n t.d t.d
  | .block z ps, n, hk, h => by
    rw [Tree.depth] at h
    rw [Tree.knots] at hk
    obtain ⟨m, rfl⟩ : ∃ m, n = m + 2 := ⟨n - 2, by (first | lia | omega)⟩
    refine al_tup (by show 3 ≤ 1000000; decide) fun x hx => ?_
    simp only [List.mem_cons, List.not_mem_nil, or_false] at hx
    rcases hx with rfl | rfl | rfl
    · exact al_str _
    · exact al_str _
    · refine al_tup ?_ fun x hx => ?_
      · rw [ds_map, List.length_map]; have := length_knotss ps; (first | lia | omega)
      · rw [ds_map] at hx
        obtain ⟨t, ht, rfl⟩ := List.mem_map.mp hx
        exact al_trees ps m (by (first | lia | omega)) (by (first | lia | omega)) t ht
  | .blank k, n, _, h => by
    rw [Tree.depth] at h
    obtain ⟨m, rfl⟩ : ∃ m, n = m + 2 := ⟨n - 2, by (first | lia | omega)⟩
    refine al_tup (by show 2 ≤ 1000000; decide) fun x hx => ?_
    simp only [List.mem_cons, List.not_mem_nil, or_false] at hx
    rcases hx with rfl | rfl
    · exact al_str _
    · exact al_int _
theorem al_trees {M : DH} : ∀ (ts : List Tree) (n : Nat), Tree.knotss ts ≤ 1000000 → 2 * Tree.depths ts ≤ n → ∀ t ∈ ts, Al M n t.d t.d
  | [], _, _, _, t, h => (nomatch h)
  | u :: ts, n, hk, hd, t, h => by
    rw [Tree.knotss] at hk
    rw [Tree.depths] at hd
    rcases List.mem_cons.mp h with h | h
    · rw [h]; exact al_tree u n (by (first | lia | omega)) (by (first | lia | omega))
    · exact al_trees ts n (by (first | lia | omega)) (by (first | lia | omega)) t h
end
/-! ### blanks -/
noncomputable def ins (ks : List Int) (n : Int) : List Int := if n ∈ ks then ks else ks ++ [n]
/-! ### exchanging -/
mutual
noncomputable def exch (f : Int → Option Tree) : Tree → Tree
  | .block n ps => .block n (exchs f ps)
  | .blank k => (f k).getD (.blank k)
noncomputable def exchs (f : Int → Option Tree) : List Tree → List Tree
  | [] => []
  | t :: ts => exch f t :: exchs f ts
end
theorem exchs_map (f : Int → Option Tree) : ∀ ts : List Tree, exchs f ts = ts.map (exch f)
  | [] => rfl
  | t :: ts => by rw [exchs, exchs_map f ts]; rfl
noncomputable def pos : List Int → Int → Option Nat
  | [], _ => none
  | j :: ks, k => if j = k then some 0 else (pos ks k).map (· + 1)
/-! ### fillings as dicts -/
noncomputable def look (f : List (Int × Tree)) (k : Int) : Option Tree := (f.find? fun p => decide (p.1 = k)).map (·.2)
noncomputable def fdic (f : List (Int × Tree)) : List (Key × D) := f.map fun p => ((Sum.inl p.1 : Key), p.2.d)
theorem fdic_val (k : Int) : ∀ f : List (Int × Tree), valD (fdic f) (.inl k) = (look f k).map Tree.d
  | [] => rfl
  | p :: f => by
    have ih := fdic_val k f
    by_cases e : p.1 = k
    · have e1 : valD (fdic (p :: f)) (.inl k) = some p.2.d := valD_pos (p := ((Sum.inl p.1 : Key), p.2.d)) (by rw [e])
      rw [e1]
      unfold look
      rw [List.find?_cons, decide_eq_true e]
      rfl
    · have e1 : valD (fdic (p :: f)) (.inl k) = valD (fdic f) (.inl k) := valD_neg (p := ((Sum.inl p.1 : Key), p.2.d)) fun z => e (Sum.inl.inj z)
      rw [e1, ih]
      unfold look
      rw [List.find?_cons, decide_eq_false e]
theorem fdic_put {f : List (Int × Tree)} {k : Int} {t : Tree} (h : look f k = none) : putD (fdic f) (.inl k) t.d = fdic (f ++ [(k, t)]) := by
  rw [putD_new _ (by rw [fdic_val, h]; rfl)]
  unfold fdic
  rw [List.map_append]
  rfl
/-- the numbers, named c, c + 1, .. -/
noncomputable def nf : Nat → List Int → List (Int × Tree)
  | _, [] => []
  | c, k :: ks => (k, .blank (c : Int)) :: nf (c + 1) ks
mutual
theorem d_inj : ∀ t u : Tree, t.d = u.d → t = u
  | .block n ps, .block m qs, e => by
    simp only [Tree.d, D.tup.injEq, List.cons.injEq, D.str.injEq, and_true, true_and] at e
    obtain ⟨e1, e2⟩ := e
    subst e1
    rw [ds_inj ps qs e2]
  | .blank k, .blank j, e => by
    simp only [Tree.d, D.tup.injEq, List.cons.injEq, D.int.injEq, and_true, true_and] at e
    rw [e]
  | .block n ps, .blank j, e => by simp [Tree.d] at e
  | .blank k, .block m qs, e => by simp [Tree.d] at e
theorem ds_inj : ∀ ts us : List Tree, Tree.ds ts = Tree.ds us → ts = us
  | [], [], _ => rfl
  | [], _ :: _, e => by simp [Tree.ds] at e
  | _ :: _, [], e => by simp [Tree.ds] at e
  | t :: ts, u :: us, e => by
    simp only [Tree.ds, List.cons.injEq] at e
    rw [d_inj t u e.1, ds_inj ts us e.2]
end
open Classical in
noncomputable def byTree (g : Tree → Tree) (d : D) : Option D := if h : ∃ t : Tree, t.d = d then some (g h.choose).d else none
theorem byTree_d (g : Tree → Tree) (t : Tree) : byTree g t.d = some (g t).d := by
  have h : ∃ u : Tree, u.d = t.d := ⟨t, rfl⟩
  unfold byTree
  rw [dif_pos h, d_inj _ _ h.choose_spec]
theorem byTree_map (g : Tree → Tree) : ∀ ts : List Tree, (ts.map Tree.d).filterMap (byTree g) = (ts.map g).map Tree.d
  | [] => rfl
  | t :: ts => by rw [List.map_cons, List.filterMap_cons, byTree_d, byTree_map g ts]; rfl
theorem fgtA {a : Option D} {d : D} : Fgt [none, a] [some d, a] := ⟨rfl, fun i x e => by
  match i, e with
  | 0, e => cases e
  | 1, e => exact e
  | i + 2, e => simp at e⟩
noncomputable def spEx (n : Nat) : SpD := fun ds M Q => ∃ (t : Tree) (l : Addr) (f : List (Int × Tree)), ds = [t.d, .ref l] ∧ t.depth ≤ n ∧ t.knots ≤ 1000 ∧ DicAt M l (fdic f) ∧ Q (exch (look f) t).d M
theorem get_blank (f : List (Int × Tree)) (k : Int) : (valD (fdic f) (.inl k)).getD (Tree.blank k).d = (exch (look f) (.blank k)).d := by
  rw [fdic_val, exch]
  cases look f k with
  | none => rfl
  | some t => rfl
theorem dic_sub {M M' : DH} {l : Addr} {kvs : List (Key × D)} (h : DicAt M l kvs) (s : Sub M M') : DicAt M' l kvs := h.elim (fun h => .inl (s _ _ h)) fun h => .inr (s _ _ h)
-- DICTS plain.naming law.names
theorem ok_exchanged (T : Txt K mg) : ∀ n : Nat, FnD P w K mg base (n + 1) "exchanged" ["tree", "filling"] (spEx n)
  | 0 => (fn_none T.f_exchanged fun ds M Q ⟨t, _, _, _, h, _⟩ => by have := depth_pos t; (first | lia | omega)).mono (by (first | lia | omega))
  | n + 1 => by
    have m_tuple := T.m_tuple
    have F_exchanged := ok_exchanged T n
    have F_parts_of := ok_parts_of (P := P) (w := w) (base := base) T
    refine def_ok T.f_exchanged sc_exchanged (fun ds M Q h => ?_) fun f cdv A outer s H E hr => ⟨_, (ss_cons (s_if (dt_cmp (od_eq hr) (d_ix (d_var 0) d_int) d_str (nomark _)) (ss_one (s_ret (d_get2D hr (d_var 1) (d_ix (d_var 0) d_int) (d_var 0)))) ss_nil)
 (ss_cons (s_set (i := 2) sc_exchanged.nd (d_lst a_nil))
 (ss_cons (s_for PassesOwn.never rfl (d_call F_parts_of (hr.mono (by (first | lia | omega))) (a_cons (d_var 0) a_nil)) (g_name (i := 3) sc_exchanged.nd) (ss_one (s_expr (d_bm PySem.F.plainAttrs_list PySem.F.slot_list_append PySem.F.type_list_append md_append (d_var 2) (a_cons (d_call F_exchanged (hr.mono (by (first | lia | omega))) (a_cons (d_var 3) (a_cons (d_var 1) a_nil))) a_nil)))))
 (ss_one (s_ret (d_tup (a_cons d_str (a_cons (d_ix (d_var 0) d_int) (a_cons (d_callTy cd_tuple rfl m_tuple bt_tuple (a_cons (d_var 2) a_nil)) a_nil))))))))), fun ds M Q h => ?_⟩
    · obtain ⟨t, l, f, rfl, _⟩ := h; rfl
    · obtain ⟨t, l, f, rfl, hd, hk, hl, q⟩ := h
      cases t with
      | blank k =>
        rw [← get_blank] at q
        exact ⟨⟨_, hl⟩, _, _, rfl, hl, rt_done q⟩
      | block z ps =>
        rw [Tree.depth] at hd
        rw [Tree.knots] at hk
        rw [exch, exchs_map] at q
        show ∀ p, M p = none → _
        intro p hp
        refine ⟨.block z ps, rfl, ?_⟩
        refine ⟨fun i τ M' => (∃ v : Option D, τ = [some (Tree.block z ps).d, some (.ref l), some (.ref p), v]) ∧ M' = updM M p (.lst (((ps.take i).map (exch (look f))).map Tree.d)), ⟨⟨none, rfl⟩, rfl⟩, fun _ _ _ _ _ => trivial, ?_, ?_⟩
        · rintro i d τ M' ed ⟨⟨v, rfl⟩, rfl⟩
          rw [List.getElem?_map] at ed
          cases e : (Tree.block z ps).parts[i]? with
          | none => rw [e] at ed; cases ed
          | some u =>
            rw [e] at ed
            cases ed
            have e' : ps[i]? = some u := e
            have h1 := depth_get e'
            have h2 := knots_get e'
            have h3 := length_knotss ps
            refine ⟨⟨rfl, _, updM_same⟩, u, l, f, rfl, by (first | lia | omega), by (first | lia | omega), dic_sub hl (Sub.new hp), _, updM_same, ?_, ?_⟩
            · rw [List.length_map, List.length_map, List.length_take]; exact small1000 (by (first | lia | omega))
            · rw [updM_upd]
              refine ⟨⟨_, rfl⟩, ?_⟩
              rw [List.take_add_one, e', List.map_append, List.map_append]
              rfl
        · rintro τ M' ⟨⟨v, rfl⟩, rfl⟩
          have e : (((Tree.block z ps).parts.map Tree.d).length : Nat) = ps.length := by rw [List.length_map]; rfl
          rw [e, List.take_length]
          refine ⟨_, updM_same, M, Sub.new hp, ?_⟩
          rw [Tree.d, ds_map] at q
          exact q
theorem ok_lexchanged (T : Txt K mg) : ∀ n : Nat, FnD P w K mg base (n + 1) "_law_exchanged" ["tree", "filling"] (spEx n)
  | 0 => (fn_none T.f__law_exchanged fun ds M Q ⟨t, _, _, _, h, _⟩ => by have := depth_pos t; (first | lia | omega)).mono (by (first | lia | omega))
  | n + 1 => by
    have m_tuple := T.m_tuple
    have F__law_exchanged := ok_lexchanged T n
    refine def_ok T.f__law_exchanged sc__law_exchanged (fun ds M Q h => ?_) fun f cdv A outer s H E hr => ⟨_, (ss_cons (s_if (dt_cmp (od_eq hr) (d_ix (d_var 0) d_int) d_str (nomark _)) (ss_one (s_ret (d_get2D hr (d_var 1) (d_ix (d_var 0) d_int) (d_var 0)))) ss_nil)
 (ss_one (s_ret (d_tup (a_cons d_str (a_cons (d_ix (d_var 0) d_int) (a_cons (d_callTy cd_tuple rfl m_tuple bt_tuple (a_cons (d_comp (Nc := ["part", "filling"]) (js := [none, some 1]) (comp_okF ["tree", "filling"] (defScope s__law_exchanged).names rfl rfl rfl rfl (by decide +kernel) (by decide +kernel) (by decide +kernel) rfl (by decide +kernel)) rfl (d_ix (d_var 0) d_int) (fun C s H fp => (g_name (i := 0) (by show List.Nodup (["part", "filling"] : List Str); decide +kernel))) (fun C s H fp => Or.inl ⟨rfl, rfl⟩) (fun C s H fp => (d_call F__law_exchanged (hr.mono (by (first | lia | omega))) (a_cons (d_var 0) (a_cons (d_var 1) a_nil))))) a_nil)) a_nil))))))), fun ds M Q h => ?_⟩
    · obtain ⟨t, l, f, rfl, _⟩ := h; rfl
    · obtain ⟨t, l, f, rfl, hd, hk, hl, q⟩ := h
      cases t with
      | blank k =>
        rw [← get_blank] at q
        exact ⟨⟨_, hl⟩, _, _, rfl, hl, rt_done q⟩
      | block z ps =>
        rw [Tree.depth] at hd
        rw [Tree.knots] at hk
        rw [exch, exchs_map] at q
        have h3 := length_knotss ps
        refine ⟨by rw [ds_map, List.length_map]; (first | lia | omega), byTree (exch (look f)), ?_, fun p hp => ?_⟩
        · intro d hdm p acc hp
          rw [ds_map] at hdm
          obtain ⟨u, hu, rfl⟩ := List.mem_map.mp hdm
          obtain ⟨i, hi, e⟩ := List.getElem_of_mem hu
          have e' : ps[i]? = some u := by rw [List.getElem?_eq_getElem hi, e]
          have h1 := depth_get e'
          have h2 := knots_get e'
          exact ⟨fgtA, u, l, f, rfl, by (first | lia | omega), by (first | lia | omega), dic_sub hl (Sub.new hp), rfl, byTree_d _ u⟩
        · rw [ds_map, byTree_map]
          refine ⟨_, updM_same, M, Sub.new hp, ?_⟩
          rw [Tree.d, ds_map] at q
          exact q
/-! ### renaming -/
theorem look_get : ∀ {f : List (Int × Tree)} {i : Nat} {q : Int × Tree}, (f.map (·.1)).Nodup → f[i]? = some q → look f q.1 = some q.2
  | [], _, _, _, e => by simp at e
  | x :: f, 0, q, _, e => by simp at e; subst e; unfold look; rw [List.find?_cons, decide_eq_true rfl]; rfl
  | x :: f, i + 1, q, h, e => by
    rw [List.map_cons, List.nodup_cons] at h
    have e' : f[i]? = some q := by simpa using e
    have hne : ¬ x.1 = q.1 := fun z => h.1 (z ▸ List.mem_map_of_mem (f := (·.1)) (List.mem_of_getElem? e'))
    have ih := look_get h.2 e'
    unfold look at ih ⊢
    rw [List.find?_cons, decide_eq_false hne]
    exact ih
theorem look_not : ∀ {f : List (Int × Tree)} {k : Int}, k ∉ f.map (·.1) → look f k = none
  | [], _, _ => rfl
  | x :: f, k, h => by
    have h1 : ¬ x.1 = k := fun z => h (z ▸ List.mem_cons_self)
    have ih := look_not (f := f) (k := k) fun z => h (List.mem_cons_of_mem _ z)
    unfold look at ih ⊢
    rw [List.find?_cons, decide_eq_false h1]
    exact ih
theorem look_mem : ∀ {f : List (Int × Tree)} {k : Int} {u : Tree}, look f k = some u → (k, u) ∈ f
  | [], _, _, h => by cases h
  | x :: f, k, u, h => by
    unfold look at h
    rw [List.find?_cons] at h
    by_cases e : x.1 = k
    · rw [decide_eq_true e] at h
      have : x.2 = u := Option.some.inj h
      subst e this
      exact List.mem_cons_self
    · rw [decide_eq_false e] at h
      exact List.mem_cons_of_mem _ (look_mem (f := f) h)
/-- one filling and then the other -/
noncomputable def behind (f g : List (Int × Tree)) : List (Int × Tree) := f.map (fun q => (q.1, exch (look g) q.2)) ++ g.filter fun q => (look f q.1).isNone
theorem look_map (e : Tree → Tree) : ∀ (f : List (Int × Tree)) (k : Int), look (f.map fun q => (q.1, e q.2)) k = (look f k).map e
  | [], _ => rfl
  | x :: f, k => by
    have ih := look_map e f k
    unfold look at ih ⊢
    rw [List.map_cons, List.find?_cons, List.find?_cons]
    by_cases h : x.1 = k
    · rw [decide_eq_true h]; rfl
    · rw [decide_eq_false h]; exact ih
theorem look_app : ∀ (f g : List (Int × Tree)) (k : Int), look (f ++ g) k = (look f k).or (look g k)
  | [], _, _ => by simp [look]
  | x :: f, g, k => by
    have ih := look_app f g k
    unfold look at ih ⊢
    rw [List.cons_append, List.find?_cons, List.find?_cons]
    by_cases h : x.1 = k
    · rw [decide_eq_true h]; rfl
    · rw [decide_eq_false h]; exact ih
section
variable {big step : Int} {t : Tree}
end
/-! ### how great a tree so filled is, by its places -/
noncomputable def kn (f : Int → Option Tree) (y : PT') : Nat := match y.2 with
  | .blank k => ((f k).getD (.blank k)).knots
  | .block _ _ => 1
noncomputable def dn (f : Int → Option Tree) (y : PT') : Nat := y.1.length + (match y.2 with
  | .blank k => ((f k).getD (.blank k)).depth
  | .block _ _ => 1)
noncomputable def sumK (f : Int → Option Tree) : List PT' → Nat
  | [] => 0
  | y :: l => kn f y + sumK f l
noncomputable def maxD (f : Int → Option Tree) : List PT' → Nat
  | [] => 0
  | y :: l => max (dn f y) (maxD f l)
theorem sumK_app (f : Int → Option Tree) : ∀ a b : List PT', sumK f (a ++ b) = sumK f a + sumK f b
  | [], b => by rw [List.nil_append, sumK]; (first | lia | omega)
  | y :: a, b => by rw [List.cons_append, sumK, sumK, sumK_app f a b]; (first | lia | omega)
theorem maxD_app (f : Int → Option Tree) : ∀ a b : List PT', maxD f (a ++ b) = max (maxD f a) (maxD f b)
  | [], b => by rw [List.nil_append, maxD, Nat.zero_max]
  | y :: a, b => by rw [List.cons_append, maxD, maxD, maxD_app f a b, Nat.max_assoc]
mutual
theorem sum_pre (f : Int → Option Tree) (p : List Int) : ∀ t : Tree, sumK f (pre p t) = (exch f t).knots
  | .blank k => by rw [pre, sumK, sumK, exch]; rfl
  | .block n ps => by rw [pre, sumK, sum_pres f p ps 0, exch, Tree.knots]; show 1 + _ = _; (first | lia | omega)
theorem sum_pres (f : Int → Option Tree) (p : List Int) : ∀ (ts : List Tree) (i : Nat), sumK f (pres p i ts) = Tree.knotss (exchs f ts)
  | [], i => by rw [pres, sumK, exchs, Tree.knotss]
  | t :: ts, i => by rw [pres, sumK_app, sum_pre f _ t, sum_pres f p ts (i + 1), exchs, Tree.knotss]
end
mutual
theorem max_pre (f : Int → Option Tree) (p : List Int) : ∀ t : Tree, maxD f (pre p t) = p.length + (exch f t).depth
  | .blank k => by
    rw [pre, maxD, maxD, exch]
    show max (p.length + ((f k).getD (.blank k)).depth) 0 = _
    (first | lia | omega)
  | .block n ps => by
    have h := max_pres f p ps 0
    rw [pre, maxD, exch, Tree.depth]
    show max (p.length + 1) _ = _
    (first | lia | omega)
theorem max_pres (f : Int → Option Tree) (p : List Int) : ∀ (ts : List Tree) (i : Nat), max (p.length + 1) (maxD f (pres p i ts)) = p.length + 1 + Tree.depths (exchs f ts)
  | [], i => by rw [pres, maxD, exchs, Tree.depths]; grind
  | t :: ts, i => by
    have h := max_pres f p ts (i + 1)
    rw [pres, maxD_app, max_pre f _ t, exchs, Tree.depths, List.length_append]
    show max (p.length + 1) (max (p.length + 1 + _) _) = _
    grind
end
noncomputable def tooG (t : Tree) : Bool := decide (400 < t.knots) || decide (60 < t.depth)
mutual
theorem exch_none : ∀ t : Tree, exch (fun _ => none) t = t
  | .blank k => by rw [exch]; rfl
  | .block n ps => by rw [exch, exchs_none ps]
theorem exchs_none : ∀ ts : List Tree, exchs (fun _ => none) ts = ts
  | [] => by rw [exchs]
  | t :: ts => by rw [exchs, exch_none t, exchs_none ts]
end
/-- the longest place and one more is the depth -/
theorem long_place (t : Tree) : (∀ y ∈ pre [] t, y.1.length + 1 ≤ t.depth) ∧ ∃ y ∈ pre [] t, y.1.length + 1 = t.depth := by
  have h := max_pre (fun _ => none) [] t
  rw [exch_none] at h
  have hdn : ∀ y : PT', dn (fun _ => none) y = y.1.length + 1 := fun y => by
    unfold dn
    cases y.2 with
    | blank k => rfl
    | block n ps => rfl
  have key : ∀ l : List PT', (∀ y ∈ l, y.1.length + 1 ≤ maxD (fun _ => none) l) ∧ (l ≠ [] → ∃ y ∈ l, y.1.length + 1 = maxD (fun _ => none) l) := fun l => by
    induction l with
    | nil => exact ⟨fun y hy => (nomatch hy), fun z => absurd rfl z⟩
    | cons x l ih =>
      rw [maxD, hdn]
      refine ⟨fun y hy => ?_, fun _ => ?_⟩
      · rcases List.mem_cons.mp hy with rfl | hy
        · (first | lia | omega)
        · have := ih.1 y hy; (first | lia | omega)
      · by_cases c : maxD (fun _ => none) l ≤ x.1.length + 1
        · exact ⟨x, by simp, by (first | lia | omega)⟩
        · have hne : l ≠ [] := by intro z; rw [z, maxD] at c; (first | lia | omega)
          obtain ⟨y, hy, e⟩ := ih.2 hne
          exact ⟨y, List.mem_cons_of_mem _ hy, by (first | lia | omega)⟩
  have hne : pre [] t ≠ [] := by cases t <;> simp [pre]
  rw [List.length_nil, Nat.zero_add] at h
  rw [← h]
  exact ⟨(key _).1, (key _).2 hne⟩
noncomputable def sdz (f : List (Int × Tree)) : List (Key × D) := f.map fun q => (Sum.inl q.1, D.tup [.int q.2.knots, .int q.2.depth])
theorem sdz_val (k : Int) : ∀ f : List (Int × Tree), valD (sdz f) (.inl k) = (look f k).map fun t => D.tup [.int t.knots, .int t.depth]
  | [] => rfl
  | q :: f => by
    by_cases e : q.1 = k
    · rw [show sdz (q :: f) = (Sum.inl q.1, D.tup [.int q.2.knots, .int q.2.depth]) :: sdz f from rfl, valD_pos (by rw [e])]
      unfold look
      rw [List.find?_cons, decide_eq_true e]; rfl
    · rw [show sdz (q :: f) = (Sum.inl q.1, D.tup [.int q.2.knots, .int q.2.depth]) :: sdz f from rfl, valD_neg (fun z => e (Sum.inl.inj z)), sdz_val k f]
      unfold look
      rw [List.find?_cons, decide_eq_false e]
theorem sdz_put {f : List (Int × Tree)} {k : Int} {t : Tree} (h : look f k = none) : putD (sdz f) (.inl k) (.tup [.int t.knots, .int t.depth]) = sdz (f ++ [(k, t)]) := by
  rw [putD_new _ (by rw [sdz_val, h]; rfl)]
  unfold sdz
  rw [List.map_append]; rfl
noncomputable def lenD1 : D → Option D
  | .tup [.tup xs, _] => some (.int xs.length)
  | _ => none
theorem len_pd : ∀ xs : List PT', (xs.map pd).filterMap lenD1 = (xs.map fun y => ((y.1.length : Nat) : Int)).map D.int
  | [] => rfl
  | x :: xs => by
    rw [List.map_cons, List.map_cons, List.map_cons, ← len_pd xs]
    show D.int (((x.1.map D.int).length : Nat) : Int) :: _ = _
    rw [List.length_map]
theorem fgtP {a b : D} : Fgt [none, none] [some a, some b] := ⟨rfl, fun i x e => by
  match i, e with
  | 0, e => cases e
  | 1, e => cases e
  | i + 2, e => cases e⟩
theorem fdic_get {f : List (Int × Tree)} {i : Nat} {k : Key} {d : D} (h : (fdic f)[i]? = some (k, d)) : ∃ q, f[i]? = some q ∧ k = .inl q.1 ∧ d = q.2.d := by
  unfold fdic at h
  rw [List.getElem?_map] at h
  cases e : f[i]? with
  | none => rw [e] at h; cases h
  | some q => rw [e] at h; cases h; exact ⟨q, rfl, rfl, rfl⟩
theorem nd_take {f : List (Int × Tree)} {i : Nat} {q : Int × Tree} (h : (f.map (·.1)).Nodup) (e : f[i]? = some q) : q.1 ∉ (f.take i).map (·.1) := by
  have h2 : ((f.take (i + 1)).map (·.1)).Nodup := h.sublist ((List.take_sublist _ _).map _)
  rw [List.take_add_one, e, List.map_append] at h2
  intro z
  exact (List.nodup_append.mp h2).2.2 _ z _ (by simp) rfl
noncomputable def spTG : SpD := fun ds M Q => ∃ (t : Tree) (l : Addr) (f : List (Int × Tree)), ds = [t.d, .ref l] ∧ M l = some (.dic (fdic f)) ∧ (f.map (·.1)).Nodup ∧ f.length ≤ 100 ∧ t.knots ≤ 450 ∧ (∀ q ∈ f, q.2.knots ≤ 450) ∧ Q (.bl (tooG (exch (look f) t))) M
theorem ok_tg (T : Txt K mg) : FnD P w K mg base 3 "_law_too_great" ["tree", "filling"] spTG := by
  have m_len := T.m_len
  have m_max := T.m_max
  have F__law_places := ok_places (P := P) (w := w) (base := base) T
  refine def_ok T.f__law_too_great sc__law_too_great (fun ds M Q h => ?_) fun f cdv A outer s H E hr => ⟨_, (ss_cons (s_set (i := 2) sc__law_too_great.nd d_dict0)
 (ss_cons (s_forK PassesOwn.never rfl (d_var 1) (g_name (i := 3) sc__law_too_great.nd) (ss_cons (s_set (i := 4) sc__law_too_great.nd (d_call F__law_places (hr.mono (by (first | lia | omega))) (a_cons (d_ixK hr (d_var 1) (d_var 3)) a_nil)))
 (ss_one (s_asg (d_tup (a_cons (d_callB cd_len rfl m_len bt_len (a_cons (d_var 4) a_nil)) (a_cons (d_op od_add d_int (d_callB (cd_maxL rfl) rfl m_max bt_max (a_cons (d_comp (Nc := ["place", "here"]) (js := [none, none]) (comp_ok0 (by decide +kernel) (by decide +kernel) (by decide +kernel) rfl rfl) rfl (d_var 4) (fun C s H fp => (g_tup rfl (gs_cons (g_name (i := 0) (by show List.Nodup (["place", "here"] : List Str); decide +kernel)) (gs_cons (g_name (i := 1) (by show List.Nodup (["place", "here"] : List Str); decide +kernel)) gs_nil)) len_2)) (fun C s H fp => Or.inl ⟨rfl, rfl⟩) (fun C s H fp => (d_callB cd_len rfl m_len bt_len (a_cons (d_var 0) a_nil)))) a_nil))) a_nil))) (g_subK hr (d_var 2) (d_var 3))))))
 (ss_cons (s_set (i := 5) sc__law_too_great.nd d_int)
 (ss_cons (s_set (i := 6) sc__law_too_great.nd d_int)
 (ss_cons (s_for PassesOwn.never rfl (d_call F__law_places (hr.mono (by (first | lia | omega))) (a_cons (d_var 0) a_nil)) (g_tup rfl (gs_cons (g_name (i := 7) sc__law_too_great.nd) (gs_cons (g_name (i := 8) sc__law_too_great.nd) gs_nil)) len_2) (ss_cons (s_set (i := 9) sc__law_too_great.nd (d_tup (a_cons d_int (a_cons d_int a_nil))))
 (ss_cons (s_if (dt_cmp (od_eq hr) (d_ix (d_var 8) d_int) d_str (nomark _)) (ss_one (s_set (i := 9) sc__law_too_great.nd (d_get2D hr (d_var 2) (d_ix (d_var 8) d_int) (d_tup (a_cons d_int (a_cons d_int a_nil)))))) ss_nil)
 (ss_cons (s_set (i := 5) sc__law_too_great.nd (d_op od_add (d_var 5) (d_ix (d_var 9) d_int)))
 (ss_one (s_set (i := 6) sc__law_too_great.nd (d_callB (cd_max2 rfl) rfl m_max bt_max (a_cons (d_var 6) (a_cons (d_op od_add (d_callB cd_len rfl m_len bt_len (a_cons (d_var 7) a_nil)) (d_ix (d_var 9) d_int)) a_nil)))))))))
 (ss_one (s_ret (d_or (d_cmp od_gt (d_var 5) d_int (nomark _)) (d_one (d_cmp od_gt (d_var 6) d_int (nomark _))))))))))), fun ds M Q h => ?_⟩
  · obtain ⟨t, l, f, rfl, _⟩ := h; rfl
  · obtain ⟨t, l, f, rfl, hl, hnd, hfl, htk, hfk, q⟩ := h
    show ∀ p, M p = none → _
    intro lz hlz
    have hne : l ≠ lz := by intro z; subst z; rw [hl] at hlz; cases hlz
    have flen : (fdic f).length = f.length := by unfold fdic; rw [List.length_map]
    refine ⟨fdic f, by rw [updM_ne hne]; exact hl, fun i τ M' => ∃ v3 v4 v5 v6 v7 v8 v9 : Option D, τ = [some t.d, some (.ref l), some (.ref lz), v3, v4, v5, v6, v7, v8, v9] ∧ M' l = some (.fdc (fdic f)) ∧ M' lz = some (.dic (sdz (f.take i))) ∧ Sub (updM M l (.fdc (fdic f))) M', ⟨none, none, none, none, none, none, none, rfl, updM_same, by rw [updM_ne (Ne.symm hne), updM_same]; rfl, ?_⟩, fun i τ M' _ ⟨_, _, _, _, _, _, _, _, hW, _⟩ => hW, ?_, ?_⟩
    · intro c o e
      by_cases hc : c = l
      · subst hc; rw [updM_same] at e ⊢; exact e
      · rw [updM_ne hc] at e ⊢
        rw [updM_ne (by intro z; subst z; rw [hlz] at e; cases e)]; exact e
    · rintro i k d τ M' ek ⟨v3, v4, v5, v6, v7, v8, v9, rfl, h1, h2, hs⟩
      obtain ⟨x, ex, rfl, rfl⟩ := fdic_get ek
      have hx := hfk x (List.mem_of_getElem? ex)
      have hi := (List.getElem?_eq_some_iff.mp ex).1
      refine ⟨_, _, x.2.d, rfl, .inr h1, by rw [fdic_val, look_get hnd ex]; rfl, x.2, rfl, hx, fun lp hlp => ?_⟩
      have hpl : lp ≠ l := by intro z; subst z; rw [h1] at hlp; cases hlp
      have hpz : lp ≠ lz := by intro z; subst z; rw [h2] at hlp; cases hlp
      have hkn := pre_length [] x.2
      refine ⟨_, updM_same, _, updM_same, by rw [List.length_map]; (first | lia | omega), lenD1, ?_, fun c1 hc1 => ?_⟩
      · intro d hd p acc hp
        obtain ⟨y, hy, rfl⟩ := List.mem_map.mp hd
        exact ⟨fgtP, rfl, rfl⟩
      rw [len_pd]
      refine ⟨(pre [] x.2).map fun y => ((y.1.length : Nat) : Int), by intro z; rw [List.map_eq_nil_iff] at z; rw [z] at hkn; have := depth_pos x.2; have := depth_le_knots x.2; simp at hkn; (first | lia | omega), updM_same, fun m hm hmx => ?_⟩
      obtain ⟨lo1, y, hy, lo2⟩ := long_place x.2
      have em : 1 + m = ((x.2.depth : Nat) : Int) := by
        obtain ⟨y', hy', e⟩ := List.mem_map.mp hm
        have a1 := lo1 y' hy'
        have a2 := hmx _ (List.mem_map_of_mem (f := fun y : PT' => ((y.1.length : Nat) : Int)) hy)
        have e' : ((y'.1.length : Nat) : Int) = m := e
        have a2' : ((y.1.length : Nat) : Int) ≤ m := a2
        (first | lia | omega)
      rw [List.length_map, hkn]
      obtain ⟨c2, c3⟩ := upd_none hc1
      have hcz : c1 ≠ lz := by intro z; subst z; rw [h2] at c3; cases c3
      have hcl : c1 ≠ l := by intro z; subst z; rw [h1] at c3; cases c3
      have hz2 : updM (updM M' lp (.lst ((pre [] x.2).map pd))) c1 (.lst (((pre [] x.2).map fun y => ((y.1.length : Nat) : Int)).map D.int)) lz = some (.dic (sdz (f.take i))) := Sub.new hc1 _ _ (Sub.new hlp _ _ h2)
      refine ⟨.inl x.1, _, rfl, hz2, by unfold sdz; rw [List.length_map, List.length_take]; exact small1000 (by (first | lia | omega)), _, _, _, _, _, _, _, rfl, ?_, ?_, ?_⟩
      · rw [updM_ne hne]; exact Sub.new hc1 _ _ (Sub.new hlp _ _ h1)
      · rw [updM_same]
        have e4 : f.take (i + 1) = f.take i ++ [x] := by rw [List.take_add_one, ex]; rfl
        show some (MO.dic (putD (sdz (f.take i)) (.inl x.1) (.tup [.int ((x.2.knots : Nat) : Int), .int (1 + m)]))) = _
        rw [em, sdz_put (look_not (nd_take hnd ex)), e4]
      · exact sub_upd ((hs.trans (Sub.new hlp)).trans (Sub.new hc1)) (by rw [updM_ne (Ne.symm hne)]; exact hlz)
    · rintro τ M' ⟨v3, v4, v5, v6, v7, v8, v9, rfl, h1, h2, hs⟩
      have ef : f.take (fdic f).length = f := by rw [flen, List.take_length]
      rw [ef] at h2
      have g2 : updM M' l (.dic (fdic f)) lz = some (.dic (sdz f)) := by rw [updM_ne (Ne.symm hne)]; exact h2
      have gs : Sub M (updM M' l (.dic (fdic f))) := fun c o e => by
        by_cases hc : c = l
        · subst hc; rw [updM_same]; rw [hl] at e; exact e
        · rw [updM_ne hc]; exact hs c o (by rw [updM_ne hc]; exact e)
      generalize updM M' l (.dic (fdic f)) = M1 at *
      refine ⟨t, rfl, htk, fun lp hlp => ?_⟩
      have g3 : updM M1 lp (.lst ((pre [] t).map pd)) lz = some (.dic (sdz f)) := Sub.new hlp _ _ g2
      have gs2 : Sub M (updM M1 lp (.lst ((pre [] t).map pd))) := gs.trans (Sub.new hlp)
      have g4 : updM M1 lp (.lst ((pre [] t).map pd)) lp = some (.lst ((pre [] t).map pd)) := updM_same
      generalize updM M1 lp (.lst ((pre [] t).map pd)) = M2 at *
      refine ⟨_, g4, fun i τ M'' => ∃ v7 v8 v9 : Option D, τ = [some t.d, some (.ref l), some (.ref lz), v3, v4, some (.int (sumK (look f) ((pre [] t).take i) : Nat)), some (.int (maxD (look f) ((pre [] t).take i) : Nat)), v7, v8, v9] ∧ M'' = M2, ⟨_, _, _, rfl, rfl⟩, fun i τ M'' _ ⟨_, _, _, _, e⟩ => by rw [e]; exact g4, ?_, ?_⟩
      · rintro i d τ M'' ed ⟨v7, v8, v9, rfl, rfl⟩
        rw [List.getElem?_map] at ed
        cases ey : (pre [] t)[i]? with
        | none => rw [ey] at ed; cases ed
        | some y =>
          rw [ey] at ed
          cases ed
          have etk : (pre [] t).take (i + 1) = (pre [] t).take i ++ [y] := by rw [List.take_add_one, ey]; rfl
          have es : sumK (look f) ((pre [] t).take (i + 1)) = sumK (look f) ((pre [] t).take i) + kn (look f) y := by rw [etk, sumK_app, sumK, sumK]; (first | lia | omega)
          have em : maxD (look f) ((pre [] t).take (i + 1)) = max (maxD (look f) ((pre [] t).take i)) (dn (look f) y) := by rw [etk, maxD_app, maxD, maxD]; (first | lia | omega)
          obtain ⟨pl, here⟩ := y
          cases here with
          | block z qs =>
            have ek : kn (look f) (pl, Tree.block z qs) = 1 := rfl
            have ed2 : dn (look f) (pl, Tree.block z qs) = pl.length + 1 := rfl
            have e1 : ((sumK (look f) ((pre [] t).take i) : Nat) : Int) + 1 = ((sumK (look f) ((pre [] t).take (i + 1)) : Nat) : Int) := by rw [es, ek]; (first | lia | omega)
            have e2 : (if (((pl.map D.int).length : Nat) : Int) + 1 > ((maxD (look f) ((pre [] t).take i) : Nat) : Int) then (((pl.map D.int).length : Nat) : Int) + 1 else ((maxD (look f) ((pre [] t).take i) : Nat) : Int)) = ((maxD (look f) ((pre [] t).take (i + 1)) : Nat) : Int) := by
              rw [em, ed2, List.length_map]
              split <;> (first | lia | omega)
            show ∃ v7 v8 v9 : Option D, _ = [some t.d, some (.ref l), some (.ref lz), v3, v4, some (.int (sumK (look f) ((pre [] t).take (i + 1)) : Nat)), some (.int (maxD (look f) ((pre [] t).take (i + 1)) : Nat)), v7, v8, v9] ∧ _
            rw [← e1, ← e2]
            exact ⟨_, _, _, rfl, rfl⟩
          | blank k =>
            refine ⟨⟨_, .inl g3⟩, .inl k, sdz f, rfl, .inl g3, ?_⟩
            rw [sdz_val]
            cases hk : look f k with
            | none =>
              have ek : kn (look f) (pl, Tree.blank k) = 1 := by show ((look f k).getD (.blank k)).knots = 1; rw [hk]; rfl
              have ed2 : dn (look f) (pl, Tree.blank k) = pl.length + 1 := by show pl.length + ((look f k).getD (.blank k)).depth = _; rw [hk]; rfl
              have e1 : ((sumK (look f) ((pre [] t).take i) : Nat) : Int) + 1 = ((sumK (look f) ((pre [] t).take (i + 1)) : Nat) : Int) := by rw [es, ek]; (first | lia | omega)
              have e2 : (if (((pl.map D.int).length : Nat) : Int) + 1 > ((maxD (look f) ((pre [] t).take i) : Nat) : Int) then (((pl.map D.int).length : Nat) : Int) + 1 else ((maxD (look f) ((pre [] t).take i) : Nat) : Int)) = ((maxD (look f) ((pre [] t).take (i + 1)) : Nat) : Int) := by
                rw [em, ed2, List.length_map]
                split <;> (first | lia | omega)
              show ∃ v7 v8 v9 : Option D, _ = [some t.d, some (.ref l), some (.ref lz), v3, v4, some (.int (sumK (look f) ((pre [] t).take (i + 1)) : Nat)), some (.int (maxD (look f) ((pre [] t).take (i + 1)) : Nat)), v7, v8, v9] ∧ _
              rw [← e1, ← e2]
              exact ⟨_, _, _, rfl, rfl⟩
            | some u =>
              have ek : kn (look f) (pl, Tree.blank k) = u.knots := by show ((look f k).getD (.blank k)).knots = _; rw [hk]; rfl
              have ed2 : dn (look f) (pl, Tree.blank k) = pl.length + u.depth := by show pl.length + ((look f k).getD (.blank k)).depth = _; rw [hk]; rfl
              have e1 : ((sumK (look f) ((pre [] t).take i) : Nat) : Int) + ((u.knots : Nat) : Int) = ((sumK (look f) ((pre [] t).take (i + 1)) : Nat) : Int) := by rw [es, ek]; (first | lia | omega)
              have e2 : (if (((pl.map D.int).length : Nat) : Int) + ((u.depth : Nat) : Int) > ((maxD (look f) ((pre [] t).take i) : Nat) : Int) then (((pl.map D.int).length : Nat) : Int) + ((u.depth : Nat) : Int) else ((maxD (look f) ((pre [] t).take i) : Nat) : Int)) = ((maxD (look f) ((pre [] t).take (i + 1)) : Nat) : Int) := by
                rw [em, ed2, List.length_map]
                split <;> (first | lia | omega)
              show ∃ v7 v8 v9 : Option D, _ = [some t.d, some (.ref l), some (.ref lz), v3, v4, some (.int (sumK (look f) ((pre [] t).take (i + 1)) : Nat)), some (.int (maxD (look f) ((pre [] t).take (i + 1)) : Nat)), v7, v8, v9] ∧ _
              rw [← e1, ← e2]
              exact ⟨_, _, _, rfl, rfl⟩
      · rintro τ M'' ⟨v7, v8, v9, rfl, rfl⟩
        have et : (pre [] t).take ((pre [] t).map pd).length = pre [] t := by rw [List.length_map, List.take_length]
        rw [et, sum_pre, max_pre, List.length_nil, Nat.zero_add]
        generalize hx : exch (look f) t = x at *
        unfold tooG at q
        show if decide ((400 : Int) < ((x.knots : Nat) : Int)) = true then _ else _
        by_cases c1 : 400 < x.knots
        · rw [decide_eq_true c1] at q
          rw [decide_eq_true (show (400 : Int) < ((x.knots : Nat) : Int) by (first | lia | omega)), if_pos rfl]
          exact ⟨M, gs2, q⟩
        · rw [decide_eq_false c1] at q
          rw [decide_eq_false (show ¬ (400 : Int) < ((x.knots : Nat) : Int) by (first | lia | omega)), if_neg Bool.false_ne_true]
          have e9 : decide ((60 : Int) < ((x.depth : Nat) : Int)) = decide (60 < x.depth) := by
            by_cases c2 : 60 < x.depth
            · rw [decide_eq_true c2, decide_eq_true (show (60 : Int) < ((x.depth : Nat) : Int) by (first | lia | omega))]
            · rw [decide_eq_false c2, decide_eq_false (show ¬ (60 : Int) < ((x.depth : Nat) : Int) by (first | lia | omega))]
          rw [Bool.false_or, ← e9] at q
          exact ⟨M, gs2, q⟩
/-! ### filled, where it is not refused -/
noncomputable def spRefuse : SpD := fun ds M Q => ∃ t : Tree, ds = [t.d] ∧ t.knots ≤ 400 ∧ t.depth ≤ 60 ∧ Q .non M
theorem ok_refuse (T : Txt K mg) : FnD P w K mg base 62 "refuse_too_great" ["tree"] spRefuse := by
  obtain ⟨t_MOST_TOLD_DEPTH, g_MOST_TOLD_DEPTH⟩ := T.g_MOST_TOLD_DEPTH
  obtain ⟨t_MOST_TOLD_KNOTS, g_MOST_TOLD_KNOTS⟩ := T.g_MOST_TOLD_KNOTS
  have F_knots_of := ok_knots_of (P := P) (w := w) (base := base) T 60
  have F_depth_of := ok_depth_of (P := P) (w := w) (base := base) T 60
  refine def_ok T.f_refuse_too_great sc_refuse_too_great (fun ds M Q h => ?_) fun f cdv A outer s H E hr => ⟨_, (ss_cons (s_if (dt_cmp od_gt (d_call F_knots_of (hr.mono (by (first | lia | omega))) (a_cons (d_var 0) a_nil)) (d_glob_int rfl g_MOST_TOLD_KNOTS ⟨_, rfl⟩) (nomark _)) (ss_one s_never) ss_nil)
 (ss_one (s_if (dt_cmp od_gt (d_call F_depth_of (hr.mono (by (first | lia | omega))) (a_cons (d_var 0) a_nil)) (d_glob_int rfl g_MOST_TOLD_DEPTH ⟨_, rfl⟩) (nomark _)) (ss_one s_never) ss_nil))), fun ds M Q h => ?_⟩
  · obtain ⟨t, rfl, _⟩ := h; rfl
  · obtain ⟨t, rfl, hk, hd, q⟩ := h
    refine ⟨t, rfl, hd, ?_⟩
    show if decide ((400 : Int) < (t.knots : Int)) = true then _ else _
    rw [decide_eq_false (show ¬ (400 : Int) < (t.knots : Int) by (first | lia | omega)), if_neg Bool.false_ne_true]
    refine ⟨t, rfl, hd, ?_⟩
    show if decide ((60 : Int) < (t.depth : Int)) = true then _ else _
    rw [decide_eq_false (show ¬ (60 : Int) < (t.depth : Int) by (first | lia | omega)), if_neg Bool.false_ne_true]
    exact ⟨M, Sub.refl M, q⟩
noncomputable def spFilled : SpD := fun ds M Q => ∃ (t : Tree) (l : Addr) (f : List (Int × Tree)), ds = [t.d, .ref l] ∧ t.depth ≤ 60 ∧ t.knots ≤ 1000 ∧ DicAt M l (fdic f) ∧ (exch (look f) t).knots ≤ 400 ∧ (exch (look f) t).depth ≤ 60 ∧ Q (exch (look f) t).d M
theorem ok_filled (T : Txt K mg) : FnD P w K mg base 63 "filled" ["tree", "filling"] spFilled := by
  have F_exchanged := ok_exchanged (P := P) (w := w) (base := base) T 60
  have F_refuse_too_great := ok_refuse (P := P) (w := w) (base := base) T
  refine def_ok T.f_filled sc_filled (fun ds M Q h => ?_) fun f cdv A outer s H E hr => ⟨_, (ss_cons (s_set (i := 2) sc_filled.nd (d_call F_exchanged (hr.mono (by (first | lia | omega))) (a_cons (d_var 0) (a_cons (d_var 1) a_nil))))
 (ss_cons (s_expr (d_call F_refuse_too_great (hr.mono (by (first | lia | omega))) (a_cons (d_var 2) a_nil)))
 (ss_one (s_ret (d_var 2))))), fun ds M Q h => ?_⟩
  · obtain ⟨t, l, f, rfl, _⟩ := h; rfl
  · obtain ⟨t, l, f, rfl, hd, hk, hl, h1, h2, q⟩ := h
    exact ⟨t, l, f, rfl, hd, hk, hl, exch (look f) t, rfl, h1, h2, M, Sub.refl M, q⟩
/-- what stands stays, but for one thing -/
noncomputable def Sub1 (a : Addr) (M M' : DH) : Prop := ∀ c o, c ≠ a → M c = some o → M' c = some o
noncomputable def spOneB : SpD := fun ds M Q => ∃ (a b : Addr) (f g : List (Int × Tree)), ds = [.ref a, .ref b] ∧ M a = some (.dic (fdic f)) ∧ M b = some (.dic (fdic g)) ∧ a ≠ b ∧ (f.map (·.1)).Nodup ∧ (g.map (·.1)).Nodup ∧ f.length + g.length ≤ 900 ∧
  (∀ q ∈ f, (q.2.depth ≤ 60 ∧ q.2.knots ≤ 1000) ∧ (exch (look g) q.2).knots ≤ 400 ∧ (exch (look g) q.2).depth ≤ 60) ∧ (∀ q ∈ g, q.2.knots ≤ 400 ∧ q.2.depth ≤ 60) ∧ ∀ l, M l = none → Q (.ref l) (updM M l (.dic (fdic (behind f g))))
theorem ok_oneb (T : Txt K mg) : FnD P w K mg base 64 "one_behind" ["one", "other"] spOneB := by
  have F_filled := ok_filled (P := P) (w := w) (base := base) T
  have F_refuse_too_great := ok_refuse (P := P) (w := w) (base := base) T
  refine def_ok T.f_one_behind sc_one_behind (fun ds M Q h => ?_) fun f cdv A outer s H E hr => ⟨_, (ss_cons (s_set (i := 2) sc_one_behind.nd d_dict0)
 (ss_cons (s_forK PassesOwn.never rfl (d_var 0) (g_name (i := 3) sc_one_behind.nd) (ss_one (s_asg (d_call F_filled (hr.mono (by (first | lia | omega))) (a_cons (d_ixK hr (d_var 0) (d_var 3)) (a_cons (d_var 1) a_nil))) (g_subK hr (d_var 2) (d_var 3)))))
 (ss_cons (s_forK PassesOwn.never rfl (d_var 1) (g_name (i := 3) sc_one_behind.nd) (ss_one (s_if (dt_cmp (od_notinX hr) (d_var 3) (d_var 0) (rfl)) (ss_cons (s_expr (d_call F_refuse_too_great (hr.mono (by (first | lia | omega))) (a_cons (d_ixK hr (d_var 1) (d_var 3)) a_nil)))
 (ss_one (s_asg (d_ixK hr (d_var 1) (d_var 3)) (g_subK hr (d_var 2) (d_var 3))))) ss_nil)))
 (ss_one (s_ret (d_var 2)))))), fun ds M Q h => ?_⟩
  · obtain ⟨a, b, f, g, rfl, _⟩ := h; rfl
  · obtain ⟨a, b, f, g, rfl, ha, hb, hab, nf', ng, hlen, hf, hg, q⟩ := h
    show ∀ l, M l = none → _
    intro l hl
    have hal : a ≠ l := by intro z; subst z; rw [ha] at hl; cases hl
    have hbl : b ≠ l := by intro z; subst z; rw [hb] at hl; cases hl
    have flen : ∀ f : List (Int × Tree), (fdic f).length = f.length := fun f => by unfold fdic; rw [List.length_map]
    refine ⟨fdic f, by rw [updM_ne hal]; exact ha, fun i τ M' => (∃ v : Option D, τ = [some (.ref a), some (.ref b), some (.ref l), v]) ∧ M' a = some (.fdc (fdic f)) ∧ M' l = some (.dic (fdic ((f.take i).map fun q => (q.1, exch (look g) q.2)))) ∧ Sub1 a M M', ⟨⟨none, rfl⟩, updM_same, by rw [updM_ne (Ne.symm hal), updM_same]; rfl, fun c o hc e => ?_⟩, fun i τ M' _ hW => hW.2.1, ?_, ?_⟩
    · rw [updM_ne hc, updM_ne (by intro z; subst z; rw [hl] at e; cases e)]; exact e
    · rintro i k d τ M' ek ⟨⟨v, rfl⟩, ha', hl', hs'⟩
      obtain ⟨p, ep, rfl, rfl⟩ := fdic_get ek
      have hp := hf p (List.mem_of_getElem? ep)
      have hb' : M' b = some (.dic (fdic g)) := hs' b _ (Ne.symm hab) hb
      have hni := nd_take nf' ep
      have hnk : look ((f.take i).map fun q => (q.1, exch (look g) q.2)) p.1 = none := by rw [look_map, look_not hni]; rfl
      refine ⟨_, _, p.2.d, rfl, .inr ha', by rw [fdic_val, look_get nf' ep]; rfl, p.2, b, g, rfl, hp.1.1, hp.1.2, .inl hb', hp.2.1, hp.2.2, ?_⟩
      refine ⟨_, _, rfl, hl', by rw [flen, List.length_map, List.length_take]; exact small1000 (by (first | lia | omega)), ⟨_, rfl⟩, by rw [updM_ne hal]; exact ha', ?_, fun c o hc e => ?_⟩
      · rw [updM_same]
        have e4 : (f.take (i + 1)).map (fun q => (q.1, exch (look g) q.2)) = (f.take i).map (fun q => (q.1, exch (look g) q.2)) ++ [(p.1, exch (look g) p.2)] := by
          rw [List.take_add_one, ep, List.map_append]; rfl
        rw [e4, ← fdic_put hnk]
      · rw [updM_ne (by intro z; subst z; rw [hl] at e; cases e)]; exact hs' c o hc e
    · rintro τ M' ⟨⟨v, rfl⟩, ha', hl', hs'⟩
      rw [flen, List.take_length] at hl'
      have hb1 : updM M' a (.dic (fdic f)) b = some (.dic (fdic g)) := by rw [updM_ne (Ne.symm hab)]; exact hs' b _ (Ne.symm hab) hb
      have ha1 : updM M' a (.dic (fdic f)) a = some (.dic (fdic f)) := updM_same
      have hl1 : updM M' a (.dic (fdic f)) l = some (.dic (fdic (f.map fun q => (q.1, exch (look g) q.2)))) := by rw [updM_ne (Ne.symm hal)]; exact hl'
      have hs1 : Sub M (updM M' a (.dic (fdic f))) := fun c o e => by
        by_cases hc : c = a
        · subst hc; rw [updM_same]; rw [ha] at e; exact e
        · rw [updM_ne hc]; exact hs' c o hc e
      generalize updM M' a (.dic (fdic f)) = M1 at *
      refine ⟨fdic g, hb1, fun i τ M' => (∃ v : Option D, τ = [some (.ref a), some (.ref b), some (.ref l), v]) ∧ M' b = some (.fdc (fdic g)) ∧ M' a = some (.dic (fdic f)) ∧ M' l = some (.dic (fdic (f.map (fun q => (q.1, exch (look g) q.2)) ++ (g.take i).filter fun q => (look f q.1).isNone))) ∧ Sub1 b M M', ⟨⟨_, rfl⟩, updM_same, by rw [updM_ne hab]; exact ha1, by rw [updM_ne (Ne.symm hbl), hl1]; simp, fun c o hc e => by rw [updM_ne hc]; exact hs1 c o e⟩, fun i τ M' _ hW => hW.2.1, ?_, ?_⟩
      · rintro i k d τ M' ek ⟨⟨v, rfl⟩, hb', ha', hl', hs'⟩
        obtain ⟨p, ep, rfl, rfl⟩ := fdic_get ek
        have hp := hg p (List.mem_of_getElem? ep)
        have hni := nd_take ng ep
        have etk : (g.take (i + 1)).filter (fun q => (look f q.1).isNone) = (g.take i).filter (fun q => (look f q.1).isNone) ++ [p].filter (fun q => (look f q.1).isNone) := by
          rw [List.take_add_one, ep, List.filter_append]; rfl
        refine Or.inl ⟨_, _, rfl, .inl ha', ?_⟩
        rw [fdic_val, Option.isSome_map]
        cases hlk : look f p.1 with
        | some u =>
          have e5 : [p].filter (fun q => (look f q.1).isNone) = [] := by simp [hlk]
          rw [e5, List.append_nil] at etk
          exact ⟨⟨_, rfl⟩, hb', ha', by rw [etk]; exact hl', hs'⟩
        | none =>
          have e5 : [p].filter (fun q => (look f q.1).isNone) = [p] := by simp [hlk]
          rw [e5] at etk
          have hv : valD (fdic g) (.inl p.1) = some p.2.d := by rw [fdic_val, look_get ng ep]; rfl
          have hnk : look (f.map (fun q => (q.1, exch (look g) q.2)) ++ (g.take i).filter fun q => (look f q.1).isNone) p.1 = none := by
            rw [look_app, look_map, hlk, look_not fun z => ?_]
            · rfl
            · obtain ⟨y, hy, ey⟩ := List.mem_map.mp z
              exact hni (ey ▸ List.mem_map_of_mem (f := (·.1)) (List.mem_filter.mp hy).1)
          have hlen2 : ((g.take i).filter fun q => (look f q.1).isNone).length ≤ g.length := Nat.le_trans (List.length_filter_le _ _) (by rw [List.length_take]; (first | lia | omega))
          refine ⟨_, _, p.2.d, rfl, .inr hb', hv, p.2, rfl, hp.1, hp.2, ?_⟩
          refine ⟨_, _, p.2.d, rfl, .inr hb', hv, ?_⟩
          refine ⟨_, _, rfl, hl', by rw [flen, List.length_append, List.length_map]; exact small1000 (by (first | lia | omega)), ⟨_, rfl⟩, by rw [updM_ne hbl]; exact hb', by rw [updM_ne hal]; exact ha', ?_, fun c o hc e => ?_⟩
          · rw [updM_same, etk, ← List.append_assoc, ← fdic_put hnk]
          · rw [updM_ne (by intro z; subst z; rw [hl] at e; cases e)]; exact hs' c o hc e
      · rintro τ M' ⟨⟨v, rfl⟩, hb', ha', hl', hs'⟩
        rw [flen, List.take_length] at hl'
        refine ⟨updM M l (.dic (fdic (behind f g))), fun c o e => ?_, q l hl⟩
        by_cases hcb : c = b
        · subst hcb
          rw [updM_ne hbl] at e
          rw [updM_same]
          rw [hb] at e
          exact e
        · rw [updM_ne hcb]
          by_cases hcl : c = l
          · subst hcl; rw [updM_same] at e; rw [hl']; exact e
          · rw [updM_ne hcl] at e; exact hs' c o hcb e
/-! ### the law's fillings -/
theorem fdic_anyN {f : List (Int × Tree)} (hn : (f.map (·.1)).Nodup) (k : Int) (u : Tree) : ∃ f', putD (fdic f) (.inl k) u.d = fdic f' ∧ (f'.map (·.1)).Nodup ∧ f'.length ≤ f.length + 1 ∧ ∀ q ∈ f', q ∈ f ∨ q.2 = u := by
  cases e : look f k with
  | none =>
    refine ⟨f ++ [(k, u)], fdic_put e, ?_, by simp, fun q hq => ?_⟩
    · rw [List.map_append]
      refine List.nodup_append.mpr ⟨hn, by simp, fun a ha b hb => ?_⟩
      simp at hb
      subst hb
      intro z
      subst z
      obtain ⟨v, hv⟩ : ∃ v, look f a = some v := by
        cases e2 : look f a with
        | some v => exact ⟨v, rfl⟩
        | none =>
          obtain ⟨q, hq, rfl⟩ := List.mem_map.mp ha
          unfold look at e2
          rw [Option.map_eq_none_iff, List.find?_eq_none] at e2
          exact absurd (decide_eq_true rfl) (e2 q hq)
      rw [e] at hv; cases hv
    · rcases List.mem_append.mp hq with hq | hq
      · exact .inl hq
      · cases List.mem_singleton.mp hq; exact .inr rfl
  | some v =>
    refine ⟨f.map fun q => if q.1 = k then (q.1, u) else q, ?_, ?_, by simp, fun q hq => ?_⟩
    · rw [putD_old _ (by rw [fdic_val, e]; rfl)]
      unfold fdic
      rw [List.map_map, List.map_map]
      refine List.map_congr_left fun q _ => ?_
      show (if (Sum.inl q.1 : Key) = Sum.inl k then _ else _) = _
      by_cases e : q.1 = k
      · rw [if_pos (by rw [e])]
        show _ = (Sum.inl (if q.1 = k then (q.1, u) else q).1, (if q.1 = k then (q.1, u) else q).2.d)
        rw [if_pos e]
      · rw [if_neg fun z => e (Sum.inl.inj z)]
        show _ = (Sum.inl (if q.1 = k then (q.1, u) else q).1, (if q.1 = k then (q.1, u) else q).2.d)
        rw [if_neg e]
    · have : (f.map fun q => if q.1 = k then (q.1, u) else q).map (·.1) = f.map (·.1) := by
        rw [List.map_map]
        refine List.map_congr_left fun q _ => ?_
        show (if q.1 = k then (q.1, u) else q).1 = q.1
        split <;> rfl
      rw [this]; exact hn
    · obtain ⟨x, hx, rfl⟩ := List.mem_map.mp hq
      by_cases c : x.1 = k
      · rw [if_pos c]; exact .inr rfl
      · rw [if_neg c]; exact .inl hx
theorem sub_put {M M' : DH} {l : Addr} {o : MO} (s : Sub M M') (h : M' l = some o) : Sub (updM M l o) M' := fun c u e => by
  by_cases z : c = l
  · subst z; rw [updM_same] at e; rw [h]; exact e
  · rw [updM_ne z] at e; exact s c u e
theorem cut_map {α β : Type} (g : α → β) (xs : List α) (lo hi : Option Int) : DL.cutD (xs.map g) lo hi = (DL.cutD xs lo hi).map g := by
  unfold DL.cutD
  rw [List.length_map, ← List.map_drop, ← List.map_take]
noncomputable def spSmA : SpD := fun ds M Q => ∃ (lc : Addr) (cs : List Int) (first way : Int), ds = [.ref lc, .int first, .int way] ∧ M lc = some (.lst (cs.map .int)) ∧ 0 ≤ way ∧ way ≤ 900 ∧ ∀ t : Tree, t.knots ≤ 201 → t.depth ≤ 42 → t.wf → Q t.d M
theorem ok_smA (T : Txt K mg) (F__law_draw : FnD P w K mg base 1 "_law_draw" ["cell", "k", "many"] spDraw) (F__law_tree : FnD P w K mg base 3 "_law_tree" ["cells", "first", "shares"] spTree) : FnD P w K mg base 4 "_law_small" ["cells", "first", "way"] spSmA := by
  refine def_ok T.f__law_small sc__law_small (fun ds M Q h => ?_) fun f cdv A outer s H E hr => ⟨_, (ss_cons (s_set (i := 3) sc__law_small.nd (d_call F__law_draw (hr.mono (by (first | lia | omega))) (a_cons (d_var 1) (a_cons (d_op od_add (d_var 2) d_int) (a_cons d_int a_nil)))))
 (ss_cons (s_if (dt_cmp (od_eq hr) (d_var 3) d_int (nomark _)) (by
          refine' ss_one ?x1
          case x1 =>
            refine' s_ret ?x2
            case x2 =>
              refine' d_tup ?x3
              case x3 =>
                refine' a_cons ?x5 ?x4
                case x5 =>
                  exact d_str
                case x4 =>
                  refine' a_cons ?x7 ?x6
                  case x7 =>
                    refine' d_ix ?x9 ?x8
                    case x9 =>
                      refine' d_lst ?x10
                      case x10 =>
                        refine' a_cons ?x12 ?x11
                        case x12 =>
                          exact d_int
                        case x11 =>
                          refine' a_cons ?x14 ?x13
                          case x14 =>
                            exact d_int
                          case x13 =>
                            refine' a_cons ?x16 ?x15
                            case x16 =>
                              exact d_int
                            case x15 =>
                              refine' a_cons ?x18 ?x17
                              case x18 =>
                                exact (d_op od_pow d_int d_int)
                              case x17 =>
                                refine' a_cons ?x20 ?x19
                                case x20 =>
                                  exact d_int
                                case x19 =>
                                  refine' a_cons ?x22 ?x21
                                  case x22 =>
                                    exact (d_op od_add d_int (d_op od_mod (d_var 1) (d_op od_pow d_int d_int)))
                                  case x21 =>
                                    exact a_nil
                    case x8 =>
                      exact (d_call F__law_draw (hr.mono (by (first | lia | omega))) (a_cons (d_var 1) (a_cons (d_op od_add (d_var 2) d_int) (a_cons d_int a_nil))))
                  case x6 =>
                    exact a_nil
          ) ss_nil)
 (ss_cons (s_if (dt_cmp (od_eq hr) (d_var 3) d_int (nomark _)) (ss_one (s_ret (d_call F__law_tree (hr.mono (by (first | lia | omega))) (a_cons (d_sl sd_sl (d_var 0) o_none (o_some d_int)) (a_cons (d_var 1) (a_cons d_int a_nil)))))) ss_nil)
 (ss_one (s_ret (d_call F__law_tree (hr.mono (by (first | lia | omega))) (a_cons (d_var 0) (a_cons (d_var 1) (a_cons d_int a_nil))))))))), fun ds M Q h => ?_⟩
  · obtain ⟨lc, cs, first, way, rfl, _⟩ := h; rfl
  · obtain ⟨lc, cs, first, way, rfl, hc, w0, w1, q⟩ := h
    refine ⟨first, way + 7, 4, rfl, ⟨by (first | lia | omega), by (first | lia | omega)⟩, by decide, fun kind k0 k1 => ?_⟩
    show if decide (kind = 0) = true then _ else _
    by_cases c0 : kind = 0
    · rw [decide_eq_true c0, if_pos rfl]
      have hp : CPow 10 9 := ⟨by decide, by decide, by decide⟩
      refine ⟨hp, hp, by show (0 : Int) < 10 ^ Int.toNat 9; decide, ?_⟩
      show ∀ p, M p = none → _
      intro p hpn
      refine ⟨first, way + 8, 6, rfl, ⟨by (first | lia | omega), by (first | lia | omega)⟩, by decide, fun r1 h2 h3 => ?_⟩
      have H6 : ∀ a b : Int, (1 ≤ a ∧ a ≤ 1000000000) → (1 ≤ b ∧ b ≤ 1000000000) → ∃ k : Int, atI [D.int 1, D.int 2, D.int 7, D.int a, D.int 5, D.int b] r1 = some (.int k) ∧ 1 ≤ k ∧ k ≤ 1000000000 := fun a b ha hb => by
        have hr : r1 = 0 ∨ r1 = 1 ∨ r1 = 2 ∨ r1 = 3 ∨ r1 = 4 ∨ r1 = 5 := by (first | lia | omega)
        rcases hr with rfl | rfl | rfl | rfl | rfl | rfl
        · exact ⟨1, rfl, by decide, by decide⟩
        · exact ⟨2, rfl, by decide, by decide⟩
        · exact ⟨7, rfl, by decide, by decide⟩
        · exact ⟨a, rfl, ha⟩
        · exact ⟨5, rfl, by decide, by decide⟩
        · exact ⟨b, rfl, hb⟩
      have hbig : (10 : Int) ^ (9 : Int).toNat = 1000000000 := by decide
      obtain ⟨k, hk, hkb⟩ := H6 ((10 : Int) ^ (9 : Int).toNat) (1 + first % (10 : Int) ^ (9 : Int).toNat) (by rw [hbig]; decide) (by
        rw [hbig]
        have a1 := Int.emod_nonneg first (b := 1000000000) (by decide)
        have a2 := Int.emod_lt_of_pos first (b := 1000000000) (by decide)
        (first | lia | omega))
      refine ⟨_, _, updM_same, hk, ?_⟩
      exact ⟨M, Sub.new hpn, q (.blank k) (by show 1 ≤ 201; decide) (by show 1 ≤ 42; decide) (by rw [Tree.wf]; exact ⟨hkb.1, by show k ≤ 1000000000; exact hkb.2⟩)⟩
    · rw [decide_eq_false c0, if_neg Bool.false_ne_true]
      show if decide (kind = 1) = true then _ else _
      by_cases c1 : kind = 1
      · rw [decide_eq_true c1, if_pos rfl]
        refine ⟨_, hc, fun p hp => ?_⟩
        refine ⟨p, DL.cutD cs none (some 3), first, 2, rfl, by rw [updM_same, cut_map], fun n ps h1 h2 h3 => ?_⟩
        exact ⟨M, Sub.new hp, q (.block n ps) (by show Tree.knotss ps + 1 ≤ 201; (first | lia | omega)) (by show Tree.depths ps + 1 ≤ 42; (first | lia | omega)) h3⟩
      · rw [decide_eq_false c1, if_neg Bool.false_ne_true]
        refine ⟨lc, cs, first, 3, rfl, hc, fun n ps h1 h2 h3 => ?_⟩
        exact ⟨M, Sub.refl M, q (.block n ps) (by show Tree.knotss ps + 1 ≤ 201; (first | lia | omega)) (by show Tree.depths ps + 1 ≤ 42; (first | lia | omega)) h3⟩
noncomputable def spFlA : SpD := fun ds M Q => ∃ (lc : Addr) (cs : List Int) (first way : Int), ds = [.ref lc, .int first, .int way] ∧ M lc = some (.lst (cs.map .int)) ∧ 0 ≤ way ∧ way ≤ 800 ∧ ∀ l (f : List (Int × Tree)), M l = none → (f.map (·.1)).Nodup → f.length ≤ 6 → (∀ q ∈ f, q.2.knots ≤ 201 ∧ q.2.depth ≤ 42 ∧ q.2.wf) → Q (.ref l) (updM M l (.dic (fdic f)))
theorem ok_flA (T : Txt K mg) (F__law_draw : FnD P w K mg base 1 "_law_draw" ["cell", "k", "many"] spDraw) (F__law_small : FnD P w K mg base 4 "_law_small" ["cells", "first", "way"] spSmA) : FnD P w K mg base 5 "_law_filling" ["cells", "first", "way"] spFlA := by
  have m_range := T.m_range
  refine def_ok T.f__law_filling sc__law_filling (fun ds M Q h => ?_) fun f cdv A outer s H E hr => ⟨_, (ss_cons (s_set (i := 3) sc__law_filling.nd (d_lst (a_cons d_int (a_cons d_int (a_cons d_int (a_cons (d_op od_pow d_int d_int) (a_cons (d_op od_add d_int (d_op od_mod (d_var 1) (d_op od_pow d_int d_int))) (a_cons d_int a_nil))))))))
 (ss_cons (s_set (i := 4) sc__law_filling.nd d_dict0)
 (ss_cons (s_for1 PassesOwn.never rfl m_range (a_cons d_int a_nil) (g_name (i := 5) sc__law_filling.nd) (ss_one (s_if (dt_cmp od_gt (d_call F__law_draw (hr.mono (by (first | lia | omega))) (a_cons (d_var 1) (a_cons (d_op od_add (d_var 2) (d_var 5)) (a_cons d_int a_nil)))) d_int (nomark _)) (ss_one (s_asg (d_call F__law_small (hr.mono (by (first | lia | omega))) (a_cons (d_slS (d_var 0) (o_some (d_var 5)) o_none (o_some d_int)) (a_cons (d_var 1) (a_cons (d_op od_add (d_var 2) (d_var 5)) a_nil)))) (g_subK hr (d_var 4) (d_ix (d_var 3) (d_var 5))))) ss_nil)))
 (ss_one (s_ret (d_var 4)))))), fun ds M Q h => ?_⟩
  · obtain ⟨lc, cs, first, way, rfl, _⟩ := h; rfl
  · obtain ⟨lc, cs, first, way, rfl, hc, w0, w1, q⟩ := h
    have hp : CPow 10 9 := ⟨by decide, by decide, by decide⟩
    refine ⟨hp, hp, by show (0 : Int) < 10 ^ Int.toNat 9; decide, ?_⟩
    show ∀ p, M p = none → _
    intro ln hln
    show DL.hName 3 (D.ref ln) _ (updM M ln (.lst [D.int 1, D.int 2, D.int 7, D.int ((10 : Int) ^ (9 : Int).toNat), D.int (1 + first % (10 : Int) ^ (9 : Int).toNat), D.int 3])) _
    generalize ((10 : Int) ^ (9 : Int).toNat) = big
    show ∀ p, _ → _
    intro lf hlf
    obtain ⟨b1, b2⟩ := upd_none hlf
    have hcn : lc ≠ ln := by intro z; subst z; rw [hc] at hln; cases hln
    have hcf : lc ≠ lf := by intro z; subst z; rw [hc] at b2; cases b2
    refine ⟨⟨by decide, by decide⟩, fun i τ M' => ∃ (f : List (Int × Tree)) (v5 : Option D), (f.map (·.1)).Nodup ∧ f.length ≤ i ∧ (∀ q ∈ f, q.2.knots ≤ 201 ∧ q.2.depth ≤ 42 ∧ q.2.wf) ∧ τ = [some (.ref lc), some (.int first), some (.int way), some (.ref ln), some (.ref lf), v5] ∧ M' ln = some (.lst [D.int 1, D.int 2, D.int 7, D.int big, D.int (1 + first % big), D.int 3]) ∧ M' lf = some (.dic (fdic f)) ∧ Sub M M', ⟨[], none, by simp, Nat.le_refl _, fun q hq => (nomatch hq), rfl, by rw [updM_ne (Ne.symm b1), updM_same], updM_same, (Sub.new hln).trans (Sub.new hlf)⟩, ?_, ?_⟩
    · rintro i τ M' hi ⟨f, v5, h1, h2, h3, rfl, g1, g2, gs⟩
      have hi6 : i < 6 := hi
      refine ⟨first, way + i, 3, rfl, ⟨by (first | lia | omega), by (first | lia | omega)⟩, by decide, fun r r0 r1 => ?_⟩
      show if decide ((0 : Int) < r) = true then _ else _
      by_cases c : (0 : Int) < r
      · rw [decide_eq_true c, if_pos rfl]
        refine ⟨_, gs _ _ hc, by simp, fun p hp => ?_⟩
        have e1 : (pickL (cs.map D.int) (stepIx (cs.map D.int).length (some (i : Int)) none (some 6))) = (pickL cs (stepIx (cs.map D.int).length (some (i : Int)) none (some 6))).map D.int := pick_map _ _ _
        refine ⟨p, pickL cs (stepIx (cs.map D.int).length (some (i : Int)) none (some 6)), first, way + i, rfl, by rw [updM_same]; exact congrArg (fun x => some (MO.lst x)) e1, by (first | lia | omega), by (first | lia | omega), fun t t1 t2 t3 => ?_⟩
        obtain ⟨k, hk⟩ : ∃ k : Int, atI [D.int 1, D.int 2, D.int 7, D.int big, D.int (1 + first % big), D.int 3] ((i : Nat) : Int) = some (.int k) := by
          have hr : i = 0 ∨ i = 1 ∨ i = 2 ∨ i = 3 ∨ i = 4 ∨ i = 5 := by (first | lia | omega)
          rcases hr with rfl | rfl | rfl | rfl | rfl | rfl <;> exact ⟨_, rfl⟩
        obtain ⟨f', k1, k2, k3, k4⟩ := fdic_anyN h1 k t
        refine ⟨_, _, Sub.new hp _ _ g1, hk, .inl k, _, rfl, Sub.new hp _ _ g2, by unfold fdic; rw [List.length_map]; exact small1000 (by (first | lia | omega)), f', _, k2, by (first | lia | omega), fun x hx => ?_, rfl, by rw [updM_ne (Ne.symm b1)]; exact Sub.new hp _ _ g1, by rw [updM_same, k1], sub_upd (gs.trans (Sub.new hp)) b2⟩
        rcases k4 x hx with h | h
        · exact h3 x h
        · rw [h]; exact ⟨t1, t2, t3⟩
      · rw [decide_eq_false c, if_neg Bool.false_ne_true]
        exact ⟨f, _, h1, by (first | lia | omega), h3, rfl, g1, g2, gs⟩
    · rintro τ M' ⟨f, v5, h1, h2, h3, rfl, g1, g2, gs⟩
      exact ⟨_, sub_put gs g2, q lf f b2 h1 h2 h3⟩
/-! ### written -/
theorem tx_app (a b : List Nat) : tx a ++ tx b = tx (a ++ b) := by
  show (⟨a.toArray ++ b.toArray⟩ : Str) = ⟨(a ++ b).toArray⟩
  congr 1
  simp
theorem str_tx (z : Str) (cs : List Nat) : z ++ tx cs = tx (z.cps.toList ++ cs) := by rw [← tx_app, tx_eta]
/-- the parts with commas between them -/
noncomputable def encJ : List Tree → List Nat
  | [] => []
  | p :: ps => 44 :: (enc p ++ encJ ps)
theorem encT_J : ∀ ps : List Tree, encT ps = encJ ps ++ [41]
  | [] => rfl
  | p :: ps => by rw [encT, encJ, encT_J ps]; simp
theorem join_enc : ∀ (p : Tree) (ps : List Tree), Str.join "," ((p :: ps).map fun t => tx (enc t)) = tx (enc p ++ encJ ps)
  | p, [] => by rw [encJ, List.append_nil]; rfl
  | p, u :: ps => by
    have ih := join_enc u ps
    show tx (enc p) ++ "," ++ Str.join "," ((u :: ps).map fun t => tx (enc t)) = _
    rw [ih, show ("," : Str) = tx [44] by decide +kernel, tx_app, tx_app, encJ]
    simp
mutual
theorem enc_len : ∀ t : Tree, t.wf → (enc t).length + 1 ≤ 14 * t.knots
  | .blank k, h => by
    rw [Tree.wf] at h
    rw [enc, List.length_cons, Tree.knots]
    have := (figs_len k (by (first | lia | omega)) h.2).2
    (first | lia | omega)
  | .block n ps, h => by
    rw [Tree.wf] at h
    rw [enc, List.length_append, Tree.knots]
    have h1 : n.cps.toList.length ≤ 12 := by
      cases e : n.cps.toList with
      | nil => simp
      | cons c r =>
        rw [e] at h
        have h' : (decide (r.length < 12) && isL c && r.all fun k => isL k || isF k) = true := h.1
        simp only [Bool.and_eq_true, decide_eq_true_eq] at h'
        rw [List.length_cons]; (first | lia | omega)
    cases ps with
    | nil => rw [encP, List.length_nil]; (first | lia | omega)
    | cons p ps =>
      rw [encP, List.length_cons, List.length_append]
      have h2 := enc_len p h.2.2.1
      have h3 := encT_len ps h.2.2.2
      rw [Tree.knotss]; (first | lia | omega)
theorem encT_len : ∀ ts : List Tree, Tree.wfs ts → (encT ts).length ≤ 14 * Tree.knotss ts + 1
  | [], _ => by rw [encT]; decide
  | t :: ts, h => by
    rw [encT, List.length_cons, List.length_append, Tree.knotss]
    have h2 := enc_len t h.1
    have h3 := encT_len ts h.2
    (first | lia | omega)
end
noncomputable def spWr (n : Nat) : SpD := fun ds M Q => ∃ t : Tree, ds = [t.d] ∧ t.depth ≤ n ∧ t.knots ≤ 1000 ∧ t.wf ∧ Q (.str (tx (enc t))) M
theorem len14 {n : Nat} (h : n ≤ 20000) : n ≤ sizeLine := by have h3 : sizeLine = 16777216 := sizeLine_eq; (first | lia | omega)
theorem sum_len : ∀ ps : List Tree, Tree.wfs ps → ((ps.map fun t => tx (enc t)).map (·.length)).sum + ps.length ≤ 14 * Tree.knotss ps
  | [], _ => by simp
  | p :: ps, h => by
    rw [List.map_cons, List.map_cons, List.sum_cons, tx_len, List.length_cons, Tree.knotss]
    have h2 := enc_len p h.1
    have h3 := sum_len ps h.2
    (first | lia | omega)
theorem wfs_mem : ∀ {ps : List Tree} {i : Nat} {u : Tree}, Tree.wfs ps → ps[i]? = some u → u.wf
  | [], _, _, _, e => by simp at e
  | t :: ts, 0, _, h, e => by simp at e; subst e; exact h.1
  | t :: ts, i + 1, _, h, e => wfs_mem h.2 (by simpa using e)
theorem ok_wr (T : Txt K mg) : ∀ n : Nat, FnD P w K mg base (n + 1) "written" ["tree"] (spWr n)
  | 0 => (fn_none T.f_written fun ds M Q ⟨t, _, h, _⟩ => by have := depth_pos t; (first | lia | omega)).mono (by (first | lia | omega))
  | n + 1 => by
    have m_len := T.m_len
    have m_str := T.m_str
    have F_written := ok_wr T n
    have F_parts_of := ok_parts_of (P := P) (w := w) (base := base) T
    refine def_ok T.f_written sc_written (fun ds M Q h => ?_) fun f cdv A outer s H E hr => ⟨_, (ss_cons (s_if (dt_cmp (od_eq hr) (d_ix (d_var 0) d_int) d_str (nomark _)) (ss_one (s_ret (d_op od_add d_str (d_callTy cd_str rfl m_str bt_str (a_cons (d_ix (d_var 0) d_int) a_nil))))) ss_nil)
 (ss_cons (s_set (i := 1) sc_written.nd (d_lst a_nil))
 (ss_cons (s_for PassesOwn.never rfl (d_call F_parts_of (hr.mono (by (first | lia | omega))) (a_cons (d_var 0) a_nil)) (g_name (i := 2) sc_written.nd) (ss_one (s_expr (d_bm PySem.F.plainAttrs_list PySem.F.slot_list_append PySem.F.type_list_append md_append (d_var 1) (a_cons (d_call F_written (hr.mono (by (first | lia | omega))) (a_cons (d_var 2) a_nil)) a_nil)))))
 (ss_cons (s_if (dt_cmp (od_eq hr) (d_callB cd_len rfl m_len bt_len (a_cons (d_var 1) a_nil)) d_int (nomark _)) (ss_one (s_ret (d_ix (d_var 0) d_int))) ss_nil)
 (ss_one (s_ret (d_op od_add (d_op od_add (d_op od_add (d_ix (d_var 0) d_int) d_str) (d_bm PySem.F.plainAttrs_str PySem.F.slot_str_join PySem.F.type_str_join md_join d_str (a_cons (d_var 1) a_nil))) d_str))))))), fun ds M Q h => ?_⟩
    · obtain ⟨t, rfl, _⟩ := h; rfl
    · obtain ⟨t, rfl, hd, hk, hw, q⟩ := h
      cases t with
      | blank k =>
        rw [Tree.wf] at hw
        have hl := (figs_len k (by (first | lia | omega)) hw.2).2
        refine ⟨⟨by (first | lia | omega), by (first | lia | omega)⟩, ?_⟩
        show (Str.ofString "?").length + (numT k).length ≤ sizeLine ∧ (endsOf Q).rt (.str (Str.ofString "?" ++ numT k)) M
        refine ⟨by rw [num_len]; show 1 + _ ≤ _; exact line1000 (by (first | lia | omega)), ?_⟩
        have e : Str.ofString "?" ++ numT k = tx (enc (.blank k)) := by
          rw [← figs_tx, show Str.ofString "?" = tx [63] by decide +kernel, tx_app, enc]; rfl
        rw [e]
        exact rt_done q
      | block z ps =>
        have hw' : nameL z.cps.toList = true ∧ ps.length ≤ 9 ∧ Tree.wfs ps := by rw [Tree.wf] at hw; exact hw
        have hel := enc_len (.block z ps) hw
        rw [Tree.depth] at hd
        rw [Tree.knots] at hk hel
        show ∀ p, M p = none → _
        intro p hp
        refine ⟨.block z ps, rfl, ?_⟩
        refine ⟨fun i τ M' => (∃ v : Option D, τ = [some (Tree.block z ps).d, some (.ref p), v]) ∧ M' = updM M p (.lst (((ps.take i).map fun t => tx (enc t)).map D.str)), ⟨⟨none, rfl⟩, rfl⟩, fun _ _ _ _ _ => trivial, ?_, ?_⟩
        · rintro i d τ M' ed ⟨⟨v, rfl⟩, rfl⟩
          rw [List.getElem?_map] at ed
          cases e : (Tree.block z ps).parts[i]? with
          | none => rw [e] at ed; cases ed
          | some u =>
            rw [e] at ed
            cases ed
            have e' : ps[i]? = some u := e
            have h1 := depth_get e'
            have h2 := knots_get e'
            have h3 := length_knotss ps
            refine ⟨⟨rfl, _, updM_same⟩, u, rfl, by (first | lia | omega), by (first | lia | omega), wfs_mem hw'.2.2 e', _, updM_same, ?_, ?_⟩
            · rw [List.length_map, List.length_map, List.length_take]; exact small1000 (by (first | lia | omega))
            · rw [updM_upd]
              refine ⟨⟨_, rfl⟩, ?_⟩
              rw [List.take_add_one, e', List.map_append, List.map_append]
              rfl
        · rintro τ M' ⟨⟨v, rfl⟩, rfl⟩
          have hpl : ((Tree.block z ps).parts.map Tree.d).length = ps.length := by rw [List.length_map]; rfl
          rw [hpl, List.take_length]
          refine ⟨_, updM_same, ?_⟩
          show if decide (((((ps.map fun t => tx (enc t)).map D.str).length : Nat) : Int) = 0) = true then _ else _
          rw [List.length_map, List.length_map]
          cases ps with
          | nil =>
            have e : z = tx (enc (.block z [])) := by rw [enc, encP, List.append_nil, tx_eta]
            rw [← e] at q
            exact ⟨M, Sub.new hp, q⟩
          | cons u ps =>
            rw [decide_eq_false (by rw [List.length_cons]; (first | lia | omega)), if_neg Bool.false_ne_true]
            have hs := sum_len (u :: ps) hw'.2.2
            have ej : Txt.join "," ((u :: ps).map fun t => tx (enc t)) = tx (enc u ++ encJ ps) := by
              show Builtin.Str.glued "," _ = _
              rw [PySem.StrLaws.glued_eq_join]
              exact join_enc u ps
            have hel2 : (enc (.block z (u :: ps))).length = z.length + 1 + (enc u ++ encJ ps).length + 1 := by
              have hz : z.length = z.cps.toList.length := by show z.cps.size = _; simp
              rw [enc, encP, encT_J, List.length_append, List.length_cons, ← List.append_assoc, List.length_append (as := enc u ++ encJ ps), hz]
              show _ + (_ + 1 + 1) = _
              (first | lia | omega)
            show z.length + (Str.ofString "(").length ≤ sizeLine ∧ _
            refine ⟨len14 (by show z.length + 1 ≤ _; (first | lia | omega)), rfl, _, updM_same, by rw [List.length_map (as := u :: ps)]; show _ + (u :: ps).length * 1 ≤ _; rw [Nat.mul_one]; (first | lia | omega), ?_⟩
            rw [ej]
            show (z ++ Str.ofString "(").length + (tx (enc u ++ encJ ps)).length ≤ sizeLine ∧ (z ++ Str.ofString "(" ++ tx (enc u ++ encJ ps)).length + (Str.ofString ")").length ≤ sizeLine ∧ (endsOf Q).rt (.str (z ++ Str.ofString "(" ++ tx (enc u ++ encJ ps) ++ Str.ofString ")")) _
            have e : z ++ Str.ofString "(" ++ tx (enc u ++ encJ ps) ++ Str.ofString ")" = tx (enc (.block z (u :: ps))) := by
              rw [show Str.ofString "(" = tx [40] by decide +kernel, show Str.ofString ")" = tx [41] by decide +kernel, str_tx z [40], tx_app, tx_app, enc, encP, encT_J]
              congr 1
              simp
            rw [e]
            refine ⟨?_, ?_, M, Sub.new hp, q⟩
            · rw [str_app, tx_len]; show z.length + 1 + _ ≤ _; exact len14 (by (first | lia | omega))
            · rw [str_app, str_app, tx_len]; show z.length + 1 + _ + 1 ≤ _; exact len14 (by (first | lia | omega))
/-! ### what is exchanged is well formed -/
mutual
theorem exch_wf (f : Int → Option Tree) (hf : ∀ k u, f k = some u → u.wf) : ∀ t : Tree, t.wf → (exch f t).wf
  | .blank k, h => by
    rw [exch]
    cases e : f k with
    | none => exact h
    | some u => exact hf k u e
  | .block n ps, h => by
    rw [Tree.wf] at h
    rw [exch, Tree.wf]
    exact ⟨h.1, by rw [exchs_map, List.length_map]; exact h.2.1, exchs_wf f hf ps h.2.2⟩
theorem exchs_wf (f : Int → Option Tree) (hf : ∀ k u, f k = some u → u.wf) : ∀ ts : List Tree, Tree.wfs ts → Tree.wfs (exchs f ts)
  | [], _ => trivial
  | t :: ts, h => ⟨exch_wf f hf t h.1, exchs_wf f hf ts h.2⟩
end
mutual
theorem exch_both (f g h : Int → Option Tree) (hh : ∀ k, h k = ((f k).map (exch g)).or (g k)) : ∀ t : Tree, exch h t = exch g (exch f t)
  | .blank k => by
    rw [exch, hh, exch]
    cases e : f k with
    | none => show (g k).getD (.blank k) = exch g (.blank k); rw [exch]
    | some u => rfl
  | .block n ps => by rw [exch, exch, exch, exchs_both f g h hh ps]
theorem exchs_both (f g h : Int → Option Tree) (hh : ∀ k, h k = ((f k).map (exch g)).or (g k)) : ∀ ts : List Tree, exchs h ts = exchs g (exchs f ts)
  | [] => rfl
  | t :: ts => by rw [exchs, exchs, exchs, exch_both f g h hh t, exchs_both f g h hh ts]
end
theorem fgtN {a b : Option D} {d : D} : Fgt [none, a, b] [some d, a, b] := ⟨rfl, fun i x e => by
  match i with
  | 0 => cases e
  | 1 => exact e
  | 2 => exact e
  | j + 3 => exact e⟩
theorem fdic_len (f : List (Int × Tree)) : (fdic f).length = f.length := by unfold fdic; rw [List.length_map]
/-! ### the due filling -/
theorem look_filter {f g : List (Int × Tree)} {k : Int} (h : look f k = none) : look (g.filter fun q => (look f q.1).isNone) k = look g k := by
  induction g with
  | nil => rfl
  | cons q g ih =>
    by_cases e : q.1 = k
    · have h1 : (look f q.1).isNone = true := by rw [e, h]; rfl
      rw [List.filter_cons_of_pos (p := fun q : Int × Tree => (look f q.1).isNone) h1]
      simp [look, List.find?_cons, e]
    · have h2 : ∀ r : List (Int × Tree), look (q :: r) k = look r k := fun r => by simp [look, List.find?_cons, e]
      rw [h2]
      by_cases h1 : (look f q.1).isNone = true
      · rw [List.filter_cons_of_pos (p := fun q : Int × Tree => (look f q.1).isNone) h1, h2]; exact ih
      · rw [List.filter_cons_of_neg (p := fun q : Int × Tree => (look f q.1).isNone) h1]; exact ih
theorem behind_all (f g : List (Int × Tree)) (k : Int) : look (behind f g) k = ((look f k).map (exch (look g))).or (look g k) := by
  unfold behind
  rw [look_app, look_map]
  cases e : look f k with
  | some u => rfl
  | none => rw [look_filter e]; first | done | rfl
theorem look_self {f : List (Int × Tree)} (hf : (f.map (·.1)).Nodup) {q : Int × Tree} (h : q ∈ f) : look f q.1 = some q.2 := by
  obtain ⟨i, hi, e⟩ := List.getElem_of_mem h
  exact look_get (i := i) hf (by rw [List.getElem?_eq_getElem hi, e])
theorem int_deps : ∀ xs : List D, (∀ d ∈ xs, ∃ i, d = .int i) → D.deps xs = 0
  | [], _ => rfl
  | d :: xs, h => by
    obtain ⟨i, rfl⟩ := h d (by simp)
    rw [D.deps, int_deps xs fun d hd => h d (by simp [hd])]; rfl
theorem oks_nil (xs : List D) : D.eqOks xs [] = true := by cases xs <;> rfl
noncomputable def tooKey (f g : List (Int × Tree)) : D → Option D
  | .int k => if tooG (exch (look g) ((look f k).getD (.blank 0))) = true then some (.int k) else none
  | _ => none
theorem tooKey_nil {f g : List (Int × Tree)} (hf : (f.map (·.1)).Nodup) (h : ∀ q ∈ f, tooG (exch (look g) q.2) = false) : ((fdic f).map fun kv => keyD kv.1).filterMap (tooKey f g) = [] := by
  rw [List.filterMap_eq_nil_iff]
  intro d hd
  obtain ⟨kv, hkv, rfl⟩ := List.mem_map.mp hd
  unfold fdic at hkv
  obtain ⟨q, hq, rfl⟩ := List.mem_map.mp hkv
  show (if tooG (exch (look g) ((look f q.1).getD (.blank 0))) = true then some (D.int q.1) else none) = none
  rw [look_self hf hq]
  show (if tooG (exch (look g) q.2) = true then some (D.int q.1) else none) = none
  rw [h q hq, if_neg Bool.false_ne_true]
theorem tooKey_some {f g : List (Int × Tree)} (hf : (f.map (·.1)).Nodup) {q : Int × Tree} (hq : q ∈ f) (h : tooG (exch (look g) q.2) = true) : ((fdic f).map fun kv => keyD kv.1).filterMap (tooKey f g) ≠ [] := by
  intro z
  rw [List.filterMap_eq_nil_iff] at z
  have hm : D.int q.1 ∈ (fdic f).map fun kv => keyD kv.1 := by
    unfold fdic
    rw [List.map_map]
    exact List.mem_map_of_mem (f := ((fun kv : Key × D => keyD kv.1) ∘ fun p : Int × Tree => ((Sum.inl p.1 : Key), p.2.d))) hq
  have e := z _ hm
  have e' : (if tooG (exch (look g) ((look f q.1).getD (.blank 0))) = true then some (D.int q.1) else none) = none := e
  rw [look_self hf hq] at e'
  have e2 : (if tooG (exch (look g) q.2) = true then some (D.int q.1) else none) = none := e'
  rw [h, if_pos rfl] at e2
  cases e2
theorem tooKey_ints (f g : List (Int × Tree)) (xs : List D) : ∀ d ∈ xs.filterMap (tooKey f g), ∃ i, d = .int i := fun d hd => by
  obtain ⟨x, _, e⟩ := List.mem_filterMap.mp hd
  cases x with
  | int k =>
    have e' : (if tooG (exch (look g) ((look f k).getD (.blank 0))) = true then some (D.int k) else none) = some d := e
    by_cases c : tooG (exch (look g) ((look f k).getD (.blank 0))) = true
    · rw [if_pos c] at e'; exact ⟨k, (Option.some.inj e').symm⟩
    · rw [if_neg c] at e'; cases e'
  | _ => cases e
theorem tooG_no {t : Tree} (h : tooG t = false) : t.knots ≤ 400 ∧ t.depth ≤ 60 := by
  unfold tooG at h
  rw [Bool.or_eq_false_iff, decide_eq_false_iff_not, decide_eq_false_iff_not] at h
  (first | lia | omega)
theorem ok_law (T : Txt K mg) {qual : Str} {f : Addr} {fd : FuncData} (F : Fun K "law" qual s_law f fd) : FnOk P w K mg base CX0 kLaw f fd ["script"] (lowSp K spLaw) := by
  have m_len := T.m_len
  have m_max := T.m_max
  have F__law_draw := ok_draw (P := P) (w := w) (base := base) T
  have F__law_cell_at := ok_cell (P := P) (w := w) (base := base) T
  have F__law_alike := ok_al (P := P) (w := w) (base := base) T 125
  have F__law_places := ok_places (P := P) (w := w) (base := base) T
  have F__law_tree := ok_tree T F__law_draw (ok_names (P := P) (w := w) (base := base) T F__law_draw) (ok_leaf T F__law_draw)
  have F__law_filling := ok_flA T F__law_draw (ok_smA T F__law_draw F__law_tree)
  have F__law_exchanged := ok_lexchanged (P := P) (w := w) (base := base) T 60
  have F__law_too_great := ok_tg (P := P) (w := w) (base := base) T
  have F_filled := ok_filled (P := P) (w := w) (base := base) T
  have F_one_behind := ok_oneb (P := P) (w := w) (base := base) T
  have F_written := ok_wr (P := P) (w := w) (base := base) T 60
  have F_read := ok_read (P := P) (w := w) (base := base) T
  refine def_fn F sc_law (fun ds M Q h => ?_) fun cdv A outer s H E hr => ⟨_, (ss_cons (s_set (i := 1) sc_law.nd (d_call F__law_cell_at (hr.mono (by (first | lia | omega))) (a_cons (d_var 0) (a_cons d_int a_nil))))
 (ss_cons (s_set (i := 2) sc_law.nd (d_call F__law_tree (hr.mono (by (first | lia | omega))) (a_cons (d_slS (d_var 0) (o_some d_int) o_none (o_some d_int)) (a_cons (d_var 1) (a_cons (d_op od_add d_int (d_call F__law_draw (hr.mono (by (first | lia | omega))) (a_cons (d_var 1) (a_cons d_int (a_cons d_int a_nil))))) a_nil)))))
 (ss_cons (s_set (i := 3) sc_law.nd (d_call F__law_filling (hr.mono (by (first | lia | omega))) (a_cons (d_slS (d_var 0) (o_some d_int) o_none (o_some d_int)) (a_cons (d_var 1) (a_cons d_int a_nil)))))
 (ss_cons (s_set (i := 4) sc_law.nd (d_call F__law_filling (hr.mono (by (first | lia | omega))) (a_cons (d_slS (d_var 0) (o_some d_int) o_none (o_some d_int)) (a_cons (d_var 1) (a_cons d_int a_nil)))))
 (ss_cons (s_if (dt_cmp (od_neX hr) (d_compK (Nc := ["number", "other", "one"]) (js := [none, some 4, some 3]) (comp_okF ["script", "first", "tree", "one", "other", "middle", "due", "found", "both", "places"] (defScope s_law).names rfl rfl rfl rfl (by decide +kernel) (by decide +kernel) (by decide +kernel) rfl (by decide +kernel)) rfl (d_var 3) (fun C s H fp => (g_name (i := 0) (by show List.Nodup (["number", "other", "one"] : List Str); decide +kernel))) (fun C s H fp => Or.inr ⟨_, rfl, (dt_val (d_call F__law_too_great (hr.mono (by (first | lia | omega))) (a_cons (d_ixK hr (d_var 2) (d_var 0)) (a_cons (d_var 1) a_nil))))⟩) (fun C s H fp => (d_var 0))) (d_lst a_nil) (nomark _)) (ss_one (s_ret d_bl)) ss_nil)
 (ss_cons (s_if (dt_val (d_call F__law_too_great (hr.mono (by (first | lia | omega))) (a_cons (d_var 2) (a_cons (d_var 3) a_nil)))) (ss_one (s_ret d_bl)) ss_nil)
 (ss_cons (s_set (i := 5) sc_law.nd (d_call F__law_exchanged (hr.mono (by (first | lia | omega))) (a_cons (d_var 2) (a_cons (d_var 3) a_nil))))
 (ss_cons (s_if (dt_val (d_call F__law_too_great (hr.mono (by (first | lia | omega))) (a_cons (d_var 5) (a_cons (d_var 4) a_nil)))) (ss_one (s_ret d_bl)) ss_nil)
 (ss_cons (s_set (i := 6) sc_law.nd (d_call F__law_exchanged (hr.mono (by (first | lia | omega))) (a_cons (d_var 5) (a_cons (d_var 4) a_nil))))
 (ss_cons (s_set (i := 7) sc_law.nd (d_call F_filled (hr.mono (by (first | lia | omega))) (a_cons (d_call F_filled (hr.mono (by (first | lia | omega))) (a_cons (d_var 2) (a_cons (d_var 3) a_nil))) (a_cons (d_var 4) a_nil))))
 (ss_cons (s_set (i := 8) sc_law.nd (d_call F_filled (hr.mono (by (first | lia | omega))) (a_cons (d_var 2) (a_cons (d_call F_one_behind (hr.mono (by (first | lia | omega))) (a_cons (d_var 3) (a_cons (d_var 4) a_nil))) a_nil))))
 (ss_cons (s_if (PW.pt (dw_or (dt_not (dt_val (d_call F__law_alike (hr.mono (by (first | lia | omega))) (a_cons (d_var 7) (a_cons (d_var 6) a_nil))))) (dw_or1 (dt_not (dt_val (d_call F__law_alike (hr.mono (by (first | lia | omega))) (a_cons (d_var 8) (a_cons (d_var 6) a_nil)))))))) (ss_one (s_ret d_bl)) ss_nil)
 (ss_cons (s_set (i := 9) sc_law.nd (d_call F__law_places (hr.mono (by (first | lia | omega))) (a_cons (d_var 6) a_nil)))
 (ss_cons (s_if (PW.pt (dw_or (dt_cmp od_gt (d_callB cd_len rfl m_len bt_len (a_cons (d_var 9) a_nil)) d_int (nomark _)) (dw_or1 (dt_cmp od_gt (d_callB (cd_maxL rfl) rfl m_max bt_max (a_cons (d_comp (Nc := ["place", "here"]) (js := [none, none]) (comp_ok0 (by decide +kernel) (by decide +kernel) (by decide +kernel) rfl rfl) rfl (d_var 9) (fun C s H fp => (g_tup rfl (gs_cons (g_name (i := 0) (by show List.Nodup (["place", "here"] : List Str); decide +kernel)) (gs_cons (g_name (i := 1) (by show List.Nodup (["place", "here"] : List Str); decide +kernel)) gs_nil)) len_2)) (fun C s H fp => Or.inl ⟨rfl, rfl⟩) (fun C s H fp => (d_callB cd_len rfl m_len bt_len (a_cons (d_var 0) a_nil)))) a_nil)) d_int (nomark _))))) (ss_one (s_ret d_bl)) ss_nil)
 (ss_one (s_ret (d_call F__law_alike (hr.mono (by (first | lia | omega))) (a_cons (d_call F_read (hr.mono (by (first | lia | omega))) (a_cons (d_call F_written (hr.mono (by (first | lia | omega))) (a_cons (d_var 7) a_nil)) a_nil)) (a_cons (d_var 6) a_nil))))))))))))))))))), fun ds M Q h => ?_⟩
  · obtain ⟨ns, rfl, _⟩ := h; rfl
  · obtain ⟨ns, rfl, hl, q⟩ := h
    refine ⟨ns, 0, rfl, by decide, fun first => ?_⟩
    refine ⟨by simp, fun p hp => ?_⟩
    refine ⟨first, 50, 3, rfl, ⟨by decide, by decide⟩, by decide, fun r h0 h1 => ?_⟩
    refine ⟨p, pickL ns (stepIx (ns.map D.int).length (some 1) none (some 3)), first, _, rfl, by rw [updM_same]; exact congrArg (fun x => some (MO.lst x)) (pick_map _ _ _), fun n0 ps0 hk0 hd0 hw0 => ?_⟩
    have hM : Sub M (updM M p (.lst (pickL (ns.map D.int) (stepIx (ns.map D.int).length (some 1) none (some 3))))) := Sub.new hp
    generalize updM M p (.lst (pickL (ns.map D.int) (stepIx (ns.map D.int).length (some 1) none (some 3)))) = M1 at *
    have ht1 : (Tree.block n0 ps0).knots ≤ 201 := by rw [Tree.knots]; (first | lia | omega)
    have ht2 : (Tree.block n0 ps0).depth ≤ 42 := by rw [Tree.depth]; (first | lia | omega)
    generalize Tree.block n0 ps0 = t at *
    refine ⟨by simp, fun p2 hp2 => ?_⟩
    refine ⟨p2, pickL ns (stepIx (ns.map D.int).length (some 2) none (some 3)), first, 30, rfl, by rw [updM_same]; exact congrArg (fun x => some (MO.lst x)) (pick_map _ _ _), by decide, by decide, fun l1 f hl1 nf f6 fsz => ?_⟩
    have hM2 : Sub M (updM (updM M1 p2 (.lst (pickL (ns.map D.int) (stepIx (ns.map D.int).length (some 2) none (some 3))))) l1 (.dic (fdic f))) := (hM.trans (Sub.new hp2)).trans (Sub.new hl1)
    have h1 : updM (updM M1 p2 (.lst (pickL (ns.map D.int) (stepIx (ns.map D.int).length (some 2) none (some 3))))) l1 (.dic (fdic f)) l1 = some (.dic (fdic f)) := updM_same
    generalize updM (updM M1 p2 (.lst (pickL (ns.map D.int) (stepIx (ns.map D.int).length (some 2) none (some 3))))) l1 (.dic (fdic f)) = M2 at *
    refine ⟨by simp, fun p3 hp3 => ?_⟩
    refine ⟨p3, pickL ns (stepIx (ns.map D.int).length (some 3) none (some 3)), first, 44, rfl, by rw [updM_same]; exact congrArg (fun x => some (MO.lst x)) (pick_map _ _ _), by decide, by decide, fun l2 g hl2 ng g6 gsz => ?_⟩
    have h1b := Sub.new (o := .dic (fdic g)) hl2 _ _ (Sub.new (o := .lst (pickL (ns.map D.int) (stepIx (ns.map D.int).length (some 3) none (some 3)))) hp3 _ _ h1)
    have d12 : l1 ≠ l2 := by intro z; subst z; rw [Sub.new hp3 _ _ h1] at hl2; cases hl2
    have h2b : updM (updM M2 p3 (.lst (pickL (ns.map D.int) (stepIx (ns.map D.int).length (some 3) none (some 3))))) l2 (.dic (fdic g)) l2 = some (.dic (fdic g)) := updM_same
    have hM3 : Sub M (updM (updM M2 p3 (.lst (pickL (ns.map D.int) (stepIx (ns.map D.int).length (some 3) none (some 3))))) l2 (.dic (fdic g))) := (hM2.trans (Sub.new hp3)).trans (Sub.new hl2)
    generalize updM (updM M2 p3 (.lst (pickL (ns.map D.int) (stepIx (ns.map D.int).length (some 3) none (some 3))))) l2 (.dic (fdic g)) = M3 at *
    have fk : ∀ q ∈ f, q.2.knots ≤ 450 := fun q hq => by have := (fsz q hq).1; (first | lia | omega)
    have gk : ∀ q ∈ g, q.2.knots ≤ 450 := fun q hq => by have := (gsz q hq).1; (first | lia | omega)
    -- [number for number in one if ..] != []
    refine ⟨fdic f, h1b, ⟨by rw [List.length_map, fdic_len]; (first | lia | omega), tooKey f g, fun d hd p acc hp => ?_, fun p hp => ?_⟩⟩
    · obtain ⟨kv, hkv, rfl⟩ := List.mem_map.mp hd
      unfold fdic at hkv
      obtain ⟨x, hx, rfl⟩ := List.mem_map.mp hkv
      have g1 : updM (updM M3 l1 (.fdc (fdic f))) p (.lst acc) l1 = some (.fdc (fdic f)) := Sub.new hp _ _ updM_same
      have g2 : updM (updM M3 l1 (.fdc (fdic f))) p (.lst acc) l2 = some (.dic (fdic g)) := Sub.new hp _ _ (by rw [updM_ne (Ne.symm d12)]; exact h2b)
      refine ⟨fgtN, _, _, x.2.d, rfl, .inr g1, by rw [fdic_val, look_self nf hx]; rfl, x.2, l2, g, rfl, g2, ng, by (first | lia | omega), fk x hx, gk, ?_⟩
      show if tooG (exch (look g) x.2) = true then _ else _
      have et : tooKey f g (.int x.1) = if tooG (exch (look g) x.2) = true then some (.int x.1) else none := by
        show (if tooG (exch (look g) ((look f x.1).getD (.blank 0))) = true then _ else _) = _
        rw [look_self nf hx]; rfl
      by_cases c : tooG (exch (look g) x.2) = true
      · rw [if_pos c]; exact ⟨rfl, et.trans (if_pos c)⟩
      · rw [if_neg c]; exact ⟨rfl, et.trans (if_neg c)⟩
    · obtain ⟨hpl, hp0⟩ := upd_none hp
      refine ⟨by rw [updM_ne (Ne.symm hpl), updM_same], ?_⟩
      have hint := tooKey_ints f g ((fdic f).map fun kv => keyD kv.1)
      have hkeep : ∀ zs, ∀ c o, M3 c = some o → updM (updM (updM M3 l1 (.fdc (fdic f))) p (.lst zs)) l1 (.dic (fdic f)) c = some o := fun zs c o e => by
        by_cases z : c = l1
        · subst z; rw [updM_same]; rw [h1b] at e; exact e
        · rw [updM_ne z, updM_ne (by intro y; subst y; rw [hp0] at e; cases e), updM_ne z]; exact e
      have hP : ∀ zs, updM (updM (updM M3 l1 (.fdc (fdic f))) p (.lst zs)) l1 (.dic (fdic f)) p = some (.lst zs) := fun zs => by rw [updM_ne hpl, updM_same]
      have hcase : (∃ x ∈ f, tooG (exch (look g) x.2) = true) ∨ ∀ x ∈ f, tooG (exch (look g) x.2) = false := by
        by_cases c : ∃ x ∈ f, tooG (exch (look g) x.2) = true
        · exact .inl c
        · exact .inr fun x hx => by
            cases e : tooG (exch (look g) x.2) with
            | false => rfl
            | true => exact absurd ⟨x, hx, e⟩ c
      rcases hcase with ⟨x, hx, hxg⟩ | hN
      · have hne := tooKey_some nf hx hxg
        generalize ((fdic f).map fun kv => keyD kv.1).filterMap (tooKey f g) = zs at hne hint ⊢
        have hk := hkeep zs
        have hpz := hP zs
        generalize updM (updM (updM M3 l1 (.fdc (fdic f))) p (.lst zs)) l1 (.dic (fdic f)) = M8 at *
        show ∀ p2, M8 p2 = none → _
        intro p9 hp9
        refine ⟨zs, [], Sub.new hp9 _ _ hpz, updM_same, oks_nil zs, by rw [int_deps zs hint]; decide, ?_⟩
        have ef : D.eqs zs [] = false := by
          cases zs with
          | nil => exact absurd rfl hne
          | cons y ys => rfl
        rw [ef]
        exact ⟨M, (hM3.trans hk).trans (Sub.new hp9), q⟩
      · rw [tooKey_nil nf hN]
        have hk := hkeep []
        have hpz := hP []
        generalize updM (updM (updM M3 l1 (.fdc (fdic f))) p (.lst [])) l1 (.dic (fdic f)) = M8 at *
        show ∀ p2, M8 p2 = none → _
        intro p9 hp9
        refine ⟨[], [], Sub.new hp9 _ _ hpz, updM_same, rfl, by decide, ?_⟩
        have k1 := Sub.new (o := .lst []) hp9 _ _ (hk _ _ h1b)
        have k2 := Sub.new (o := .lst []) hp9 _ _ (hk _ _ h2b)
        have hM9 : Sub M (updM M8 p9 (.lst [])) := (hM3.trans hk).trans (Sub.new hp9)
        generalize updM M8 p9 (.lst []) = M9 at *
        -- too great?
        refine ⟨t, l1, f, rfl, k1, nf, by (first | lia | omega), by (first | lia | omega), fk, ?_⟩
        cases c1 : tooG (exch (look f) t) with
        | true => exact ⟨M, hM9, q⟩
        | false =>
          obtain ⟨m1, m2⟩ := tooG_no c1
          refine ⟨t, l1, f, rfl, by (first | lia | omega), by (first | lia | omega), .inl k1, ?_⟩
          refine ⟨exch (look f) t, l2, g, rfl, k2, ng, by (first | lia | omega), by (first | lia | omega), gk, ?_⟩
          cases c2 : tooG (exch (look g) (exch (look f) t)) with
          | true => exact ⟨M, hM9, q⟩
          | false =>
            obtain ⟨u1, u2⟩ := tooG_no c2
            have eb : exch (look (behind f g)) t = exch (look g) (exch (look f) t) := exch_both (look f) (look g) _ (behind_all f g) t
            have hwd : (exch (look g) (exch (look f) t)).wf := exch_wf _ (fun k u e => (gsz _ (look_mem e)).2.2) _ (exch_wf _ (fun k u e => (fsz _ (look_mem e)).2.2) t hw0)
            refine ⟨exch (look f) t, l2, g, rfl, by (first | lia | omega), by (first | lia | omega), .inl k2, ?_⟩
            refine ⟨t, l1, f, rfl, by (first | lia | omega), by (first | lia | omega), .inl k1, m1, m2, ?_⟩
            refine ⟨exch (look f) t, l2, g, rfl, by (first | lia | omega), by (first | lia | omega), .inl k2, u1, u2, ?_⟩
            refine ⟨l1, l2, f, g, rfl, k1, k2, d12, nf, ng, by (first | lia | omega), fun x hx => ?_, fun x hx => ?_, fun l3 hl3 => ?_⟩
            · have a1 := fsz x hx
              have a2 := tooG_no (hN x hx)
              exact ⟨⟨by (first | lia | omega), by (first | lia | omega)⟩, a2.1, a2.2⟩
            · have a1 := gsz x hx
              exact ⟨by (first | lia | omega), by (first | lia | omega)⟩
            · refine ⟨t, l3, behind f g, rfl, by (first | lia | omega), by (first | lia | omega), .inl updM_same, by rw [eb]; exact u1, by rw [eb]; exact u2, ?_⟩
              rw [eb]
              have hM10 : Sub M (updM M9 l3 (.dic (fdic (behind f g)))) := hM9.trans (Sub.new hl3)
              generalize updM M9 l3 (.dic (fdic (behind f g))) = M10 at *
              generalize exch (look g) (exch (look f) t) = due at *
              refine ⟨_, _, rfl, al_tree due 125 (by (first | lia | omega)) (by (first | lia | omega)), ?_⟩
              refine ⟨_, _, rfl, al_tree due 125 (by (first | lia | omega)) (by (first | lia | omega)), ?_⟩
              refine ⟨due, rfl, by (first | lia | omega), fun lp hlp => ?_⟩
              have hkn := pre_length [] due
              have hM11 : Sub M (updM M10 lp (.lst ((pre [] due).map pd))) := hM10.trans (Sub.new hlp)
              have hPl : updM M10 lp (.lst ((pre [] due).map pd)) lp = some (.lst ((pre [] due).map pd)) := updM_same
              generalize updM M10 lp (.lst ((pre [] due).map pd)) = M11 at *
              have fin : due.knots ≤ 200 → due.depth ≤ 30 → ∀ M12, Sub M M12 → DL.sRet (eCall (spAl 125) (eCons (eCall spRead (eCons (eCall (spWr 60) (eCons (eVar 7) eNil)) eNil)) (eCons (eVar 6) eNil))) (endsOf Q) [some (.rol (ns.map .int)), some (.int first), some t.d, some (.ref l1), some (.ref l2), some (exch (look f) t).d, some due.d, some due.d, some due.d, some (.ref lp)] M12 := fun hk hd M12 hS => by
                have hel := enc_len due hwd
                exact ⟨due, rfl, by (first | lia | omega), by (first | lia | omega), hwd, due, rfl, by (first | lia | omega), hwd, hk, hd, _, _, rfl, al_tree due 125 (by (first | lia | omega)) (by (first | lia | omega)), M, hS, q⟩
              refine ⟨_, hPl, ?_⟩
              show if decide ((200 : Int) < ((((pre [] due).map pd).length : Nat) : Int)) = true then _ else _
              rw [List.length_map, hkn]
              by_cases hk2 : (200 : Int) < ((due.knots : Nat) : Int)
              · rw [decide_eq_true hk2, if_pos rfl]
                exact ⟨M, hM11, q⟩
              · rw [decide_eq_false hk2, if_neg Bool.false_ne_true]
                refine ⟨_, hPl, ⟨by rw [List.length_map]; (first | lia | omega), lenD1, fun d hd p acc hp => ?_, fun c1 hc1 => ?_⟩⟩
                · obtain ⟨y, hy, rfl⟩ := List.mem_map.mp hd
                  exact ⟨fgtP, rfl, rfl⟩
                · rw [len_pd]
                  refine ⟨(pre [] due).map fun y => ((y.1.length : Nat) : Int), by intro z; rw [List.map_eq_nil_iff] at z; rw [z] at hkn; have := depth_pos due; have := depth_le_knots due; simp at hkn; (first | lia | omega), updM_same, fun m hm hmx => ?_⟩
                  obtain ⟨lo1, y, hy, lo2⟩ := long_place due
                  have em : 1 + m = ((due.depth : Nat) : Int) := by
                    obtain ⟨y', hy', e⟩ := List.mem_map.mp hm
                    have a1 := lo1 y' hy'
                    have a2 := hmx _ (List.mem_map_of_mem (f := fun y : PT' => ((y.1.length : Nat) : Int)) hy)
                    have e' : ((y'.1.length : Nat) : Int) = m := e
                    have a2' : ((y.1.length : Nat) : Int) ≤ m := a2
                    (first | lia | omega)
                  have hM12 := hM11.trans (Sub.new (o := .lst (((pre [] due).map fun y => ((y.1.length : Nat) : Int)).map D.int)) hc1)
                  show if decide ((29 : Int) < m) = true then _ else _
                  by_cases hd2 : (29 : Int) < m
                  · rw [decide_eq_true hd2, if_pos rfl]
                    exact ⟨M, hM12, q⟩
                  · rw [decide_eq_false hd2, if_neg Bool.false_ne_true]
                    exact fin (by (first | lia | omega)) (by (first | lia | omega)) _ hM12

-- TAIL
end
theorem all_mk {l : PySem.W.OpenLaw} {w : World} {K : PySem.W.Frag} {h : Heap} {mg : Str → Option Value} {fa : Addr} (X : K.In h) (G : h.Ns mainGlobals mg) (hfa : mg "law" = some (.ref fa))
    {oC0 : Addr} {od0 an0 : Option Addr} {sl0 : Array (Option Value)} {oc0 kV0 dc0 pm0 cd0 ct0 : Value} {f0 : Addr} {od1 an1 : Option Addr} {sl1 : Array (Option Value)} {oc1 kV1 dc1 pm1 cd1 ct1 : Value} {f1 : Addr} {od2 an2 : Option Addr} {sl2 : Array (Option Value)} {oc2 kV2 dc2 pm2 cd2 ct2 : Value} {f2 : Addr} {od3 an3 : Option Addr} {sl3 : Array (Option Value)} {oc3 kV3 dc3 pm3 cd3 ct3 : Value} {f3 : Addr} {od4 an4 : Option Addr} {sl4 : Array (Option Value)} {oc4 kV4 dc4 pm4 cd4 ct4 : Value} {f4 : Addr} {od5 an5 : Option Addr} {sl5 : Array (Option Value)} {oc5 kV5 dc5 pm5 cd5 ct5 : Value} {f5 : Addr} {od6 an6 : Option Addr} {sl6 : Array (Option Value)} {oc6 kV6 dc6 pm6 cd6 ct6 : Value} {f6 : Addr} {od7 an7 : Option Addr} {sl7 : Array (Option Value)} {oc7 kV7 dc7 pm7 cd7 ct7 : Value} {f7 : Addr} {od8 an8 : Option Addr} {sl8 : Array (Option Value)} {oc8 kV8 dc8 pm8 cd8 ct8 : Value} {f8 : Addr} {od9 an9 : Option Addr} {sl9 : Array (Option Value)} {oc9 kV9 dc9 pm9 cd9 ct9 : Value} {f9 : Addr} {od10 an10 : Option Addr} {sl10 : Array (Option Value)} {oc10 kV10 dc10 pm10 cd10 ct10 : Value} {f10 : Addr} {od11 an11 : Option Addr} {sl11 : Array (Option Value)} {oc11 kV11 dc11 pm11 cd11 ct11 : Value} {f11 : Addr} {od12 an12 : Option Addr} {sl12 : Array (Option Value)} {oc12 kV12 dc12 pm12 cd12 ct12 : Value} {f12 : Addr} {od13 an13 : Option Addr} {sl13 : Array (Option Value)} {oc13 kV13 dc13 pm13 cd13 ct13 : Value} {f13 : Addr} {od14 an14 : Option Addr} {sl14 : Array (Option Value)} {oc14 kV14 dc14 pm14 cd14 ct14 : Value} {f14 : Addr} {od15 an15 : Option Addr} {sl15 : Array (Option Value)} {oc15 kV15 dc15 pm15 cd15 ct15 : Value} {f15 : Addr} {od16 an16 : Option Addr} {sl16 : Array (Option Value)} {oc16 kV16 dc16 pm16 cd16 ct16 : Value} {f16 : Addr} {od17 an17 : Option Addr} {sl17 : Array (Option Value)} {oc17 kV17 dc17 pm17 cd17 ct17 : Value} {f17 : Addr} {od18 an18 : Option Addr} {sl18 : Array (Option Value)} {oc18 kV18 dc18 pm18 cd18 ct18 : Value} {f18 : Addr} {od19 an19 : Option Addr} {sl19 : Array (Option Value)} {oc19 kV19 dc19 pm19 cd19 ct19 : Value} {f19 : Addr} {od20 an20 : Option Addr} {sl20 : Array (Option Value)} {oc20 kV20 dc20 pm20 cd20 ct20 : Value} {f20 : Addr} {od21 an21 : Option Addr} {sl21 : Array (Option Value)} {oc21 kV21 dc21 pm21 cd21 ct21 : Value} {f21 : Addr} {od22 an22 : Option Addr} {sl22 : Array (Option Value)} {oc22 kV22 dc22 pm22 cd22 ct22 : Value} {f22 : Addr} {od23 an23 : Option Addr} {sl23 : Array (Option Value)} {oc23 kV23 dc23 pm23 cd23 ct23 : Value} {f23 : Addr} {od24 an24 : Option Addr} {sl24 : Array (Option Value)} {oc24 kV24 dc24 pm24 cd24 ct24 : Value} {f24 : Addr} {od25 an25 : Option Addr} {sl25 : Array (Option Value)} {oc25 kV25 dc25 pm25 cd25 ct25 : Value} {f25 : Addr} {od26 an26 : Option Addr} {sl26 : Array (Option Value)} {oc26 kV26 dc26 pm26 cd26 ct26 : Value} {f26 : Addr} {od27 an27 : Option Addr} {sl27 : Array (Option Value)} {oc27 kV27 dc27 pm27 cd27 ct27 : Value} {f27 : Addr} {od28 an28 : Option Addr} {sl28 : Array (Option Value)} {oc28 kV28 dc28 pm28 cd28 ct28 : Value} {f28 : Addr} {od29 an29 : Option Addr} {sl29 : Array (Option Value)} {oc29 kV29 dc29 pm29 cd29 ct29 : Value} {f29 : Addr} {od30 an30 : Option Addr} {sl30 : Array (Option Value)} {oc30 kV30 dc30 pm30 cd30 ct30 : Value} {f30 : Addr} {od31 an31 : Option Addr} {sl31 : Array (Option Value)} {oc31 kV31 dc31 pm31 cd31 ct31 : Value} {f31 : Addr} {od32 an32 : Option Addr} {sl32 : Array (Option Value)} {oc32 kV32 dc32 pm32 cd32 ct32 : Value} {f32 : Addr} {tk0 : Tok} {tk1 : Tok} {tk2 : Tok} {tk3 : Tok} {tk4 : Tok} {tk5 : Tok} {tk6 : Tok} {tk7 : Tok} {xa0 xa1 xa2 : Addr}
    (ka0 : PySem.W.nsIn K mainGlobals "Reader" = some (some (.ref oC0))) (kb0 : PySem.W.plainGet K oC0 Str.empty = true) (kc0 : PySem.W.hasDictIn K oC0 = true) (kd0 : PySem.W.plainOver K oC0 = true) (ke0 : PySem.W.findIn K (.ref oC0) "__setattr__" = some (some (.builtin "object.__setattr__"))) (kf0 : PySem.W.makesIn K oC0 = true) (kg0 : PySem.W.keepIn K (.ref oC0) = true)
    (kh0_0 : PySem.W.findIn K (.ref oC0) "at" = some none)
    (kh0_1 : PySem.W.findIn K (.ref oC0) "knots" = some none)
    (kh0_2 : PySem.W.findIn K (.ref oC0) "text" = some none)
    (a0 : PySem.W.nsIn K mainGlobals "is_letter" = some (some (.ref f0))) (l0 : K.lookup f0 = some ⟨oc0, od0, .func (PySem.W.fnOf "is_letter" "is_letter" (defArgs s_is_letter) (defBody s_is_letter) (defScope s_is_letter) .none kV0 dc0 pm0 an0 cd0 ct0), sl0⟩) (c0 : PySem.W.codeIn K cd0 "is_letter" = true) (k0 : PySem.W.keepIn K (.ref f0) = true)
    (a1 : PySem.W.nsIn K mainGlobals "is_figure" = some (some (.ref f1))) (l1 : K.lookup f1 = some ⟨oc1, od1, .func (PySem.W.fnOf "is_figure" "is_figure" (defArgs s_is_figure) (defBody s_is_figure) (defScope s_is_figure) .none kV1 dc1 pm1 an1 cd1 ct1), sl1⟩) (c1 : PySem.W.codeIn K cd1 "is_figure" = true) (k1 : PySem.W.keepIn K (.ref f1) = true)
    (a2 : PySem.W.nsIn K mainGlobals "is_name" = some (some (.ref f2))) (l2 : K.lookup f2 = some ⟨oc2, od2, .func (PySem.W.fnOf "is_name" "is_name" (defArgs s_is_name) (defBody s_is_name) (defScope s_is_name) .none kV2 dc2 pm2 an2 cd2 ct2), sl2⟩) (c2 : PySem.W.codeIn K cd2 "is_name" = true) (k2 : PySem.W.keepIn K (.ref f2) = true)
    (a3 : PySem.W.nsIn K mainGlobals "parts_of" = some (some (.ref f3))) (l3 : K.lookup f3 = some ⟨oc3, od3, .func (PySem.W.fnOf "parts_of" "parts_of" (defArgs s_parts_of) (defBody s_parts_of) (defScope s_parts_of) .none kV3 dc3 pm3 an3 cd3 ct3), sl3⟩) (c3 : PySem.W.codeIn K cd3 "parts_of" = true) (k3 : PySem.W.keepIn K (.ref f3) = true)
    (a4 : PySem.W.nsIn K mainGlobals "knots_of" = some (some (.ref f4))) (l4 : K.lookup f4 = some ⟨oc4, od4, .func (PySem.W.fnOf "knots_of" "knots_of" (defArgs s_knots_of) (defBody s_knots_of) (defScope s_knots_of) .none kV4 dc4 pm4 an4 cd4 ct4), sl4⟩) (c4 : PySem.W.codeIn K cd4 "knots_of" = true) (k4 : PySem.W.keepIn K (.ref f4) = true)
    (a5 : PySem.W.nsIn K mainGlobals "depth_of" = some (some (.ref f5))) (l5 : K.lookup f5 = some ⟨oc5, od5, .func (PySem.W.fnOf "depth_of" "depth_of" (defArgs s_depth_of) (defBody s_depth_of) (defScope s_depth_of) .none kV5 dc5 pm5 an5 cd5 ct5), sl5⟩) (c5 : PySem.W.codeIn K cd5 "depth_of" = true) (k5 : PySem.W.keepIn K (.ref f5) = true)
    (a6 : PySem.W.nsIn K mainGlobals "exchanged" = some (some (.ref f6))) (l6 : K.lookup f6 = some ⟨oc6, od6, .func (PySem.W.fnOf "exchanged" "exchanged" (defArgs s_exchanged) (defBody s_exchanged) (defScope s_exchanged) .none kV6 dc6 pm6 an6 cd6 ct6), sl6⟩) (c6 : PySem.W.codeIn K cd6 "exchanged" = true) (k6 : PySem.W.keepIn K (.ref f6) = true)
    (a7 : PySem.W.nsIn K mainGlobals "refuse_too_great" = some (some (.ref f7))) (l7 : K.lookup f7 = some ⟨oc7, od7, .func (PySem.W.fnOf "refuse_too_great" "refuse_too_great" (defArgs s_refuse_too_great) (defBody s_refuse_too_great) (defScope s_refuse_too_great) .none kV7 dc7 pm7 an7 cd7 ct7), sl7⟩) (c7 : PySem.W.codeIn K cd7 "refuse_too_great" = true) (k7 : PySem.W.keepIn K (.ref f7) = true)
    (a8 : PySem.W.nsIn K mainGlobals "filled" = some (some (.ref f8))) (l8 : K.lookup f8 = some ⟨oc8, od8, .func (PySem.W.fnOf "filled" "filled" (defArgs s_filled) (defBody s_filled) (defScope s_filled) .none kV8 dc8 pm8 an8 cd8 ct8), sl8⟩) (c8 : PySem.W.codeIn K cd8 "filled" = true) (k8 : PySem.W.keepIn K (.ref f8) = true)
    (a9 : PySem.W.nsIn K mainGlobals "one_behind" = some (some (.ref f9))) (l9 : K.lookup f9 = some ⟨oc9, od9, .func (PySem.W.fnOf "one_behind" "one_behind" (defArgs s_one_behind) (defBody s_one_behind) (defScope s_one_behind) .none kV9 dc9 pm9 an9 cd9 ct9), sl9⟩) (c9 : PySem.W.codeIn K cd9 "one_behind" = true) (k9 : PySem.W.keepIn K (.ref f9) = true)
    (a10 : PySem.W.nsIn K mainGlobals "written" = some (some (.ref f10))) (l10 : K.lookup f10 = some ⟨oc10, od10, .func (PySem.W.fnOf "written" "written" (defArgs s_written) (defBody s_written) (defScope s_written) .none kV10 dc10 pm10 an10 cd10 ct10), sl10⟩) (c10 : PySem.W.codeIn K cd10 "written" = true) (k10 : PySem.W.keepIn K (.ref f10) = true)
    (a11 : PySem.W.nsIn K mainGlobals "blank_number" = some (some (.ref f11))) (l11 : K.lookup f11 = some ⟨oc11, od11, .func (PySem.W.fnOf "blank_number" "blank_number" (defArgs s_blank_number) (defBody s_blank_number) (defScope s_blank_number) .none kV11 dc11 pm11 an11 cd11 ct11), sl11⟩) (c11 : PySem.W.codeIn K cd11 "blank_number" = true) (k11 : PySem.W.keepIn K (.ref f11) = true)
    (a12 : PySem.W.nsIn K mainGlobals "read" = some (some (.ref f12))) (l12 : K.lookup f12 = some ⟨oc12, od12, .func (PySem.W.fnOf "read" "read" (defArgs s_read) (defBody s_read) (defScope s_read) .none kV12 dc12 pm12 an12 cd12 ct12), sl12⟩) (c12 : PySem.W.codeIn K cd12 "read" = true) (k12 : PySem.W.keepIn K (.ref f12) = true)
    (a13 : PySem.W.nsIn K mainGlobals "_law_cell_at" = some (some (.ref f13))) (l13 : K.lookup f13 = some ⟨oc13, od13, .func (PySem.W.fnOf "_law_cell_at" "_law_cell_at" (defArgs s__law_cell_at) (defBody s__law_cell_at) (defScope s__law_cell_at) .none kV13 dc13 pm13 an13 cd13 ct13), sl13⟩) (c13 : PySem.W.codeIn K cd13 "_law_cell_at" = true) (k13 : PySem.W.keepIn K (.ref f13) = true)
    (a14 : PySem.W.nsIn K mainGlobals "_law_draw" = some (some (.ref f14))) (l14 : K.lookup f14 = some ⟨oc14, od14, .func (PySem.W.fnOf "_law_draw" "_law_draw" (defArgs s__law_draw) (defBody s__law_draw) (defScope s__law_draw) .none kV14 dc14 pm14 an14 cd14 ct14), sl14⟩) (c14 : PySem.W.codeIn K cd14 "_law_draw" = true) (k14 : PySem.W.keepIn K (.ref f14) = true)
    (a15 : PySem.W.nsIn K mainGlobals "_law_alike" = some (some (.ref f15))) (l15 : K.lookup f15 = some ⟨oc15, od15, .func (PySem.W.fnOf "_law_alike" "_law_alike" (defArgs s__law_alike) (defBody s__law_alike) (defScope s__law_alike) .none kV15 dc15 pm15 an15 cd15 ct15), sl15⟩) (c15 : PySem.W.codeIn K cd15 "_law_alike" = true) (k15 : PySem.W.keepIn K (.ref f15) = true)
    (a16 : PySem.W.nsIn K mainGlobals "_law_names" = some (some (.ref f16))) (l16 : K.lookup f16 = some ⟨oc16, od16, .func (PySem.W.fnOf "_law_names" "_law_names" (defArgs s__law_names) (defBody s__law_names) (defScope s__law_names) .none kV16 dc16 pm16 an16 cd16 ct16), sl16⟩) (c16 : PySem.W.codeIn K cd16 "_law_names" = true) (k16 : PySem.W.keepIn K (.ref f16) = true)
    (a17 : PySem.W.nsIn K mainGlobals "_law_leaf" = some (some (.ref f17))) (l17 : K.lookup f17 = some ⟨oc17, od17, .func (PySem.W.fnOf "_law_leaf" "_law_leaf" (defArgs s__law_leaf) (defBody s__law_leaf) (defScope s__law_leaf) .none kV17 dc17 pm17 an17 cd17 ct17), sl17⟩) (c17 : PySem.W.codeIn K cd17 "_law_leaf" = true) (k17 : PySem.W.keepIn K (.ref f17) = true)
    (a18 : PySem.W.nsIn K mainGlobals "_law_tree" = some (some (.ref f18))) (l18 : K.lookup f18 = some ⟨oc18, od18, .func (PySem.W.fnOf "_law_tree" "_law_tree" (defArgs s__law_tree) (defBody s__law_tree) (defScope s__law_tree) .none kV18 dc18 pm18 an18 cd18 ct18), sl18⟩) (c18 : PySem.W.codeIn K cd18 "_law_tree" = true) (k18 : PySem.W.keepIn K (.ref f18) = true)
    (a19 : PySem.W.nsIn K mainGlobals "_law_places" = some (some (.ref f19))) (l19 : K.lookup f19 = some ⟨oc19, od19, .func (PySem.W.fnOf "_law_places" "_law_places" (defArgs s__law_places) (defBody s__law_places) (defScope s__law_places) .none kV19 dc19 pm19 an19 cd19 ct19), sl19⟩) (c19 : PySem.W.codeIn K cd19 "_law_places" = true) (k19 : PySem.W.keepIn K (.ref f19) = true)
    (a20 : PySem.W.nsIn K mainGlobals "_law_filling" = some (some (.ref f20))) (l20 : K.lookup f20 = some ⟨oc20, od20, .func (PySem.W.fnOf "_law_filling" "_law_filling" (defArgs s__law_filling) (defBody s__law_filling) (defScope s__law_filling) .none kV20 dc20 pm20 an20 cd20 ct20), sl20⟩) (c20 : PySem.W.codeIn K cd20 "_law_filling" = true) (k20 : PySem.W.keepIn K (.ref f20) = true)
    (a21 : PySem.W.nsIn K mainGlobals "_law_small" = some (some (.ref f21))) (l21 : K.lookup f21 = some ⟨oc21, od21, .func (PySem.W.fnOf "_law_small" "_law_small" (defArgs s__law_small) (defBody s__law_small) (defScope s__law_small) .none kV21 dc21 pm21 an21 cd21 ct21), sl21⟩) (c21 : PySem.W.codeIn K cd21 "_law_small" = true) (k21 : PySem.W.keepIn K (.ref f21) = true)
    (a22 : PySem.W.nsIn K mainGlobals "_law_exchanged" = some (some (.ref f22))) (l22 : K.lookup f22 = some ⟨oc22, od22, .func (PySem.W.fnOf "_law_exchanged" "_law_exchanged" (defArgs s__law_exchanged) (defBody s__law_exchanged) (defScope s__law_exchanged) .none kV22 dc22 pm22 an22 cd22 ct22), sl22⟩) (c22 : PySem.W.codeIn K cd22 "_law_exchanged" = true) (k22 : PySem.W.keepIn K (.ref f22) = true)
    (a23 : PySem.W.nsIn K mainGlobals "_law_too_great" = some (some (.ref f23))) (l23 : K.lookup f23 = some ⟨oc23, od23, .func (PySem.W.fnOf "_law_too_great" "_law_too_great" (defArgs s__law_too_great) (defBody s__law_too_great) (defScope s__law_too_great) .none kV23 dc23 pm23 an23 cd23 ct23), sl23⟩) (c23 : PySem.W.codeIn K cd23 "_law_too_great" = true) (k23 : PySem.W.keepIn K (.ref f23) = true)
    (a24 : PySem.W.nsIn K mainGlobals "law" = some (some (.ref f24))) (l24 : K.lookup f24 = some ⟨oc24, od24, .func (PySem.W.fnOf "law" "law" (defArgs s_law) (defBody s_law) (defScope s_law) .none kV24 dc24 pm24 an24 cd24 ct24), sl24⟩) (c24 : PySem.W.codeIn K cd24 "law" = true) (k24 : PySem.W.keepIn K (.ref f24) = true)
    (a25 : PySem.W.findIn K (.ref oC0) "__init__" = some (some (.ref f25))) (i25 : PySem.W.isFn K (.ref f25) = true) (l25 : K.lookup f25 = some ⟨oc25, od25, .func (PySem.W.fnOf "__init__" "Reader.__init__" (defArgs s_Reader___init__) (defBody s_Reader___init__) (defScope s_Reader___init__) .none kV25 dc25 pm25 an25 cd25 ct25), sl25⟩) (c25 : PySem.W.codeIn K cd25 "Reader.__init__" = true) (k25 : PySem.W.keepIn K (.ref f25) = true)
    (a26 : PySem.W.findIn K (.ref oC0) "sign_here" = some (some (.ref f26))) (i26 : PySem.W.isFn K (.ref f26) = true) (l26 : K.lookup f26 = some ⟨oc26, od26, .func (PySem.W.fnOf "sign_here" "Reader.sign_here" (defArgs s_Reader_sign_here) (defBody s_Reader_sign_here) (defScope s_Reader_sign_here) .none kV26 dc26 pm26 an26 cd26 ct26), sl26⟩) (c26 : PySem.W.codeIn K cd26 "Reader.sign_here" = true) (k26 : PySem.W.keepIn K (.ref f26) = true)
    (a27 : PySem.W.findIn K (.ref oC0) "begin_knot" = some (some (.ref f27))) (i27 : PySem.W.isFn K (.ref f27) = true) (l27 : K.lookup f27 = some ⟨oc27, od27, .func (PySem.W.fnOf "begin_knot" "Reader.begin_knot" (defArgs s_Reader_begin_knot) (defBody s_Reader_begin_knot) (defScope s_Reader_begin_knot) .none kV27 dc27 pm27 an27 cd27 ct27), sl27⟩) (c27 : PySem.W.codeIn K cd27 "Reader.begin_knot" = true) (k27 : PySem.W.keepIn K (.ref f27) = true)
    (a28 : PySem.W.findIn K (.ref oC0) "read_tree" = some (some (.ref f28))) (i28 : PySem.W.isFn K (.ref f28) = true) (l28 : K.lookup f28 = some ⟨oc28, od28, .func (PySem.W.fnOf "read_tree" "Reader.read_tree" (defArgs s_Reader_read_tree) (defBody s_Reader_read_tree) (defScope s_Reader_read_tree) .none kV28 dc28 pm28 an28 cd28 ct28), sl28⟩) (c28 : PySem.W.codeIn K cd28 "Reader.read_tree" = true) (k28 : PySem.W.keepIn K (.ref f28) = true)
    (a29 : PySem.W.findIn K (.ref oC0) "read_blank" = some (some (.ref f29))) (i29 : PySem.W.isFn K (.ref f29) = true) (l29 : K.lookup f29 = some ⟨oc29, od29, .func (PySem.W.fnOf "read_blank" "Reader.read_blank" (defArgs s_Reader_read_blank) (defBody s_Reader_read_blank) (defScope s_Reader_read_blank) .none kV29 dc29 pm29 an29 cd29 ct29), sl29⟩) (c29 : PySem.W.codeIn K cd29 "Reader.read_blank" = true) (k29 : PySem.W.keepIn K (.ref f29) = true)
    (a30 : PySem.W.findIn K (.ref oC0) "read_block" = some (some (.ref f30))) (i30 : PySem.W.isFn K (.ref f30) = true) (l30 : K.lookup f30 = some ⟨oc30, od30, .func (PySem.W.fnOf "read_block" "Reader.read_block" (defArgs s_Reader_read_block) (defBody s_Reader_read_block) (defScope s_Reader_read_block) .none kV30 dc30 pm30 an30 cd30 ct30), sl30⟩) (c30 : PySem.W.codeIn K cd30 "Reader.read_block" = true) (k30 : PySem.W.keepIn K (.ref f30) = true)
    (a31 : PySem.W.findIn K (.ref oC0) "read_name" = some (some (.ref f31))) (i31 : PySem.W.isFn K (.ref f31) = true) (l31 : K.lookup f31 = some ⟨oc31, od31, .func (PySem.W.fnOf "read_name" "Reader.read_name" (defArgs s_Reader_read_name) (defBody s_Reader_read_name) (defScope s_Reader_read_name) .none kV31 dc31 pm31 an31 cd31 ct31), sl31⟩) (c31 : PySem.W.codeIn K cd31 "Reader.read_name" = true) (k31 : PySem.W.keepIn K (.ref f31) = true)
    (a32 : PySem.W.findIn K (.ref oC0) "read_parts" = some (some (.ref f32))) (i32 : PySem.W.isFn K (.ref f32) = true) (l32 : K.lookup f32 = some ⟨oc32, od32, .func (PySem.W.fnOf "read_parts" "Reader.read_parts" (defArgs s_Reader_read_parts) (defBody s_Reader_read_parts) (defScope s_Reader_read_parts) .none kV32 dc32 pm32 an32 cd32 ct32), sl32⟩) (c32 : PySem.W.codeIn K cd32 "Reader.read_parts" = true) (k32 : PySem.W.keepIn K (.ref f32) = true)
    (z0 : PySem.W.nsIn K mainGlobals "all" = some none)
    (z1 : PySem.W.nsIn K mainGlobals "bool" = some none)
    (z2 : PySem.W.nsIn K mainGlobals "int" = some none)
    (z3 : PySem.W.nsIn K mainGlobals "isinstance" = some none)
    (z4 : PySem.W.nsIn K mainGlobals "len" = some none)
    (z5 : PySem.W.nsIn K mainGlobals "list" = some none)
    (z6 : PySem.W.nsIn K mainGlobals "max" = some none)
    (z7 : PySem.W.nsIn K mainGlobals "min" = some none)
    (z8 : PySem.W.nsIn K mainGlobals "range" = some none)
    (z9 : PySem.W.nsIn K mainGlobals "str" = some none)
    (z10 : PySem.W.nsIn K mainGlobals "tuple" = some none)
    (y0 : PySem.W.nsIn K mainGlobals "MOST_BLANK" = some (some (.int 1000000000 tk0)))
    (y1 : PySem.W.nsIn K mainGlobals "MOST_BLANK_FIGURES" = some (some (.int 10 tk1)))
    (y2 : PySem.W.nsIn K mainGlobals "MOST_DEPTH" = some (some (.int 30 tk2)))
    (y3 : PySem.W.nsIn K mainGlobals "MOST_KNOTS" = some (some (.int 200 tk3)))
    (y4 : PySem.W.nsIn K mainGlobals "MOST_NAME_SIGNS" = some (some (.int 12 tk4)))
    (y5 : PySem.W.nsIn K mainGlobals "MOST_PARTS" = some (some (.int 9 tk5)))
    (y6 : PySem.W.nsIn K mainGlobals "MOST_TOLD_DEPTH" = some (some (.int 60 tk6)))
    (y7 : PySem.W.nsIn K mainGlobals "MOST_TOLD_KNOTS" = some (some (.int 400 tk7)))
    (q0 : PySem.W.nsIn K mainGlobals "FormError" = some (some (.ref xa0))) (e0 : PySem.W.excIn K xa0 bmVE "ValueError.__new__" = true)
    (q1 : PySem.W.nsIn K mainGlobals "BadText" = some (some (.ref xa1))) (e1 : PySem.W.excIn K xa1 bmVE "ValueError.__new__" = true)
    (q2 : PySem.W.nsIn K mainGlobals "TooLong" = some (some (.ref xa2))) (e2 : PySem.W.excIn K xa2 bmVE "ValueError.__new__" = true)
    (kt : kitTab K [xa0, xa1, xa2] = ([[true, false, false], [true, true, false], [true, false, true]] : List (List Bool)).map fun r => r.map some) (ia : isaTab K [xa0, xa1, xa2] = ([[true, false, false], [true, true, false], [true, false, true]] : List (List Bool)).map fun r => r.map some)
    (ve : ([xa0, xa1, xa2] : List Addr).map (fun c => PySem.W.kitOne K (.ref c) (.type "ValueError")) = ([xa0, xa1, xa2] : List Addr).map fun _ => some true)
    (fc : ([xa0, xa1, xa2] : List Addr).map (fun c => PySem.W.findIn K (.ref c) "__class__") = ([xa0, xa1, xa2] : List Addr).map fun _ => some (some (.builtin "object.__class__")))
    (fg : ([xa0, xa1, xa2] : List Addr).map (fun c => PySem.W.findIn K (.ref c) "__getattribute__") = ([xa0, xa1, xa2] : List Addr).map fun _ => some (some (.builtin "BaseException.__getattribute__")))
    (fga : ([xa0, xa1, xa2] : List Addr).map (fun c => PySem.W.findIn K (.ref c) "__getattr__") = ([xa0, xa1, xa2] : List Addr).map fun _ => some none)
    : ∃ fd : FuncData, (∀ (s : Shared) (v : Value), BindsTo s fd ⟨[v], []⟩ [("script", v)]) ∧ ∀ base : Heap, K.In base → base.Ns mainGlobals mg → FnOk l.prog w K mg base CX0 kLaw fa fd ["script"] (lowSp K spLaw) := by
  have e := hfa.symm.trans (PySem.W.mg_of X G a24)
  cases e
  have ph0 := PySem.W.mg_of X G ka0
  have ch0 := cl_of ph0
  have F0 := fun_mk (st := s_is_letter) l0 c0 k0
  have b0 := F0.binds (ps := ["sign"]) fun _ _ _ _ _ _ => allN1 fun _ => rfl
  have F1 := fun_mk (st := s_is_figure) l1 c1 k1
  have b1 := F1.binds (ps := ["sign"]) fun _ _ _ _ _ _ => allN1 fun _ => rfl
  have F2 := fun_mk (st := s_is_name) l2 c2 k2
  have b2 := F2.binds (ps := ["text"]) fun _ _ _ _ _ _ => allN1 fun _ => rfl
  have F3 := fun_mk (st := s_parts_of) l3 c3 k3
  have b3 := F3.binds (ps := ["tree"]) fun _ _ _ _ _ _ => allN1 fun _ => rfl
  have F4 := fun_mk (st := s_knots_of) l4 c4 k4
  have b4 := F4.binds (ps := ["tree"]) fun _ _ _ _ _ _ => allN1 fun _ => rfl
  have F5 := fun_mk (st := s_depth_of) l5 c5 k5
  have b5 := F5.binds (ps := ["tree"]) fun _ _ _ _ _ _ => allN1 fun _ => rfl
  have F6 := fun_mk (st := s_exchanged) l6 c6 k6
  have b6 := F6.binds (ps := ["tree", "filling"]) fun _ _ _ _ _ _ => allN2 fun _ _ => rfl
  have F7 := fun_mk (st := s_refuse_too_great) l7 c7 k7
  have b7 := F7.binds (ps := ["tree"]) fun _ _ _ _ _ _ => allN1 fun _ => rfl
  have F8 := fun_mk (st := s_filled) l8 c8 k8
  have b8 := F8.binds (ps := ["tree", "filling"]) fun _ _ _ _ _ _ => allN2 fun _ _ => rfl
  have F9 := fun_mk (st := s_one_behind) l9 c9 k9
  have b9 := F9.binds (ps := ["one", "other"]) fun _ _ _ _ _ _ => allN2 fun _ _ => rfl
  have F10 := fun_mk (st := s_written) l10 c10 k10
  have b10 := F10.binds (ps := ["tree"]) fun _ _ _ _ _ _ => allN1 fun _ => rfl
  have F11 := fun_mk (st := s_blank_number) l11 c11 k11
  have b11 := F11.binds (ps := ["figures"]) fun _ _ _ _ _ _ => allN1 fun _ => rfl
  have F12 := fun_mk (st := s_read) l12 c12 k12
  have b12 := F12.binds (ps := ["text"]) fun _ _ _ _ _ _ => allN1 fun _ => rfl
  have F13 := fun_mk (st := s__law_cell_at) l13 c13 k13
  have b13 := F13.binds (ps := ["script", "k"]) fun _ _ _ _ _ _ => allN2 fun _ _ => rfl
  have F14 := fun_mk (st := s__law_draw) l14 c14 k14
  have b14 := F14.binds (ps := ["cell", "k", "many"]) fun _ _ _ _ _ _ => allN3 fun _ _ _ => rfl
  have F15 := fun_mk (st := s__law_alike) l15 c15 k15
  have b15 := F15.binds (ps := ["found", "due"]) fun _ _ _ _ _ _ => allN2 fun _ _ => rfl
  have F16 := fun_mk (st := s__law_names) l16 c16 k16
  have b16 := F16.binds (ps := ["cell"]) fun _ _ _ _ _ _ => allN1 fun _ => rfl
  have F17 := fun_mk (st := s__law_leaf) l17 c17 k17
  have b17 := F17.binds (ps := ["cell", "first", "names", "shares"]) fun _ _ _ _ _ _ => allN4 fun _ _ _ _ => rfl
  have F18 := fun_mk (st := s__law_tree) l18 c18 k18
  have b18 := F18.binds (ps := ["cells", "first", "shares"]) fun _ _ _ _ _ _ => allN3 fun _ _ _ => rfl
  have F19 := fun_mk (st := s__law_places) l19 c19 k19
  have b19 := F19.binds (ps := ["tree"]) fun _ _ _ _ _ _ => allN1 fun _ => rfl
  have F20 := fun_mk (st := s__law_filling) l20 c20 k20
  have b20 := F20.binds (ps := ["cells", "first", "way"]) fun _ _ _ _ _ _ => allN3 fun _ _ _ => rfl
  have F21 := fun_mk (st := s__law_small) l21 c21 k21
  have b21 := F21.binds (ps := ["cells", "first", "way"]) fun _ _ _ _ _ _ => allN3 fun _ _ _ => rfl
  have F22 := fun_mk (st := s__law_exchanged) l22 c22 k22
  have b22 := F22.binds (ps := ["tree", "filling"]) fun _ _ _ _ _ _ => allN2 fun _ _ => rfl
  have F23 := fun_mk (st := s__law_too_great) l23 c23 k23
  have b23 := F23.binds (ps := ["tree", "filling"]) fun _ _ _ _ _ _ => allN2 fun _ _ => rfl
  have F25 := fun_mk (st := s_Reader___init__) l25 c25 k25
  have b25 := F25.binds (ps := ["self", "text"]) fun _ _ _ _ _ _ => allN2 fun _ _ => rfl
  have F26 := fun_mk (st := s_Reader_sign_here) l26 c26 k26
  have b26 := F26.binds (ps := ["self"]) fun _ _ _ _ _ _ => allN1 fun _ => rfl
  have F27 := fun_mk (st := s_Reader_begin_knot) l27 c27 k27
  have b27 := F27.binds (ps := ["self", "depth"]) fun _ _ _ _ _ _ => allN2 fun _ _ => rfl
  have F28 := fun_mk (st := s_Reader_read_tree) l28 c28 k28
  have b28 := F28.binds (ps := ["self", "depth"]) fun _ _ _ _ _ _ => allN2 fun _ _ => rfl
  have F29 := fun_mk (st := s_Reader_read_blank) l29 c29 k29
  have b29 := F29.binds (ps := ["self"]) fun _ _ _ _ _ _ => allN1 fun _ => rfl
  have F30 := fun_mk (st := s_Reader_read_block) l30 c30 k30
  have b30 := F30.binds (ps := ["self", "depth"]) fun _ _ _ _ _ _ => allN2 fun _ _ => rfl
  have F31 := fun_mk (st := s_Reader_read_name) l31 c31 k31
  have b31 := F31.binds (ps := ["self"]) fun _ _ _ _ _ _ => allN1 fun _ => rfl
  have F32 := fun_mk (st := s_Reader_read_parts) l32 c32 k32
  have b32 := F32.binds (ps := ["self", "depth"]) fun _ _ _ _ _ _ => allN2 fun _ _ => rfl
  have p0 := PySem.W.mg_of X G q0
  have cc0 := cl_of p0
  have p1 := PySem.W.mg_of X G q1
  have cc1 := cl_of p1
  have p2 := PySem.W.mg_of X G q2
  have cc2 := cl_of p2
  have xtab : XTab K [cl mg "FormError", cl mg "BadText", cl mg "TooLong"] [[true, false, false], [true, true, false], [true, false, true]] := by
    rw [cc0, cc1, cc2]
    refine ⟨fun c hc => ?_, kt, ia, ve, fc, fg, fga⟩
    simp only [List.mem_cons, List.not_mem_nil, or_false] at hc
    rcases hc with rfl | rfl | rfl <;> assumption
  have TX : Txt K mg := { n_Reader := by rw [ch0]; exact ph0, c_Reader := by rw [ch0]; exact ⟨kb0, kc0, kd0, ke0⟩, a_Reader_at := by rw [ch0]; exact kh0_0, a_Reader_knots := by rw [ch0]; exact kh0_1, a_Reader_text := by rw [ch0]; exact kh0_2, f_is_letter := ⟨_, _, F0, b0, PySem.W.mg_of X G a0⟩, f_is_figure := ⟨_, _, F1, b1, PySem.W.mg_of X G a1⟩, f_is_name := ⟨_, _, F2, b2, PySem.W.mg_of X G a2⟩, f_parts_of := ⟨_, _, F3, b3, PySem.W.mg_of X G a3⟩, f_knots_of := ⟨_, _, F4, b4, PySem.W.mg_of X G a4⟩, f_depth_of := ⟨_, _, F5, b5, PySem.W.mg_of X G a5⟩, f_exchanged := ⟨_, _, F6, b6, PySem.W.mg_of X G a6⟩, f_refuse_too_great := ⟨_, _, F7, b7, PySem.W.mg_of X G a7⟩, f_filled := ⟨_, _, F8, b8, PySem.W.mg_of X G a8⟩, f_one_behind := ⟨_, _, F9, b9, PySem.W.mg_of X G a9⟩, f_written := ⟨_, _, F10, b10, PySem.W.mg_of X G a10⟩, f_blank_number := ⟨_, _, F11, b11, PySem.W.mg_of X G a11⟩, f_read := ⟨_, _, F12, b12, PySem.W.mg_of X G a12⟩, f__law_cell_at := ⟨_, _, F13, b13, PySem.W.mg_of X G a13⟩, f__law_draw := ⟨_, _, F14, b14, PySem.W.mg_of X G a14⟩, f__law_alike := ⟨_, _, F15, b15, PySem.W.mg_of X G a15⟩, f__law_names := ⟨_, _, F16, b16, PySem.W.mg_of X G a16⟩, f__law_leaf := ⟨_, _, F17, b17, PySem.W.mg_of X G a17⟩, f__law_tree := ⟨_, _, F18, b18, PySem.W.mg_of X G a18⟩, f__law_places := ⟨_, _, F19, b19, PySem.W.mg_of X G a19⟩, f__law_filling := ⟨_, _, F20, b20, PySem.W.mg_of X G a20⟩, f__law_small := ⟨_, _, F21, b21, PySem.W.mg_of X G a21⟩, f__law_exchanged := ⟨_, _, F22, b22, PySem.W.mg_of X G a22⟩, f__law_too_great := ⟨_, _, F23, b23, PySem.W.mg_of X G a23⟩, f_Reader___init__ := by rw [ch0]; exact ⟨_, _, F25, b25, ⟨kf0, a25, i25, kg0⟩⟩, f_Reader_sign_here := by rw [ch0]; exact ⟨_, _, F26, b26, ⟨a26, i26, k26⟩⟩, f_Reader_begin_knot := by rw [ch0]; exact ⟨_, _, F27, b27, ⟨a27, i27, k27⟩⟩, f_Reader_read_tree := by rw [ch0]; exact ⟨_, _, F28, b28, ⟨a28, i28, k28⟩⟩, f_Reader_read_blank := by rw [ch0]; exact ⟨_, _, F29, b29, ⟨a29, i29, k29⟩⟩, f_Reader_read_block := by rw [ch0]; exact ⟨_, _, F30, b30, ⟨a30, i30, k30⟩⟩, f_Reader_read_name := by rw [ch0]; exact ⟨_, _, F31, b31, ⟨a31, i31, k31⟩⟩, f_Reader_read_parts := by rw [ch0]; exact ⟨_, _, F32, b32, ⟨a32, i32, k32⟩⟩, m_all := PySem.W.mg_none_of X G z0, m_bool := PySem.W.mg_none_of X G z1, m_int := PySem.W.mg_none_of X G z2, m_isinstance := PySem.W.mg_none_of X G z3, m_len := PySem.W.mg_none_of X G z4, m_list := PySem.W.mg_none_of X G z5, m_max := PySem.W.mg_none_of X G z6, m_min := PySem.W.mg_none_of X G z7, m_range := PySem.W.mg_none_of X G z8, m_str := PySem.W.mg_none_of X G z9, m_tuple := PySem.W.mg_none_of X G z10, g_MOST_BLANK := ⟨_, PySem.W.mg_of X G y0⟩, g_MOST_BLANK_FIGURES := ⟨_, PySem.W.mg_of X G y1⟩, g_MOST_DEPTH := ⟨_, PySem.W.mg_of X G y2⟩, g_MOST_KNOTS := ⟨_, PySem.W.mg_of X G y3⟩, g_MOST_NAME_SIGNS := ⟨_, PySem.W.mg_of X G y4⟩, g_MOST_PARTS := ⟨_, PySem.W.mg_of X G y5⟩, g_MOST_TOLD_DEPTH := ⟨_, PySem.W.mg_of X G y6⟩, g_MOST_TOLD_KNOTS := ⟨_, PySem.W.mg_of X G y7⟩, n_FormError := by rw [cc0]; exact p0, n_BadText := by rw [cc1]; exact p1, n_TooLong := by rw [cc2]; exact p2, xc := xtab }
  refine ⟨PySem.W.fnOf "law" "law" (defArgs s_law) (defBody s_law) (defScope s_law) .none kV24 dc24 pm24 an24 cd24 ct24, fun s v => .of_eq rfl, fun base _ _ => ?_⟩
  exact ok_law TX (fun_mk (st := s_law) l24 c24 k24)
theorem walk {l : PySem.W.OpenLaw} {q : Program} {loose : List Str} {XP : (Str → Option Value) → Heap → Prop} {YP : World → Heap → Prop} {d : DefRec} {K : Params → PySem.W.Frag} (hn : l.most = some 63) (hdf : d.params.defaults = [])
    (hY : ∀ (w : World) (h : Heap), YP w h → (K w.params).In h)
    (F : ∀ (w : World) (mg : Str → Option Value) (fa : Addr) (h : Heap), (K w.params).In h → h.Ns mainGlobals mg → mg d.name = some (.ref fa) →
      ∃ fd : FuncData, (∀ (s : Shared) (u : Value), BindsTo s fd ⟨[u], []⟩ [("script", u)]) ∧ ∀ base : Heap, (K w.params).In base → base.Ns mainGlobals mg → FnOk l.prog w (K w.params) mg base CX0 kLaw fa fd ["script"] (lowSp (K w.params) spLaw)) :
    PySem.W.WalkO q loose XP YP l.row.toRowW d [] (fun f vs => PySem.call f vs) :=
  L2.walk_of (n := 63) (k := kLaw) (x := "script") (CX := fun _ => CX0) (sp := fun w => lowSp (K w.params) spLaw) hn (by decide) hdf ⟨rfl, by decide, by decide⟩ hY F (fun _ _ a ns hl hO hS => law_low hO hl hS) fun _ _ _ _ _ z => z
end Law
theorem PySem.W.Fast.tw12375517867790081907 : True := trivial
theorem PySem.W.Fast.te12375517867790081907 : True := trivial
open PySem PySem.W PyProof.Rows
set_option maxRecDepth 100000 in
set_option maxHeartbeats 0 in
theorem PySem.Challenge.cw_commonform_k20_whole_filled_by_both_holds : PySem.Challenge.rw_commonform_k20_whole_filled_by_both.Holds := by
  w_on; o_law; k_head; (case hw => w_witness2)
  k_fill
  refine Law.walk (l := PySem.Challenge.rw_commonform_k20_whole_filled_by_both) rfl rfl (fun w h Y => PySem.W.kIn_of Y) ?F
  case F =>
    intro w mg fa h KX G hmg
    refine' Law.all_mk KX G hmg ?ka0 ?kb0 ?kc0 ?kd0 ?ke0 ?kf0 ?kg0 ?kh0_0 ?kh0_1 ?kh0_2 ?a0 ?l0 ?c0 ?k0 ?a1 ?l1 ?c1 ?k1 ?a2 ?l2 ?c2 ?k2 ?a3 ?l3 ?c3 ?k3 ?a4 ?l4 ?c4 ?k4 ?a5 ?l5 ?c5 ?k5 ?a6 ?l6 ?c6 ?k6 ?a7 ?l7 ?c7 ?k7 ?a8 ?l8 ?c8 ?k8 ?a9 ?l9 ?c9 ?k9 ?a10 ?l10 ?c10 ?k10 ?a11 ?l11 ?c11 ?k11 ?a12 ?l12 ?c12 ?k12 ?a13 ?l13 ?c13 ?k13 ?a14 ?l14 ?c14 ?k14 ?a15 ?l15 ?c15 ?k15 ?a16 ?l16 ?c16 ?k16 ?a17 ?l17 ?c17 ?k17 ?a18 ?l18 ?c18 ?k18 ?a19 ?l19 ?c19 ?k19 ?a20 ?l20 ?c20 ?k20 ?a21 ?l21 ?c21 ?k21 ?a22 ?l22 ?c22 ?k22 ?a23 ?l23 ?c23 ?k23 ?a24 ?l24 ?c24 ?k24 ?a25 ?i25 ?l25 ?c25 ?k25 ?a26 ?i26 ?l26 ?c26 ?k26 ?a27 ?i27 ?l27 ?c27 ?k27 ?a28 ?i28 ?l28 ?c28 ?k28 ?a29 ?i29 ?l29 ?c29 ?k29 ?a30 ?i30 ?l30 ?c30 ?k30 ?a31 ?i31 ?l31 ?c31 ?k31 ?a32 ?i32 ?l32 ?c32 ?k32 ?z0 ?z1 ?z2 ?z3 ?z4 ?z5 ?z6 ?z7 ?z8 ?z9 ?z10 ?y0 ?y1 ?y2 ?y3 ?y4 ?y5 ?y6 ?y7 ?q0 ?e0 ?q1 ?e1 ?q2 ?e2 ?kt ?ia ?ve ?fc ?fg ?fga
    (case ka0 => k_is)
    (case kb0 => k_is)
    (case kc0 => k_is)
    (case kd0 => k_is)
    (case ke0 => k_is)
    (case kf0 => k_is)
    (case kg0 => k_is)
    (case kh0_0 => k_is)
    (case kh0_1 => k_is)
    (case kh0_2 => k_is)
    (case a0 => k_is)
    (case l0 => k_is)
    (case c0 => k_is)
    (case k0 => k_is)
    (case a1 => k_is)
    (case l1 => k_is)
    (case c1 => k_is)
    (case k1 => k_is)
    (case a2 => k_is)
    (case l2 => k_is)
    (case c2 => k_is)
    (case k2 => k_is)
    (case a3 => k_is)
    (case l3 => k_is)
    (case c3 => k_is)
    (case k3 => k_is)
    (case a4 => k_is)
    (case l4 => k_is)
    (case c4 => k_is)
    (case k4 => k_is)
    (case a5 => k_is)
    (case l5 => k_is)
    (case c5 => k_is)
    (case k5 => k_is)
    (case a6 => k_is)
    (case l6 => k_is)
    (case c6 => k_is)
    (case k6 => k_is)
    (case a7 => k_is)
    (case l7 => k_is)
    (case c7 => k_is)
    (case k7 => k_is)
    (case a8 => k_is)
    (case l8 => k_is)
    (case c8 => k_is)
    (case k8 => k_is)
    (case a9 => k_is)
    (case l9 => k_is)
    (case c9 => k_is)
    (case k9 => k_is)
    (case a10 => k_is)
    (case l10 => k_is)
    (case c10 => k_is)
    (case k10 => k_is)
    (case a11 => k_is)
    (case l11 => k_is)
    (case c11 => k_is)
    (case k11 => k_is)
    (case a12 => k_is)
    (case l12 => k_is)
    (case c12 => k_is)
    (case k12 => k_is)
    (case a13 => k_is)
    (case l13 => k_is)
    (case c13 => k_is)
    (case k13 => k_is)
    (case a14 => k_is)
    (case l14 => k_is)
    (case c14 => k_is)
    (case k14 => k_is)
    (case a15 => k_is)
    (case l15 => k_is)
    (case c15 => k_is)
    (case k15 => k_is)
    (case a16 => k_is)
    (case l16 => k_is)
    (case c16 => k_is)
    (case k16 => k_is)
    (case a17 => k_is)
    (case l17 => k_is)
    (case c17 => k_is)
    (case k17 => k_is)
    (case a18 => k_is)
    (case l18 => k_is)
    (case c18 => k_is)
    (case k18 => k_is)
    (case a19 => k_is)
    (case l19 => k_is)
    (case c19 => k_is)
    (case k19 => k_is)
    (case a20 => k_is)
    (case l20 => k_is)
    (case c20 => k_is)
    (case k20 => k_is)
    (case a21 => k_is)
    (case l21 => k_is)
    (case c21 => k_is)
    (case k21 => k_is)
    (case a22 => k_is)
    (case l22 => k_is)
    (case c22 => k_is)
    (case k22 => k_is)
    (case a23 => k_is)
    (case l23 => k_is)
    (case c23 => k_is)
    (case k23 => k_is)
    (case a24 => k_is)
    (case l24 => k_is)
    (case c24 => k_is)
    (case k24 => k_is)
    (case a25 => k_is)
    (case i25 => k_is)
    (case l25 => k_is)
    (case c25 => k_is)
    (case k25 => k_is)
    (case a26 => k_is)
    (case i26 => k_is)
    (case l26 => k_is)
    (case c26 => k_is)
    (case k26 => k_is)
    (case a27 => k_is)
    (case i27 => k_is)
    (case l27 => k_is)
    (case c27 => k_is)
    (case k27 => k_is)
    (case a28 => k_is)
    (case i28 => k_is)
    (case l28 => k_is)
    (case c28 => k_is)
    (case k28 => k_is)
    (case a29 => k_is)
    (case i29 => k_is)
    (case l29 => k_is)
    (case c29 => k_is)
    (case k29 => k_is)
    (case a30 => k_is)
    (case i30 => k_is)
    (case l30 => k_is)
    (case c30 => k_is)
    (case k30 => k_is)
    (case a31 => k_is)
    (case i31 => k_is)
    (case l31 => k_is)
    (case c31 => k_is)
    (case k31 => k_is)
    (case a32 => k_is)
    (case i32 => k_is)
    (case l32 => k_is)
    (case c32 => k_is)
    (case k32 => k_is)
    (case z0 => k_is)
    (case z1 => k_is)
    (case z2 => k_is)
    (case z3 => k_is)
    (case z4 => k_is)
    (case z5 => k_is)
    (case z6 => k_is)
    (case z7 => k_is)
    (case z8 => k_is)
    (case z9 => k_is)
    (case z10 => k_is)
    (case y0 => k_is)
    (case y1 => k_is)
    (case y2 => k_is)
    (case y3 => k_is)
    (case y4 => k_is)
    (case y5 => k_is)
    (case y6 => k_is)
    (case y7 => k_is)
    (case q0 => k_is)
    (case e0 => k_exc)
    (case q1 => k_is)
    (case e1 => k_exc)
    (case q2 => k_is)
    (case e2 => k_exc)
    (case kt => rfl)
    (case ia => rfl)
    (case ve => rfl)
    (case fc => rfl)
    (case fg => rfl)
    (case fga => rfl)


